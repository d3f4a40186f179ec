/-
  Several texts in one:  ·  · 
-/
import Derived.Test.YtcdmgcgjonndpaaK00
import Derived.Test.YtcdmgcgjonndpaaK03
import Derived.Sort.Walk0
import Derived.Test.YtcdmgcgjonndpaaK07
import Derived.Deep.DeepCutAuto
import Derived.BigQuiet
/-  -/
namespace Go.Proofs.Ytcdmgcgjonndpaa
open Go
open Go.Sort
open M
def AtN (t : Ty) (s : ByteArray) (x : Ty) : Prop := ∃ i : Nat, t.names[i]? = some s ∧ t.subs[i]? = some x
theorem at_some {α : Type} {l : List α} {i : Nat} (h : i < l.length) : ∃ y, l[i]? = some y := ⟨_, List.getElem?_eq_getElem h⟩
theorem sub_lt {x t : Ty} (h : x ∈ t.subs) : many x < many t := by
 have h1 := manyL_mem _ _ h
 have e : many t = 1 + manyL t.subs := by cases t; rfl
 omega
theorem sub_lt_at {x t : Ty} {i : Nat} (h : t.subs[i]? = some x) : many x < many t := sub_lt (List.mem_of_getElem? h)
theorem AtN.lt {t x : Ty} {s : ByteArray} (h : AtN t s x) : many x < many t := by
 obtain ⟨i, -, h⟩ := h
 exact sub_lt_at h
theorem AtN.sub {t x : Ty} {s : ByteArray} (h : AtN t s x) : x ∈ t.subs := by
 obtain ⟨i, -, h⟩ := h
 exact List.mem_of_getElem? h
theorem AtN.name {t x : Ty} {s : ByteArray} (h : AtN t s x) : s ∈ t.names := by
 obtain ⟨i, h, -⟩ := h
 exact List.mem_of_getElem? h
abbrev LtS (a b : ByteArray) : Prop := a.data.toList < b.data.toList
theorem lts_irrefl (a : ByteArray) : ¬ LtS a a := List.lt_irrefl _
theorem lts_trans {a b c : ByteArray} (h1 : LtS a b) (h2 : LtS b c) : LtS a c := List.lt_trans h1 h2
theorem bytes_eq {a b : ByteArray} (h : a.data.toList = b.data.toList) : a = b := by
 cases a with | mk a => cases b with | mk b =>
 cases a; cases b
 simp at h
 rw [h]
theorem lts_tri (a b : ByteArray) : LtS a b ∨ a = b ∨ LtS b a := by
 by_cases h1 : LtS a b
 ·exact .inl h1
 ·by_cases h2 : LtS b a
  ·exact .inr (.inr h2)
  ·exact .inr (.inl (bytes_eq (List.le_antisymm (α := UInt8) h2 h1)))
theorem bless_lts (a b : ByteArray) : Op.bytesLess a.toList b.toList = decide (LtS a b) := by rw [bytesLess_eq, Lib.toList_data, Lib.toList_data]
theorem leS_lts (a b : ByteArray) : leS a b = !decide (LtS b a) := by
 unfold leS
 rw [bless_lts]
 rcases lts_tri a b with h | h | h
 ·rw [decide_eq_true h, decide_eq_false (fun h' => lts_irrefl _ (lts_trans h h'))]; rfl
 ·subst h
  rw [decide_eq_false (lts_irrefl a)]; simp
 ·rw [decide_eq_true h, decide_eq_false (fun h' => lts_irrefl _ (lts_trans h h'))]
  have hne : a ≠ b := fun e => by subst e; exact lts_irrefl _ h
  have : a.toList ≠ b.toList := fun e => hne (bytes_eq (by rw [Lib.toList_data, Lib.toList_data] at e; exact e))
  simp [this]
abbrev Rising (l : List ByteArray) : Prop := l.Pairwise LtS
theorem rising_at {l : List ByteArray} (h : ∀ i, i + 1 < l.length → LtS (nameAt l i) (nameAt l (i + 1))) : Rising l := by
 have key : ∀ (k i : Nat), i + k + 1 < l.length → LtS (nameAt l i) (nameAt l (i + k + 1)) := by
  intro k
  induction k with
  | zero => intro i hi; exact h i hi
  | succ k ih => intro i hi; exact lts_trans (ih i (by omega)) (h (i + k + 1) (by omega))
 refine List.pairwise_iff_getElem.2 fun i j hi hj hij => ?_
 have := key (j - i - 1) i (by omega)
 rw [show i + (j - i - 1) + 1 = j by omega] at this
 unfold nameAt at this
 simp [List.getD_eq_getElem?_getD, hi, hj] at this
 exact this
theorem rising_nodup {l : List ByteArray} (h : Rising l) : l.Nodup := h.imp fun h e => by subst e; exact lts_irrefl _ h
theorem rising_one : ∀ (l l' : List ByteArray), Rising l → Rising l' → (∀ s, s ∈ l ↔ s ∈ l') → l = l'
 | [], [], _, _, _ => rfl
 | [], b :: r, _, _, h => absurd ((h b).2 List.mem_cons_self) (by simp)
 | a :: r, [], _, _, h => absurd ((h a).1 List.mem_cons_self) (by simp)
 | a :: r, b :: q, h1, h2, h => by
  have h1 := List.pairwise_cons.1 h1
  have h2 := List.pairwise_cons.1 h2
  have hab : a = b := by
   rcases List.mem_cons.1 ((h a).1 List.mem_cons_self) with e | e
   ·exact e
   ·rcases List.mem_cons.1 ((h b).2 List.mem_cons_self) with e' | e'
    ·exact e'.symm
    ·exact absurd (lts_trans (h1.1 b e') (h2.1 a e)) (lts_irrefl _)
  subst hab
  rw [rising_one r q h1.2 h2.2 fun s => ⟨fun hs => ?_, fun hs => ?_⟩]
  ·rcases List.mem_cons.1 ((h s).1 (List.mem_cons_of_mem _ hs)) with e | e
   ·subst e; exact absurd (h1.1 s hs) (lts_irrefl _)
   ·exact e
  ·rcases List.mem_cons.1 ((h s).2 (List.mem_cons_of_mem _ hs)) with e | e
   ·subst e; exact absurd (h2.1 s hs) (lts_irrefl _)
   ·exact e
theorem nodup_at {l : List ByteArray} (h : l.Nodup) {i j : Nat} {s : ByteArray} (hi : l[i]? = some s) (hj : l[j]? = some s) : i = j := by
 obtain ⟨hi', e⟩ := List.getElem?_eq_some_iff.1 hi
 obtain ⟨hj', e'⟩ := List.getElem?_eq_some_iff.1 hj
 rcases Nat.lt_trichotomy i j with c | c | c
 ·exact absurd (e.trans e'.symm) (List.pairwise_iff_getElem.1 h i j hi' hj' c)
 ·exact c
 ·exact absurd (e'.trans e.symm) (List.pairwise_iff_getElem.1 h j i hj' hi' c)
def ownG (t : Ty) : Bool := namesOk t.kind t.names && shapeOk t && !(t.kind == 8)
inductive GoodT : Ty → Prop
 | mk (t : Ty) (h : ownG t = true) (hs : ∀ s, s ∈ t.subs → GoodT s) : GoodT t
theorem GoodT.own {t : Ty} (h : GoodT t) : ownG t = true := by cases h; assumption
theorem GoodT.sub {t s : Ty} (h : GoodT t) (hs : s ∈ t.subs) : GoodT s := by cases h with | mk t h hs' => exact hs' s hs
theorem plain_own {t : Ty} (h : plainT t = true) : t.kind ≠ 8 ∧ ∀ s ∈ t.subs, plainT s = true := by
 cases t with
 | mk k p j d n ns ss =>
  unfold plainT at h
  simp only [Bool.and_eq_true, Bool.not_eq_true', beq_eq_false_iff_ne] at h
  refine ⟨h.1, ?_⟩
  have key : ∀ l : List Ty, plainL l = true → ∀ s ∈ l, plainT s = true := by
   intro l
   induction l with
   | nil => intro _ s hs; cases hs
   | cons a r ih =>
    intro h s hs
    unfold plainL at h
    rw [Bool.and_eq_true] at h
    rcases List.mem_cons.1 hs with rfl | hs
    ·exact h.1
    ·exact ih h.2 s hs
  exact key ss h.2
theorem good_of_ok : ∀ (N : Nat) (t : Ty), many t ≤ N → allOk t = true → plainT t = true → GoodT t := by
 intro N
 induction N with
 | zero => intro t h; have := many_pos t; omega
 | succ N ih =>
  intro t hN ha hp
  rw [allOk_eq, Bool.and_eq_true] at ha
  obtain ⟨h8, hs⟩ := plain_own hp
  refine .mk t ?_ fun s hm => ih s (by have := sub_lt hm; omega) ((allOkL_mem _).1 ha.2 s hm) (hs s hm)
  have h1 := ha.1
  unfold ownOk at h1
  simp only [Bool.and_eq_true] at h1
  unfold ownG
  rw [h1.1.2, h1.2]
  simpa using h8
theorem good_of_may {t : Ty} (h : mayT t = true) (hp : plainT t = true) : GoodT t := by
 unfold mayT at h
 simp only [Bool.and_eq_true] at h
 exact good_of_ok _ t (Nat.le_refl _) h.1.1 hp
theorem empty_is {s : ByteArray} (h : emptyB s = true) : s = ⟨#[]⟩ := by
 unfold emptyB at h
 have h := of_decide_eq_true h
 cases s with | mk d => cases d with | mk l =>
 simp only [ByteArray.size, List.size_toArray, List.length_eq_zero_iff] at h
 rw [h]
structure Bare (t : Ty) : Prop where
 pkg : t.pkg = ⟨#[]⟩
 major : t.major = 0
 mod : t.mod = ⟨#[]⟩
 name : t.name = ⟨#[]⟩
theorem bare_of {t : Ty} (h : noMore t = true) : Bare t := by
 unfold noMore at h
 simp only [Bool.and_eq_true, beq_iff_eq] at h
 exact ⟨empty_is h.1.1.1, h.1.1.2, empty_is h.1.2, empty_is h.2⟩
theorem Bare.no {t : Ty} (h : Bare t) : noMore t = true := by
 unfold noMore
 rw [h.pkg, h.major, h.mod, h.name]; rfl
theorem Bare.ext {a b : Ty} (ha : Bare a) (hb : Bare b) (h1 : a.kind = b.kind) (h2 : a.names = b.names) (h3 : a.subs = b.subs) : a = b :=
 ty_ext h1 (ha.pkg.trans hb.pkg.symm) (ha.major.trans hb.major.symm) (ha.mod.trans hb.mod.symm) (ha.name.trans hb.name.symm) h2 h3
def nameB (k : Int) (s : ByteArray) : Bool := (!(k == 5) || smallB s.data.toList) && (!(k == 6) || greatB s.data.toList)
theorem names_rise {k : Int} {l : List ByteArray} (h : namesOk k l = true) : Rising l ∧ ∀ s ∈ l, nameB k s = true := by
 rw [namesOk_iff] at h
 refine ⟨rising_at fun i hi => ?_, fun s hs => ?_⟩
 ·have := h (i + 1) hi
  unfold badName at this
  simp only [Bool.or_eq_false_iff, Bool.and_eq_false_iff] at this
  rcases this.2 with c | c
  ·simp at c
  ·rw [leS_lts] at c
   simp at c
   exact c
 ·obtain ⟨i, hi⟩ := List.getElem?_of_mem hs
  obtain ⟨hi', e⟩ := List.getElem?_eq_some_iff.1 hi
  have := h i hi'
  unfold badName at this
  have en : nameAt l i = s := by unfold nameAt; simp [List.getD_eq_getElem?_getD, hi]
  rw [en] at this
  simp only [Bool.or_eq_false_iff, Bool.and_eq_false_iff, Bool.not_eq_false'] at this
  unfold nameB
  rcases this.1.1 with c | c <;> rcases this.1.2 with d | d <;> simp [c, d]
theorem names_ok {k : Int} {l : List ByteArray} (h : Rising l) (hn : ∀ s ∈ l, nameB k s = true) : namesOk k l = true := by
 rw [namesOk_iff]
 intro i hi
 have hs : l[i]? = some l[i] := List.getElem?_eq_getElem hi
 have en : nameAt l i = l[i] := by unfold nameAt; simp [List.getD_eq_getElem?_getD, hi]
 have hb := hn _ (List.getElem_mem hi)
 unfold nameB at hb
 simp only [Bool.and_eq_true, Bool.or_eq_true, Bool.not_eq_true'] at hb
 unfold badName
 rw [en]
 simp only [Bool.or_eq_false_iff, Bool.and_eq_false_iff, Bool.not_eq_false']
 refine ⟨⟨hb.1, hb.2⟩, ?_⟩
 rcases Nat.eq_zero_or_pos i with h0 | h0
 ·exact .inl (by simp [h0])
 ·refine .inr ?_
  rw [leS_lts]
  have e2 : nameAt l (i - 1) = l[i - 1] := by unfold nameAt; simp [List.getD_eq_getElem?_getD, show i - 1 < l.length by omega]
  rw [e2, decide_eq_true (List.pairwise_iff_getElem.1 h (i - 1) i (by omega) hi (by omega))]; rfl
theorem GoodT.rise {t : Ty} (h : GoodT t) : Rising t.names := by
 have := h.own
 unfold ownG at this
 simp only [Bool.and_eq_true] at this
 exact (names_rise this.1.1).1
theorem GoodT.nodup {t : Ty} (h : GoodT t) : t.names.Nodup := rising_nodup h.rise
theorem GoodT.named {t : Ty} (h : GoodT t) : ∀ s ∈ t.names, nameB t.kind s = true := by
 have := h.own
 unfold ownG at this
 simp only [Bool.and_eq_true] at this
 exact (names_rise this.1.1).2
theorem GoodT.shape {t : Ty} (h : GoodT t) : shapeOk t = true := by
 have := h.own
 unfold ownG at this
 simp only [Bool.and_eq_true] at this
 exact this.1.2
theorem GoodT.row {t : Ty} (h : GoodT t) (hk : t.kind = 5 ∨ t.kind = 6) : Bare t ∧ t.subs.length = t.names.length ∧ (t.kind = 6 → 0 < t.subs.length) := by
 have hs := h.shape
 unfold shapeOk at hs
 rcases hk with hk | hk <;> rw [hk] at hs <;> simp at hs
 ·exact ⟨bare_of hs.1, hs.2, fun h => by rw [hk] at h; cases h⟩
 ·exact ⟨bare_of hs.1.1, hs.1.2, fun _ => hs.2⟩
theorem GoodT.parts {t : Ty} (h : GoodT t) (hk : t.kind = 4 ∨ t.kind = 7) : Bare t ∧ t.names = [] ∧ 0 < t.subs.length ∧ (t.kind = 4 → t.subs.length = 1) := by
 have hs := h.shape
 unfold shapeOk at hs
 rcases hk with hk | hk <;> rw [hk] at hs <;> simp at hs
 ·exact ⟨bare_of hs.1.1, hs.2, by omega, fun _ => hs.1.2⟩
 ·exact ⟨bare_of hs.1.1, hs.2, hs.1.2, fun h => by rw [hk] at h; cases h⟩
theorem GoodT.leaf {t : Ty} (h : GoodT t) (h4 : t.kind ≠ 4) (h5 : t.kind ≠ 5) (h6 : t.kind ≠ 6) (h7 : t.kind ≠ 7) : t.subs = [] ∧ t.names = [] := by
 have hs := h.shape
 unfold shapeOk at hs
 split at hs
 ·simp at hs; exact ⟨hs.1.2, hs.2⟩
 ·split at hs
  ·simp at hs; exact ⟨hs.1.1.1.1.1, hs.1.1.1.1.2⟩
  ·split at hs
   ·simp at hs; exact ⟨hs.1.1.1.1.1.1, hs.1.1.1.1.1.2⟩
   ·cases hs
theorem GoodT.one {t x y : Ty} {s : ByteArray} (h : GoodT t) (hx : AtN t s x) (hy : AtN t s y) : x = y := by
 obtain ⟨i, h1, h2⟩ := hx
 obtain ⟨j, h3, h4⟩ := hy
 obtain rfl := nodup_at h.nodup h1 h3
 rw [h2] at h4
 exact Option.some.inj h4
theorem GoodT.has {t : Ty} {s : ByteArray} (h : GoodT t) (hk : t.kind = 5 ∨ t.kind = 6) (hs : s ∈ t.names) : ∃ x, AtN t s x := by
 obtain ⟨i, hi⟩ := List.getElem?_of_mem hs
 have hi' := (List.getElem?_eq_some_iff.1 hi).1
 have hl := (h.row hk).2.1
 exact ⟨_, i, hi, List.getElem?_eq_getElem (by omega)⟩
def SubR (a b : Ty) : Prop :=
 a.kind = b.kind ∧
 (a.kind = 5 → ∀ s y, AtN b s y → ∃ x, ∃ _ : AtN a s x, ∃ _ : AtN b s y, SubR x y) ∧
 (a.kind = 6 → ∀ s x, AtN a s x → ∃ y, ∃ _ : AtN a s x, ∃ _ : AtN b s y, SubR x y) ∧
 ((a.kind = 4 ∨ a.kind = 7) → a.subs.length = b.subs.length ∧ ∀ i x y, (hx : a.subs[i]? = some x) → (hy : b.subs[i]? = some y) → (i + 1 = a.subs.length → SubR x y) ∧ (i + 1 ≠ a.subs.length → SubR y x)) ∧
 ((a.kind ≠ 4 ∧ a.kind ≠ 5 ∧ a.kind ≠ 6 ∧ a.kind ≠ 7) → a = b)
termination_by many a + many b
decreasing_by
 ·rename_i h1 h2
  have := h1.lt; have := h2.lt; omega
 ·rename_i h1 h2
  have := h1.lt; have := h2.lt; omega
 ·have := sub_lt_at hx; have := sub_lt_at hy; omega
 ·have := sub_lt_at hx; have := sub_lt_at hy; omega
def Le (up : Bool) (a b : Ty) : Prop := if up = true then SubR a b else SubR b a
theorem le_up {a b : Ty} : Le true a b = SubR a b := rfl
theorem le_down {a b : Ty} : Le false a b = SubR b a := rfl
theorem Le.kind {up : Bool} {a b : Ty} (h : Le up a b) : a.kind = b.kind := by
 cases up with
 | false => rw [le_down, SubR] at h; exact h.1.symm
 | true => rw [le_up, SubR] at h; exact h.1
def loses (k : Int) (up : Bool) : Prop := (k = 5 ∧ up = true) ∨ (k = 6 ∧ up = false)
def wins (k : Int) (up : Bool) : Prop := (k = 6 ∧ up = true) ∨ (k = 5 ∧ up = false)
theorem le_loses {up : Bool} {a b : Ty} (hl : loses a.kind up) : Le up a b ↔ a.kind = b.kind ∧ ∀ s y, AtN b s y → ∃ x, AtN a s x ∧ Le up x y := by
 rcases hl with ⟨hk, rfl⟩ | ⟨hk, rfl⟩
 ·rw [le_up, SubR]
  refine ⟨fun ⟨h1, h2, _⟩ => ⟨h1, fun s y hy => ?_⟩, fun ⟨h1, h2⟩ => ⟨h1, fun _ s y hy => ?_, fun h => by omega, fun h => by omega, fun h => by omega⟩⟩
  ·obtain ⟨x, hx, -, h⟩ := h2 hk s y hy
   exact ⟨x, hx, h⟩
  ·obtain ⟨x, hx, h⟩ := h2 s y hy
   exact ⟨x, hx, hy, h⟩
 ·rw [le_down, SubR]
  refine ⟨fun ⟨h1, _, h2, _⟩ => ⟨h1.symm, fun s y hy => ?_⟩, fun ⟨h1, h2⟩ => ⟨h1.symm, fun h => by omega, fun _ s y hy => ?_, fun h => by omega, fun h => by omega⟩⟩
  ·obtain ⟨x, -, hx, h⟩ := h2 (by omega) s y hy
   exact ⟨x, hx, h⟩
  ·obtain ⟨x, hx, h⟩ := h2 s y hy
   exact ⟨x, hy, hx, h⟩
theorem le_wins {up : Bool} {a b : Ty} (hl : wins a.kind up) : Le up a b ↔ a.kind = b.kind ∧ ∀ s x, AtN a s x → ∃ y, AtN b s y ∧ Le up x y := by
 rcases hl with ⟨hk, rfl⟩ | ⟨hk, rfl⟩
 ·rw [le_up, SubR]
  refine ⟨fun ⟨h1, _, h2, _⟩ => ⟨h1, fun s y hy => ?_⟩, fun ⟨h1, h2⟩ => ⟨h1, fun h => by omega, fun _ s y hy => ?_, fun h => by omega, fun h => by omega⟩⟩
  ·obtain ⟨x, -, hx, h⟩ := h2 hk s y hy
   exact ⟨x, hx, h⟩
  ·obtain ⟨x, hx, h⟩ := h2 s y hy
   exact ⟨x, hy, hx, h⟩
 ·rw [le_down, SubR]
  refine ⟨fun ⟨h1, h2, _⟩ => ⟨h1.symm, fun s y hy => ?_⟩, fun ⟨h1, h2⟩ => ⟨h1.symm, fun _ s y hy => ?_, fun h => by omega, fun h => by omega, fun h => by omega⟩⟩
  ·obtain ⟨x, hx, -, h⟩ := h2 (by omega) s y hy
   exact ⟨x, hx, h⟩
  ·obtain ⟨x, hx, h⟩ := h2 s y hy
   exact ⟨x, hx, hy, h⟩
theorem le_parts {up : Bool} {a b : Ty} (hk : a.kind = 4 ∨ a.kind = 7) : Le up a b ↔ a.kind = b.kind ∧ a.subs.length = b.subs.length ∧ ∀ i x y, a.subs[i]? = some x → b.subs[i]? = some y → Le (if i + 1 = a.subs.length then up else !up) x y := by
 cases up with
 | true =>
  rw [le_up, SubR]
  refine ⟨fun ⟨h1, _, _, h2, _⟩ => ⟨h1, (h2 hk).1, fun i x y hx hy => ?_⟩, fun ⟨h1, h2, h3⟩ => ⟨h1, fun h => by omega, fun h => by omega, fun _ => ⟨h2, fun i x y hx hy => ?_⟩, fun h => by omega⟩⟩
  ·have := (h2 hk).2 i x y hx hy
   split
   ·exact this.1 (by assumption)
   ·exact this.2 (by assumption)
  ·have := h3 i x y hx hy
   refine ⟨fun e => ?_, fun e => ?_⟩
   ·rw [if_pos e] at this; exact this
   ·rw [if_neg e] at this; exact this
 | false =>
  rw [le_down, SubR]
  refine ⟨fun ⟨h1, _, _, h2, _⟩ => ⟨h1.symm, (h2 (by omega)).1.symm, fun i x y hx hy => ?_⟩, fun ⟨h1, h2, h3⟩ => ⟨h1.symm, fun h => by omega, fun h => by omega, fun _ => ⟨h2.symm, fun i x y hx hy => ?_⟩, fun h => by omega⟩⟩
  ·have hl := (h2 (by omega)).1
   have := (h2 (by omega)).2 i y x hy hx
   split
   ·exact this.1 (by omega)
   ·exact this.2 (by omega)
  ·have := h3 i y x hy hx
   refine ⟨fun e => ?_, fun e => ?_⟩
   ·rw [if_pos (by omega)] at this; exact this
   ·rw [if_neg (by omega)] at this; exact this
theorem le_leaf {up : Bool} {a b : Ty} (h4 : a.kind ≠ 4) (h5 : a.kind ≠ 5) (h6 : a.kind ≠ 6) (h7 : a.kind ≠ 7) : Le up a b ↔ a = b := by
 cases up with
 | true =>
  rw [le_up, SubR]
  exact ⟨fun h => h.2.2.2.2 ⟨h4, h5, h6, h7⟩, fun h => by subst h; exact ⟨rfl, fun h => absurd h h5, fun h => absurd h h6, fun h => by omega, fun _ => rfl⟩⟩
 | false =>
  rw [le_down, SubR]
  exact ⟨fun h => (h.2.2.2.2 (by have := h.1; omega)).symm, fun h => by subst h; exact ⟨rfl, fun h => absurd h h5, fun h => absurd h h6, fun h => by omega, fun _ => rfl⟩⟩
theorem kinds (k : Int) (up : Bool) : loses k up ∨ wins k up ∨ (k = 4 ∨ k = 7) ∨ (k ≠ 4 ∧ k ≠ 5 ∧ k ≠ 6 ∧ k ≠ 7) := by
 unfold loses wins
 cases up <;> by_cases h4 : k = 4 <;> by_cases h5 : k = 5 <;> by_cases h6 : k = 6 <;> by_cases h7 : k = 7 <;> simp_all
theorem le_refl' : ∀ (N : Nat) (up : Bool) (t : Ty), many t ≤ N → Le up t t := by
 intro N
 induction N with
 | zero => intro up t h; have := many_pos t; omega
 | succ N ih =>
  intro up t hN
  rcases kinds t.kind up with h | h | h | h
  ·exact (le_loses h).2 ⟨rfl, fun s y hy => ⟨y, hy, ih up y (by have := hy.lt; omega)⟩⟩
  ·exact (le_wins h).2 ⟨rfl, fun s y hy => ⟨y, hy, ih up y (by have := hy.lt; omega)⟩⟩
  ·exact (le_parts h).2 ⟨rfl, rfl, fun i x y hx hy => by
    rw [hx] at hy; cases hy
    exact ih _ x (by have := sub_lt_at hx; omega)⟩
  ·exact (le_leaf h.1 h.2.1 h.2.2.1 h.2.2.2).2 rfl
theorem le_refl (up : Bool) (t : Ty) : Le up t t := le_refl' _ up t (Nat.le_refl _)
theorem le_anti' : ∀ (N : Nat) (up : Bool) (a b : Ty), many a ≤ N → GoodT a → GoodT b → Le up a b → Le up b a → a = b := by
 intro N
 induction N with
 | zero => intro up t _ h; have := many_pos t; omega
 | succ N ih =>
  intro up a b hN ga gb h1 h2
  have hab := h1.kind
  have rows : (a.kind = 5 ∨ a.kind = 6) → (∀ s x y, AtN a s x → AtN b s y → x = y) → (∀ s x, AtN a s x → ∃ y, AtN b s y) → (∀ s y, AtN b s y → ∃ x, AtN a s x) → a = b := fun hk f1 f2 f3 => by
   have hk' : b.kind = 5 ∨ b.kind = 6 := by rw [← hab]; exact hk
   obtain ⟨ba, la, -⟩ := ga.row hk
   obtain ⟨bb, lb, -⟩ := gb.row hk'
   have hn : a.names = b.names := rising_one _ _ ga.rise gb.rise fun s => ⟨fun hs => by
    obtain ⟨x, hx⟩ := ga.has hk hs
    obtain ⟨y, hy⟩ := f2 s x hx
    exact hy.name, fun hs => by
    obtain ⟨x, hx⟩ := gb.has hk' hs
    obtain ⟨y, hy⟩ := f3 s x hx
    exact hy.name⟩
   refine ba.ext bb hab hn (List.ext_getElem? fun i => ?_)
   by_cases hi : i < a.subs.length
   ·have hx : a.subs[i]? = some a.subs[i] := List.getElem?_eq_getElem hi
    have hib : i < b.subs.length := by rw [lb, ← hn, ← la]; exact hi
    have hy : b.subs[i]? = some b.subs[i] := List.getElem?_eq_getElem hib
    have hs : a.names[i]? = some a.names[i] := List.getElem?_eq_getElem (by omega)
    rw [hx, hy, f1 _ _ _ ⟨i, hs, hx⟩ ⟨i, by rw [← hn]; exact hs, hy⟩]
   ·rw [List.getElem?_eq_none (by omega), List.getElem?_eq_none (by rw [lb, ← hn, ← la]; omega)]
  rcases kinds a.kind up with h | h | h | h
  ·have hk : a.kind = 5 ∨ a.kind = 6 := by unfold loses at h; omega
   obtain ⟨-, f1⟩ := (le_loses h).1 h1
   obtain ⟨-, f2⟩ := (le_loses (by rw [hab] at h; exact h)).1 h2
   refine rows hk (fun s x y hx hy => ?_) (fun s x hx => ?_) (fun s y hy => ?_)
   ·obtain ⟨x', hx', p⟩ := f1 s y hy
    obtain ⟨y', hy', q⟩ := f2 s x hx
    obtain rfl := ga.one hx hx'
    obtain rfl := gb.one hy hy'
    exact ih up x y (by have := hx.lt; omega) (ga.sub hx.sub) (gb.sub hy.sub) p q
   ·obtain ⟨y', hy', q⟩ := f2 s x hx; exact ⟨y', hy'⟩
   ·obtain ⟨y', hy', q⟩ := f1 s y hy; exact ⟨y', hy'⟩
  ·have hk : a.kind = 5 ∨ a.kind = 6 := by unfold wins at h; omega
   obtain ⟨-, f1⟩ := (le_wins h).1 h1
   obtain ⟨-, f2⟩ := (le_wins (by rw [hab] at h; exact h)).1 h2
   refine rows hk (fun s x y hx hy => ?_) (fun s x hx => ?_) (fun s y hy => ?_)
   ·obtain ⟨y', hy', p⟩ := f1 s x hx
    obtain ⟨x', hx', q⟩ := f2 s y hy
    obtain rfl := ga.one hx hx'
    obtain rfl := gb.one hy hy'
    exact ih up x y (by have := hx.lt; omega) (ga.sub hx.sub) (gb.sub hy.sub) p q
   ·obtain ⟨y', hy', q⟩ := f1 s x hx; exact ⟨y', hy'⟩
   ·obtain ⟨y', hy', q⟩ := f2 s y hy; exact ⟨y', hy'⟩
  ·obtain ⟨-, l1, f1⟩ := (le_parts h).1 h1
   obtain ⟨-, l2, f2⟩ := (le_parts (by rw [hab] at h; exact h)).1 h2
   obtain ⟨ba, na, -⟩ := ga.parts h
   obtain ⟨bb, nb, -⟩ := gb.parts (by rw [← hab]; exact h)
   refine ba.ext bb hab (na.trans nb.symm) (List.ext_getElem? fun i => ?_)
   by_cases hi : i < a.subs.length
   ·obtain ⟨x, hx⟩ := at_some hi
    obtain ⟨y, hy⟩ := at_some (show i < b.subs.length by omega)
    have p := f1 i _ _ hx hy
    have q := f2 i _ _ hy hx
    rw [← l1] at q
    rw [hx, hy, ih _ _ _ (by have := sub_lt_at hx; omega) (ga.sub (List.mem_of_getElem? hx)) (gb.sub (List.mem_of_getElem? hy)) p q]
   ·rw [List.getElem?_eq_none (by omega), List.getElem?_eq_none (by omega)]
  ·exact (le_leaf h.1 h.2.1 h.2.2.1 h.2.2.2).1 h1
theorem le_anti {up : Bool} {a b : Ty} (ga : GoodT a) (gb : GoodT b) (h1 : Le up a b) (h2 : Le up b a) : a = b := le_anti' _ up a b (Nat.le_refl _) ga gb h1 h2
structure IsBnd (up : Bool) (a b t : Ty) : Prop where
 good : GoodT t
 left : Le up a t
 right : Le up b t
 near : ∀ c, GoodT c → Le up a c → Le up b c → Le up t c
def NoBnd (up : Bool) (a b : Ty) : Prop := ∀ c, GoodT c → Le up a c → ¬ Le up b c
theorem IsBnd.one {up : Bool} {a b t u : Ty} (h : IsBnd up a b t) (h' : IsBnd up a b u) : t = u := le_anti h.good h'.good (h.near u h'.good h'.left h'.right) (h'.near t h.good h.left h.right)
theorem IsBnd.not {up : Bool} {a b t : Ty} (h : IsBnd up a b t) (h' : NoBnd up a b) : False := h' t h.good h.left h.right
theorem bnd_le {up : Bool} {a b : Ty} (gb : GoodT b) (h : Le up a b) : IsBnd up a b b := ⟨gb, h, le_refl up b, fun _ _ _ h => h⟩
theorem no_kind {up : Bool} {a b : Ty} (h : a.kind ≠ b.kind) : NoBnd up a b := fun c _ h1 h2 => h (h1.kind.trans h2.kind.symm)
theorem no_len {up : Bool} {a b : Ty} (hk : a.kind = 4 ∨ a.kind = 7) (h : a.subs.length ≠ b.subs.length) : NoBnd up a b := fun c _ h1 h2 => by
 have e := h1.kind.trans h2.kind.symm
 have l1 := ((le_parts hk).1 h1).2.1
 have l2 := ((le_parts (by rw [← e]; exact hk)).1 h2).2.1
 omega
theorem no_part {up : Bool} {a b x y : Ty} {i : Nat} (hk : a.kind = 4 ∨ a.kind = 7) (hx : a.subs[i]? = some x) (hy : b.subs[i]? = some y) (h : NoBnd (if i + 1 = a.subs.length then up else !up) x y) : NoBnd up a b := fun c gc h1 h2 => by
 have e := h1.kind.trans h2.kind.symm
 obtain ⟨-, l1, f1⟩ := (le_parts hk).1 h1
 obtain ⟨-, l2, f2⟩ := (le_parts (by rw [← e]; exact hk)).1 h2
 have hi := (List.getElem?_eq_some_iff.1 hx).1
 obtain ⟨z, hz⟩ := at_some (show i < c.subs.length by omega)
 have g2 := f2 i y _ hy hz
 rw [show b.subs.length = a.subs.length by omega] at g2
 exact h _ (gc.sub (List.mem_of_getElem? hz)) (f1 i x _ hx hz) g2
theorem bnd_parts {up : Bool} {a b t : Ty} (hk : a.kind = 4 ∨ a.kind = 7) (ga : GoodT a) (e1 : a.kind = b.kind) (e2 : a.kind = t.kind) (ht : Bare t) (hn : t.names = []) (l1 : a.subs.length = b.subs.length) (l2 : a.subs.length = t.subs.length)
  (h : ∀ i x y z, a.subs[i]? = some x → b.subs[i]? = some y → t.subs[i]? = some z → IsBnd (if i + 1 = a.subs.length then up else !up) x y z) : IsBnd up a b t := by
 have all : ∀ i, i < a.subs.length → (∃ x, a.subs[i]? = some x) ∧ (∃ y, b.subs[i]? = some y) := fun i hi => ⟨at_some hi, at_some (by omega)⟩
 refine ⟨.mk t ?_ fun s hs => ?_, (le_parts hk).2 ⟨e2, l2, fun i x z hx hz => ?_⟩, (le_parts (by rw [← e1]; exact hk)).2 ⟨e1.symm.trans e2, by omega, fun i y z hy hz => ?_⟩, fun c gc h1 h2 => ?_⟩
 ·obtain ⟨-, -, la, la4⟩ := ga.parts hk
  unfold ownG shapeOk
  rw [← e2, hn]
  rcases hk with hk | hk
  ·rw [hk]
   have := la4 hk
   simp [namesOk, ht.no, ← l2, this]
  ·rw [hk]
   simp [namesOk, ht.no, ← l2, la]
 ·obtain ⟨i, hi⟩ := List.getElem?_of_mem hs
  have hi' := (List.getElem?_eq_some_iff.1 hi).1
  obtain ⟨⟨x', p1⟩, ⟨y', p2⟩⟩ := all i (by omega)
  exact (h i _ _ s p1 p2 hi).good
 ·have hi' := (List.getElem?_eq_some_iff.1 hx).1
  obtain ⟨⟨x', p1⟩, ⟨y', p2⟩⟩ := all i hi'
  exact (h i _ _ z hx p2 hz).left
 ·have hi' := (List.getElem?_eq_some_iff.1 hy).1
  obtain ⟨⟨x', p1⟩, ⟨y', p2⟩⟩ := all i (by omega)
  rw [← l1]
  exact (h i _ _ z p1 hy hz).right
 ·obtain ⟨k1, m1, f1⟩ := (le_parts hk).1 h1
  obtain ⟨-, m2, f2⟩ := (le_parts (by rw [← e1]; exact hk)).1 h2
  refine (le_parts (by rw [← e2]; exact hk)).2 ⟨e2.symm.trans k1, by omega, fun i z w hz hw => ?_⟩
  have hi' := (List.getElem?_eq_some_iff.1 hz).1
  obtain ⟨⟨x', p1⟩, ⟨y', p2⟩⟩ := all i (by omega)
  have g2 := f2 i _ w p2 hw
  rw [← l1] at g2
  rw [← l2]
  exact (h i _ _ z p1 p2 hz).near w (gc.sub (List.mem_of_getElem? hw)) (f1 i _ w p1 hw) g2
theorem good_row {t : Ty} (hk : t.kind = 5 ∨ t.kind = 6) (ht : Bare t) (hr : Rising t.names) (hn : ∀ s ∈ t.names, nameB t.kind s = true) (hl : t.subs.length = t.names.length) (h0 : t.kind = 6 → 0 < t.subs.length) (hs : ∀ x ∈ t.subs, GoodT x) : GoodT t := by
 refine .mk t ?_ hs
 unfold ownG shapeOk
 rw [names_ok hr hn]
 rcases hk with hk | hk
 ·rw [hk]; simp [ht.no, hl]
 ·have h0 := h0 hk
  rw [hk]; simp [ht.no, hl] at h0 ⊢; exact h0
theorem bnd_common {up : Bool} {a b t : Ty} (hl : loses a.kind up) (e1 : a.kind = b.kind) (e2 : a.kind = t.kind) (ga : GoodT a) (gb : GoodT b) (gt : GoodT t)
  (h1 : ∀ s z, AtN t s z → ∃ x y, AtN a s x ∧ AtN b s y ∧ IsBnd up x y z) (h2 : ∀ s x y, AtN a s x → AtN b s y → (∃ z, AtN t s z) ∨ NoBnd up x y) : IsBnd up a b t := by
 refine ⟨gt, (le_loses hl).2 ⟨e2, fun s z hz => ?_⟩, (le_loses (by rw [← e1]; exact hl)).2 ⟨e1.symm.trans e2, fun s z hz => ?_⟩, fun c gc p q => ?_⟩
 ·obtain ⟨x, y, hx, hy, h⟩ := h1 s z hz
  exact ⟨x, hx, h.left⟩
 ·obtain ⟨x, y, hx, hy, h⟩ := h1 s z hz
  exact ⟨y, hy, h.right⟩
 ·obtain ⟨k1, f1⟩ := (le_loses hl).1 p
  obtain ⟨-, f2⟩ := (le_loses (by rw [← e1]; exact hl)).1 q
  refine (le_loses (by rw [← e2]; exact hl)).2 ⟨e2.symm.trans k1, fun s w hw => ?_⟩
  obtain ⟨x, hx, hxw⟩ := f1 s w hw
  obtain ⟨y, hy, hyw⟩ := f2 s w hw
  have gw := gc.sub hw.sub
  rcases h2 s x y hx hy with ⟨z, hz⟩ | hno
  ·obtain ⟨x', y', hx', hy', hb⟩ := h1 s z hz
   obtain rfl := ga.one hx hx'
   obtain rfl := gb.one hy hy'
   exact ⟨z, hz, hb.near w gw hxw hyw⟩
  ·exact absurd hyw (hno w gw hxw)
theorem no_common {up : Bool} {a b : Ty} (hl : loses a.kind up) (h6 : a.kind = 6) (e1 : a.kind = b.kind) (h : ∀ s x y, AtN a s x → AtN b s y → NoBnd up x y) : NoBnd up a b := fun c gc p q => by
 obtain ⟨k1, f1⟩ := (le_loses hl).1 p
 obtain ⟨-, f2⟩ := (le_loses (by rw [← e1]; exact hl)).1 q
 obtain ⟨-, lc, l0⟩ := gc.row (by omega)
 have l0 := l0 (by omega)
 have hs : c.names[0]? = some (c.names[0]'(by omega)) := List.getElem?_eq_getElem _
 have hw : c.subs[0]? = some c.subs[0] := List.getElem?_eq_getElem _
 obtain ⟨x, hx, hxw⟩ := f1 _ _ ⟨0, hs, hw⟩
 obtain ⟨y, hy, hyw⟩ := f2 _ _ ⟨0, hs, hw⟩
 exact h _ x y hx hy _ (gc.sub (List.mem_of_getElem? hw)) hxw hyw
theorem bnd_union {up : Bool} {a b t : Ty} (hl : wins a.kind up) (e1 : a.kind = b.kind) (e2 : a.kind = t.kind) (ga : GoodT a) (gb : GoodT b) (gt : GoodT t)
  (h1 : ∀ s z, AtN t s z → (∃ x y, AtN a s x ∧ AtN b s y ∧ IsBnd up x y z) ∨ (AtN a s z ∧ ∀ y, ¬ AtN b s y) ∨ (AtN b s z ∧ ∀ x, ¬ AtN a s x)) (h2 : ∀ s x, AtN a s x → ∃ z, AtN t s z) (h3 : ∀ s x, AtN b s x → ∃ z, AtN t s z) : IsBnd up a b t := by
 refine ⟨gt, (le_wins hl).2 ⟨e2, fun s x hx => ?_⟩, (le_wins (by rw [← e1]; exact hl)).2 ⟨e1.symm.trans e2, fun s y hy => ?_⟩, fun c gc p q => ?_⟩
 ·obtain ⟨z, hz⟩ := h2 s x hx
  refine ⟨z, hz, ?_⟩
  rcases h1 s z hz with ⟨x', y', hx', hy', h⟩ | ⟨hx', -⟩ | ⟨-, h⟩
  ·obtain rfl := ga.one hx hx'; exact h.left
  ·obtain rfl := ga.one hx hx'; exact le_refl up x
  ·exact absurd hx (h x)
 ·obtain ⟨z, hz⟩ := h3 s y hy
  refine ⟨z, hz, ?_⟩
  rcases h1 s z hz with ⟨x', y', hx', hy', h⟩ | ⟨-, h⟩ | ⟨hy', -⟩
  ·obtain rfl := gb.one hy hy'; exact h.right
  ·exact absurd hy (h y)
  ·obtain rfl := gb.one hy hy'; exact le_refl up y
 ·obtain ⟨k1, f1⟩ := (le_wins hl).1 p
  obtain ⟨-, f2⟩ := (le_wins (by rw [← e1]; exact hl)).1 q
  refine (le_wins (by rw [← e2]; exact hl)).2 ⟨e2.symm.trans k1, fun s z hz => ?_⟩
  rcases h1 s z hz with ⟨x, y, hx, hy, h⟩ | ⟨hx, -⟩ | ⟨hy, -⟩
  ·obtain ⟨w, hw, hxw⟩ := f1 s x hx
   obtain ⟨w', hw', hyw⟩ := f2 s y hy
   obtain rfl := gc.one hw hw'
   exact ⟨w, hw, h.near w (gc.sub hw.sub) hxw hyw⟩
  ·exact f1 s z hx
  ·exact f2 s z hy
theorem no_union {up : Bool} {a b x y : Ty} {s : ByteArray} (hl : wins a.kind up) (e1 : a.kind = b.kind) (hx : AtN a s x) (hy : AtN b s y) (h : NoBnd up x y) : NoBnd up a b := fun c gc p q => by
 obtain ⟨k1, f1⟩ := (le_wins hl).1 p
 obtain ⟨-, f2⟩ := (le_wins (by rw [← e1]; exact hl)).1 q
 obtain ⟨w, hw, hxw⟩ := f1 s x hx
 obtain ⟨w', hw', hyw⟩ := f2 s y hy
 obtain rfl := gc.one hw hw'
 exact h w (gc.sub hw.sub) hxw hyw
theorem bnd_leaf {up : Bool} {a b : Ty} (h4 : a.kind ≠ 4) (h5 : a.kind ≠ 5) (h6 : a.kind ≠ 6) (h7 : a.kind ≠ 7) (ga : GoodT a) (h : a = b) : IsBnd up a b a := by subst h; exact bnd_le ga (le_refl up a)
theorem no_leaf {up : Bool} {a b : Ty} (h4 : a.kind ≠ 4) (h5 : a.kind ≠ 5) (h6 : a.kind ≠ 6) (h7 : a.kind ≠ 7) (h : a ≠ b) : NoBnd up a b := fun c _ p q => by
 obtain rfl := (le_leaf h4 h5 h6 h7).1 p
 cases hk : decide (b.kind = a.kind) with
 | false => exact of_decide_eq_false hk q.kind
 | true =>
  have hk := of_decide_eq_true hk
  exact h ((le_leaf (by omega) (by omega) (by omega) (by omega)).1 q).symm
open Classical in
noncomputable def subB (a b : Ty) : Bool := decide (SubR a b)
theorem subB_iff {a b : Ty} : subB a b = true ↔ SubR a b := by unfold subB; simp
theorem subB_no {a b : Ty} : subB a b = false ↔ ¬ SubR a b := by unfold subB; simp
end Go.Proofs.Ytcdmgcgjonndpaa

/-  -/
namespace Go.Proofs.Ytcdmgcgjonndpaa
open Go Go.RowKit Go.Shelf
open Go.Sort
open M
theorem nanB_any (s : ByteArray) (w : World) : Calls Try.prog 91 #[.string s] w fun e w' => e = .returned (.bool false) ∧ w' = w := by
 have hs := str_eq s s
 rw [decide_eq_true rfl] at hs
 go_enter Try.func91, Try.ntmps91
 go_wp2_with fail
 go_ret
 exact ⟨rfl, rfl⟩
theorem nanS_any (s : ByteArray) (w : World) : Calls Try.prog 72 #[.string s] w fun e w' => e = .returned (.bool false) ∧ w' = w := by
 have hs := str_eq s s
 rw [decide_eq_true rfl] at hs
 go_enter Try.func72, Try.ntmps72
 go_wp2_with fail
 go_ret
 exact ⟨rfl, rfl⟩
theorem lessB_any (a b : ByteArray) (w : World) : Calls Try.prog 71 #[.string a, .string b] w fun e w' => e = .returned (.bool (decide (LtS a b))) ∧ w' = w := by
 go_enter Try.func71, Try.ntmps71
 go_wp2_with fail
 refine (nanB_any a w).mono ?_; rintro e w' ⟨rfl, rfl⟩
 go_wp2_with fail
 go_ret
 exact ⟨by rw [← bless_lts]; rfl, rfl⟩
def BsOut (l : List ByteArray) (s : ByteArray) (w : World) (e : Ending) (w' : World) : Prop := ∃ (i : Nat) (b : Bool), e = .returned (.tuple #[.int .i64 i, .bool b]) ∧ (b = true ↔ s ∈ l) ∧ (b = true → l[i]? = some s) ∧ Below w.heap.size w w'
set_option maxRecDepth 100000 in
set_option maxHeartbeats 4000000 in
theorem search_any (A : Option Addr) (n c : Nat) (l : List ByteArray) (s : ByteArray) (w : World) (hn : l.length = n) (hz : n ≤ 4611686018427387903) (hN : NamesAt w A l) (hr : Rising l) :
  Calls Try.prog 59 #[.slice A n c, .string s] w (BsOut l s w) := by
 have HN := Lib.hid hn
 have HNA := Lib.hid hN
 have HR := Lib.hid hr
 clear hn hN hr
 go_enter Try.func59, Try.ntmps59
 go_wp2_with fail
 go_loopw [7, 8] (fun s7 s8 wr => ∃ i j : Nat, i ≤ j ∧ j ≤ n ∧ s7 = .int .i64 i ∧ s8 = .int .i64 j ∧ Hid (∀ q x, q < i → l[q]? = some x → LtS x s) ∧ Hid (∀ q x, j ≤ q → l[q]? = some x → ¬ LtS x s) ∧ Hid (Below w.heap.size w wr)) (fun s7 s8 _ => (intOf s8).toNat - (intOf s7).toNat)
 case atStart => exact ⟨0, n, by omega, by omega, rfl, rfl, Lib.hid (fun q x h => by omega), Lib.hid (fun q x h hx => by have := (List.getElem?_eq_some_iff.1 hx).1; have := HN.out; omega), Lib.hid (Below.refl _ _)⟩
 case round =>
  obtain ⟨i, j, hij, hj, rfl, rfl, HL, HG, HB⟩ := hrel
  obtain ⟨wo, rfl⟩ : ∃ wo : World, wo = wr := ⟨_, rfl⟩
  by_cases hlt : i < j
  ·have w1 : IntKind.i64.wrap ((i : Int) + j) = i + j := by rw [IntKind.wrap_i64]; omega
   have w2 : IntKind.u64.wrap ((i : Int) + j) = i + j := by rw [IntKind.wrap_u64]; omega
   have hlt' : (i : Int) < j := by omega
   obtain ⟨h, hh⟩ : ∃ h : Nat, h = (i + j) / 2 := ⟨_, rfl⟩
   have hc : ((i : Int) + j) / 2 = (h : Int) := by omega
   have hih : i ≤ h := by omega
   have hhj : h < j := by omega
   have h0 : (0 : Int) ≤ h := by omega
   have h1 : (h : Int) < n := by omega
   obtain ⟨x, hx⟩ : ∃ x, l[h]? = some x := ⟨_, List.getElem?_eq_getElem (by rw [HN.out]; omega)⟩
   obtain ⟨g, o, rfl, hg, hcl, -⟩ := HNA.out h x hx
   have y0 := (HB.out.cell (p := ⟨g, _, none⟩) hg).trans hcl
   have HX := Lib.hid hx
   have HLS := Lib.hid (lessB_any x s wo)
   clear hh hcl hx
   go_upto_region 5 with fail
   clear hc w1 w2 hlt'
   go_wp2_with fail
   refine HLS.out.mono ?_; rintro e w' ⟨rfl, rfl⟩
   clear HLS y0
   by_cases hls : LtS x s
   ·have NL : Hid (∀ q y, q < h + 1 → l[q]? = some y → LtS y s) := Lib.hid (fun q y hq hy => by
     rcases Nat.lt_or_ge q h with c | c
     ·obtain ⟨hq1, rfl⟩ := List.getElem?_eq_some_iff.1 hy
      obtain ⟨hh1, rfl⟩ := List.getElem?_eq_some_iff.1 HX.out
      exact lts_trans (List.pairwise_iff_getElem.1 HR.out q h hq1 hh1 c) hls
     ·obtain rfl : q = h := by omega
      rw [HX.out] at hy; cases hy; exact hls)
    rw [decide_eq_true hls]
    clear hls
    go_wp2_with fail
    go_roundw
    case rel => exact ⟨h + 1, j, by omega, by omega, by go_num, rfl, NL, HG, HB⟩
    case measure => simp [intOf]; omega
   ·have NG : Hid (∀ q y, h ≤ q → l[q]? = some y → ¬ LtS y s) := Lib.hid (fun q y hq hy => by
     rcases Nat.lt_or_ge h q with c | c
     ·obtain ⟨hq1, rfl⟩ := List.getElem?_eq_some_iff.1 hy
      obtain ⟨hh1, rfl⟩ := List.getElem?_eq_some_iff.1 HX.out
      exact fun hy => hls (lts_trans (List.pairwise_iff_getElem.1 HR.out h q hh1 hq1 c) hy)
     ·obtain rfl : q = h := by omega
      rw [HX.out] at hy; cases hy; exact hls)
    rw [decide_eq_false hls]
    clear hls
    go_wp2_with fail
    go_roundw
    case rel => exact ⟨i, h, hih, by omega, rfl, rfl, HL, NG, HB⟩
    case measure => simp [intOf]; omega
  ·obtain rfl : i = j := by omega
   by_cases hin : i < n
   ·obtain ⟨x, hx⟩ : ∃ x, l[i]? = some x := ⟨_, List.getElem?_eq_getElem (by rw [HN.out]; exact hin)⟩
    obtain ⟨g, o, rfl, hg, hcl, -⟩ := HNA.out i x hx
    have y0 := (HB.out.cell (p := ⟨g, _, none⟩) hg).trans hcl
    have h0 : (0 : Int) ≤ i := by omega
    have h1 : (i : Int) < n := by omega
    have hq := str_eq x s
    have HX := Lib.hid hx
    by_cases hxs : x = s
    ·rw [decide_eq_true hxs] at hq
     have MEM : Hid (s ∈ l ∧ l[i]? = some s) := Lib.hid ⟨by rw [← hxs]; exact List.mem_of_getElem? hx, by rw [hx, hxs]⟩
     clear hxs hx hcl
     go_wp2_with fail
     (try simp only [Exit.inBlock, Exit.then])
     exact bodyPost_ret (results_tmp2 rfl _ _ _) rfl ⟨i, true, rfl, ⟨fun _ => MEM.out.1, fun _ => rfl⟩, fun _ => MEM.out.2, HB.out⟩
    ·rw [decide_eq_false hxs] at hq
     have MEM : Hid (¬ s ∈ l) := Lib.hid (fun hs => by
      exfalso
      obtain ⟨q, hq⟩ := List.getElem?_of_mem hs
      rcases Nat.lt_trichotomy q i with c | c | c
      ·exact lts_irrefl _ (HL.out q s c hq)
      ·subst c; rw [hx] at hq; cases hq; exact hxs rfl
      ·obtain ⟨hq1, e1⟩ := List.getElem?_eq_some_iff.1 hq
       obtain ⟨hi1, e2⟩ := List.getElem?_eq_some_iff.1 hx
       have := List.pairwise_iff_getElem.1 HR.out i q hi1 hq1 c
       rw [e1, e2] at this
       exact HG.out i x (Nat.le_refl _) hx this)
     have HN1 := Lib.hid (nanS_any x wo)
     clear hxs hx hcl
     go_wp2_with fail
     refine HN1.out.mono ?_; rintro e w' ⟨rfl, rfl⟩
     go_wp2_with fail
     (try simp only [Exit.inBlock, Exit.then])
     exact bodyPost_ret (results_tmp2 rfl _ _ _) rfl ⟨i, false, rfl, ⟨fun h => (by cases h), fun h => absurd h MEM.out⟩, fun h => (by cases h), HB.out⟩
   ·have h1 : ¬ (i : Int) < n := by omega
    have MEM : Hid (¬ s ∈ l) := Lib.hid (fun hs => by
     exfalso
     obtain ⟨q, hq⟩ := List.getElem?_of_mem hs
     have hq1 := (List.getElem?_eq_some_iff.1 hq).1
     exact lts_irrefl _ (HL.out q s (by have := HN.out; omega) hq))
    go_wp2_with fail
    (try simp only [Exit.inBlock, Exit.then])
    exact bodyPost_ret (results_tmp2 rfl _ _ _) rfl ⟨i, false, rfl, ⟨fun h => (by cases h), fun h => absurd h MEM.out⟩, fun h => (by cases h), HB.out⟩
end Go.Proofs.Ytcdmgcgjonndpaa

/-  -/
namespace Go.Proofs.Ytcdmgcgjonndpaa
open Go Go.RowKit Go.Shelf
open Go.Sort
open M
def PtOut (t : Ty) (s : ByteArray) (w : World) (e : Ending) (w' : World) : Prop :=
  ∃ (l : List Value) (x : Ty) (b : Bool), e = .returned (.tuple #[.agg l.toArray, .bool b]) ∧ TyAt w' l x ∧ Below w.heap.size w w' ∧ ((b = true ∧ AtN t s x) ∨ (b = false ∧ x = zTy ∧ ∀ y, ¬ AtN t s y))
theorem zeroT_at (w : World) : TyAt w [.int .i64 0, .string ⟨#[]⟩, .int .i64 0, .string ⟨#[]⟩, .string ⟨#[]⟩, .slice none 0 0, .slice none 0 0] zTy :=
  .mk 0 ⟨#[]⟩ 0 ⟨#[]⟩ ⟨#[]⟩ [] [] none 0 none 0 (fun _ => [.int .i64 0, .string ⟨#[]⟩, .int .i64 0, .string ⟨#[]⟩, .string ⟨#[]⟩, .slice none 0 0, .slice none 0 0]) (by decide) (by decide) (by decide) (by decide) (by decide) (by decide) (fun i s h => by simp at h) (fun _ => rfl) (fun i t h => by simp at h) (fun i t h => by simp at h)
set_option maxRecDepth 100000 in
set_option maxHeartbeats 8000000 in
theorem part_any (t : Ty) (lt : List Value) (s : ByteArray) (w : World) (hT : TyAt w lt t) (hr : Rising t.names) (hl : t.subs.length = t.names.length) (hz : t.names.length ≤ 1000000) :
    Calls Try.prog 47 #[.agg lt.toArray, .string s] w (PtOut t s w) := by
  have HT := Lib.hid hT
  obtain ⟨An, cA, As, cS, rfl, -, -, -, -, -, hNA, hSu⟩ := hT.parts
  obtain ⟨W2, hW2, B2, O0, O1, hl2⟩ := two_boxes w #[.int .i64 t.kind, .string t.pkg, .int .i64 t.major, .string t.mod, .string t.name, .slice An t.names.length cA, .slice As t.subs.length cS] #[.int .i64 0, .string ⟨#[]⟩, .int .i64 0, .string ⟨#[]⟩, .string ⟨#[]⟩, .slice none 0 0, .slice none 0 0] 25 25
  have HB2 := Lib.hid B2
  have HX0 : Hid (∀ wx, Below W2.heap.size W2 wx → wx.heap[w.heap.size]? = some (.cells #[.int .i64 t.kind, .string t.pkg, .int .i64 t.major, .string t.mod, .string t.name, .slice An t.names.length cA, .slice As t.subs.length cS] 25 (0, 0))) := Lib.hid (fun wx hb => (hb.block _ (by omega)).trans O0)
  have HX1 : Hid (∀ wx, Below W2.heap.size W2 wx → wx.heap[w.heap.size + 1]? = some (.cells #[.int .i64 0, .string ⟨#[]⟩, .int .i64 0, .string ⟨#[]⟩, .string ⟨#[]⟩, .slice none 0 0, .slice none 0 0] 25 (0, 0))) := Lib.hid (fun wx hb => (hb.block _ (by omega)).trans O1)
  have HSU := Lib.hid hSu
  have HR := Lib.hid hr
  have HLL := Lib.hid hl
  have HW := Lib.hid hW2
  have CS := Lib.hid (search_any An t.names.length cA t.names s W2 rfl (by omega) (fun i x hx => by
    obtain ⟨g, o, hA, hg, hc, hz⟩ := hNA i x hx
    exact ⟨g, o, hA, Nat.lt_of_lt_of_le hg B2.size, (B2.cell (p := ⟨g, _, none⟩) hg).trans hc, hz⟩) hr)
  have X0 := HX0.out W2 (Below.refl _ _)
  have x5 := Lib.cell_of_heap X0 5
  simp at x5
  clear hW2 B2 O0 O1 hT hNA hSu hr hl X0
  go_enter Try.func47, Try.ntmps47
  go_upto_region 1 with fail
  rw [← HW.out]
  clear HW
  go_wp2_with fail
  refine CS.out.mono ?_; rintro e w3 ⟨i, b, rfl, hb1, hb2, hb3⟩
  have HB3 := Lib.hid hb3
  have H1 := Lib.hid hb1
  have H2 := Lib.hid hb2
  have X1 := HX1.out w3 hb3
  have HX := Lib.hid X1
  clear x5 hb1 hb2 hb3 CS
  cases b with
  | false =>
    have FIN : Hid (PtOut t s w (.returned (.tuple #[.agg #[.int .i64 0, .string ⟨#[]⟩, .int .i64 0, .string ⟨#[]⟩, .string ⟨#[]⟩, .slice none 0 0, .slice none 0 0], .bool false])) (w3.setRow (w.heap.size + 1) #[.int .i64 0, .string ⟨#[]⟩, .int .i64 0, .string ⟨#[]⟩, .string ⟨#[]⟩, .slice none 0 0, .slice none 0 0])) := Lib.hid
      ⟨[.int .i64 0, .string ⟨#[]⟩, .int .i64 0, .string ⟨#[]⟩, .string ⟨#[]⟩, .slice none 0 0, .slice none 0 0], zTy, false, rfl, zeroT_at _, setRow_below (below_over HB2.out HB3.out) (by omega) _, .inr ⟨rfl, rfl, fun y hy => by have := H1.out.2 hy.name; cases this⟩⟩
    go_upto_region 3 with fail
    go_wp2_with (first | ((with_reducible refine wpList_putRow 25 (w.heap.size + 1) #[.int .i64 0, .string ⟨#[]⟩, .int .i64 0, .string ⟨#[]⟩, .string ⟨#[]⟩, .slice none 0 0, .slice none 0 0] _ _ X1 ?_ ?_ ?_ ?_ ?_ ?_); exact tySize; rfl; exact tyOne; (focus (first | (go_simp; done) | rfl)); (focus (first | (go_simp; done) | rfl))))
    exact ret_agg (fn := Try.f47) (vs := [.int .i64 0, .string ⟨#[]⟩, .int .i64 0, .string ⟨#[]⟩, .string ⟨#[]⟩, .slice none 0 0, .slice none 0 0]) (b := w.heap.size + 1) rfl rfl rfl Try.underlying25 (by kernel_rfl) (cell7 (setRow_heap _ (w.heap.size + 1) _ _ _ _ HX.out)) rfl FIN.out
  | true =>
    have hi := H2.out rfl
    have hil := (List.getElem?_eq_some_iff.1 hi).1
    obtain ⟨x, hx⟩ : ∃ x, t.subs[i]? = some x := ⟨_, List.getElem?_eq_getElem (by rw [HLL.out]; exact hil)⟩
    obtain ⟨g, o, v0, v1, v2, v3, v4, v5, v6, rfl, hg, h0, h1, h2, h3, h4, h5, h6, hx7⟩ := HSU.out i x hx
    obtain ⟨Bn, cB, Bs, cD, rfl, rfl, rfl, rfl, rfl, rfl, rfl⟩ := hx7.seven
    have hbw := below_over HB2.out HB3.out
    have e := fun (q : Nat) (v : Value) (hv : w.cell? ⟨g, q, none⟩ = some v) => (hbw.cell (p := ⟨g, q, none⟩) hg).trans hv
    have k0 := e _ _ h0
    have k1 := e _ _ h1
    have k2 := e _ _ h2
    have k3 := e _ _ h3
    have k4 := e _ _ h4
    have k5 := e _ _ h5
    have k6 := e _ _ h6
    have X0 := HX0.out w3 HB3.out
    have y6 := Lib.cell_of_heap X0 6
    simp at y6
    have FIN : Hid (PtOut t s w (.returned (.tuple #[.agg #[.int .i64 x.kind, .string x.pkg, .int .i64 x.major, .string x.mod, .string x.name, .slice Bn x.names.length cB, .slice Bs x.subs.length cD], .bool true])) (w3.setRow (w.heap.size + 1) #[.int .i64 x.kind, .string x.pkg, .int .i64 x.major, .string x.mod, .string x.name, .slice Bn x.names.length cB, .slice Bs x.subs.length cD])) := Lib.hid
      ⟨[.int .i64 x.kind, .string x.pkg, .int .i64 x.major, .string x.mod, .string x.name, .slice Bn x.names.length cB, .slice Bs x.subs.length cD], x, true, rfl, hx7.keep (setRow_below hbw (by omega) _), setRow_below hbw (by omega) _, .inl ⟨rfl, i, hi, hx⟩⟩
    have hi0 : (0 : Int) ≤ i := by omega
    have hi1 : (i : Int) < t.subs.length := by have := HLL.out; omega
    clear hi hx hx7 h0 h1 h2 h3 h4 h5 h6 e hbw X0
    go_upto_region 4 with fail
    go_wp2_with (first | ((with_reducible refine wpList_putRow 25 (w.heap.size + 1) #[.int .i64 x.kind, .string x.pkg, .int .i64 x.major, .string x.mod, .string x.name, .slice Bn x.names.length cB, .slice Bs x.subs.length cD] _ _ X1 ?_ ?_ ?_ ?_ ?_ ?_); exact tySize; rfl; exact tyOne; (focus (first | (go_simp; done) | rfl)); (focus (first | (go_simp; done) | rfl))))
    exact ret_agg (fn := Try.f47) (vs := [.int .i64 x.kind, .string x.pkg, .int .i64 x.major, .string x.mod, .string x.name, .slice Bn x.names.length cB, .slice Bs x.subs.length cD]) (b := w.heap.size + 1) rfl rfl rfl Try.underlying25 (by kernel_rfl) (cell7 (setRow_heap _ (w.heap.size + 1) _ _ _ _ HX.out)) rfl FIN.out
end Go.Proofs.Ytcdmgcgjonndpaa
