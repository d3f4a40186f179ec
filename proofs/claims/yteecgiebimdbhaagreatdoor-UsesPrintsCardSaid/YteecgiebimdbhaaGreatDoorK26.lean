/-
  Several texts in one.
-/
import Derived.Test.YteecgiebimdbhaaGreatDoorK25
import Derived.Sort.Walk0
set_option maxRecDepth 100000
set_option maxHeartbeats 8000000
namespace Go.Proofs.YteecgiebimdbhaaGreatDoor
open Go
open Go.Sort
open M
def AtN (t : Ty) (s : ByteArray) (x : Ty) : Prop := ∃ i : Nat, t.names[i]? = some s /\ t.subs[i]? = some x
theorem sub_lt {x t : Ty} (h : x ∈ t.subs) : many x < many t := by
  have h1 := manyL_mem _ _ h;have e : many t = 1 + manyL t.subs := by cases t; rfl
  omega
theorem sub_lt_at {x t : Ty} {i : Nat} (h : t.subs[i]? = some x) : many x < many t := sub_lt (List.mem_of_getElem? h)
theorem AtN.lt {t x : Ty} {s : ByteArray} (h : AtN t s x) : many x < many t := by
  obtain ⟨i, -, h⟩ := h;exact sub_lt_at h
theorem AtN.sub {t x : Ty} {s : ByteArray} (h : AtN t s x) : x ∈ t.subs := by
  obtain ⟨i, -, h⟩ := h;exact List.mem_of_getElem? h
theorem AtN.name {t x : Ty} {s : ByteArray} (h : AtN t s x) : s ∈ t.names := by
  obtain ⟨i, h, -⟩ := h;exact List.mem_of_getElem? h
abbrev LtS (a b : ByteArray) : Prop := a.data.toList < b.data.toList
theorem lts_irrefl (a : ByteArray) : ¬ LtS a a := List.lt_irrefl _
theorem lts_trans {a b c : ByteArray} (h1 : LtS a b) (h2 : LtS b c) : LtS a c := List.lt_trans h1 h2
theorem bytes_eq {a b : ByteArray} (h : a.data.toList = b.data.toList) : a = b := by
  cases a with | mk a => cases b with | mk b =>
  cases a; cases b
  simp at h;rw [h]
theorem lts_tri (a b : ByteArray) : LtS a b \/ a = b \/ LtS b a := by
  by_cases h1 : LtS a b
  · exact .inl h1
  · by_cases h2 : LtS b a
    · exact .inr (.inr h2)
    · exact .inr (.inl (bytes_eq (List.le_antisymm (α := UInt8) h2 h1)))
theorem bless_lts (a b : ByteArray) : Op.bytesLess a.toList b.toList = decide (LtS a b) := by rw [bytesLess_eq, Lib.toList_data, Lib.toList_data]
theorem leS_lts (a b : ByteArray) : leS a b = !decide (LtS b a) := by
  unfold leS
  rw [bless_lts];rcases lts_tri a b with h | h | h
  · rw [decide_eq_true h, decide_eq_false (fun h' => lts_irrefl _ (lts_trans h h'))]; rfl
  · subst h
    rw [decide_eq_false (lts_irrefl a)]; simp
  · rw [decide_eq_true h, decide_eq_false (fun h' => lts_irrefl _ (lts_trans h h'))]
    have hne : a ≠ b := fun e => by subst e; exact lts_irrefl _ h
    have : a.toList ≠ b.toList := fun e => hne (bytes_eq (by rw [Lib.toList_data, Lib.toList_data] at e; exact e))
    simp [this]
abbrev Rising (l : List ByteArray) : Prop := l.Pairwise LtS
theorem rising_at {l : List ByteArray} (h : ∀ i, i + 1 < l.length -> LtS (nameAt l i) (nameAt l (i + 1))) : Rising l := by
  have key : ∀ (k i : Nat), i + k + 1 < l.length -> LtS (nameAt l i) (nameAt l (i + k + 1)) := by
    intro k;induction k with
    | zero => intro i hi; exact h i hi
    | succ k ih => intro i hi; exact lts_trans (ih i (by omega)) (h (i + k + 1) (by omega))
  refine List.pairwise_iff_getElem.2 fun i j hi hj hij => ?_
  have := key (j - i - 1) i (by omega)
  rw [show i + (j - i - 1) + 1 = j by omega] at this;unfold nameAt at this
  simp [List.getD_eq_getElem?_getD, hi, hj] at this;exact this
theorem rising_nodup {l : List ByteArray} (h : Rising l) : l.Nodup := h.imp fun h e => by subst e; exact lts_irrefl _ h
theorem nodup_at {l : List ByteArray} (h : l.Nodup) {i j : Nat} {s : ByteArray} (hi : l[i]? = some s) (hj : l[j]? = some s) : i = j := by
  obtain ⟨hi', e⟩ := List.getElem?_eq_some_iff.1 hi;obtain ⟨hj', e'⟩ := List.getElem?_eq_some_iff.1 hj;rcases Nat.lt_trichotomy i j with c | c | c
  · exact absurd (e.trans e'.symm) (List.pairwise_iff_getElem.1 h i j hi' hj' c)
  · exact c
  · exact absurd (e'.trans e.symm) (List.pairwise_iff_getElem.1 h j i hj' hi' c)
def ownG (t : Ty) : Bool := namesOk t.kind t.names && shapeOk t && !(t.kind == 8)
inductive GoodT : Ty -> Prop
  | mk (t : Ty) (h : ownG t = true) (hs : ∀ s, s ∈ t.subs -> GoodT s) : GoodT t
theorem GoodT.own {t : Ty} (h : GoodT t) : ownG t = true := by cases h; assumption
theorem GoodT.sub {t s : Ty} (h : GoodT t) (hs : s ∈ t.subs) : GoodT s := by cases h with | mk t h hs' => exact hs' s hs
theorem plain_own {t : Ty} (h : plainT t = true) : t.kind ≠ 8 /\ ∀ s ∈ t.subs, plainT s = true := by
  cases t with
  | mk k p j d n ns ss =>
    unfold plainT at h
    simp only [Bool.and_eq_true, Bool.not_eq_true', beq_eq_false_iff_ne] at h;refine ⟨h.1, ?_⟩
    have key : ∀ l : List Ty, plainL l = true -> ∀ s ∈ l, plainT s = true := by
      intro l;induction l with
      | nil => intro _ s hs; cases hs
      | cons a r ih =>
        intro h s hs;unfold plainL at h
        rw [Bool.and_eq_true] at h;rcases List.mem_cons.1 hs with rfl | hs
        · exact h.1
        · exact ih h.2 s hs
    exact key ss h.2
theorem good_of_ok : ∀ (N : Nat) (t : Ty), many t <= N -> allOk t = true -> plainT t = true -> GoodT t := by
  intro N;induction N with
  | zero => intro t h; have := many_pos t; omega
  | succ N ih =>
    intro t hN ha hp;rw [allOk_eq, Bool.and_eq_true] at ha;obtain ⟨h8, hs⟩ := plain_own hp;refine .mk t ?_ fun s hm => ih s (by have := sub_lt hm; omega) ((allOkL_mem _).1 ha.2 s hm) (hs s hm)
    have h1 := ha.1;unfold ownOk at h1
    simp only [Bool.and_eq_true] at h1;unfold ownG
    rw [h1.1.2, h1.2];simpa using h8
theorem good_of_may {t : Ty} (h : mayT t = true) (hp : plainT t = true) : GoodT t := by
  unfold mayT at h
  simp only [Bool.and_eq_true] at h;exact good_of_ok _ t (Nat.le_refl _) h.1.1 hp
theorem empty_is {s : ByteArray} (h : emptyB s = true) : s = ⟨#[]⟩ := by
  unfold emptyB at h
  have h := of_decide_eq_true h;cases s with | mk d => cases d with | mk l =>
  simp only [ByteArray.size, List.size_toArray, List.length_eq_zero_iff] at h;rw [h]
structure Bare (t : Ty) : Prop where
  pkg : t.pkg = ⟨#[]⟩
  major : t.major = 0
  mod : t.mod = ⟨#[]⟩
  name : t.name = ⟨#[]⟩
theorem bare_of {t : Ty} (h : noMore t = true) : Bare t := by
  unfold noMore at h
  simp only [Bool.and_eq_true, beq_iff_eq] at h;exact ⟨empty_is h.1.1.1, h.1.1.2, empty_is h.1.2, empty_is h.2⟩
def nameB (k : Int) (s : ByteArray) : Bool := (!(k == 5) || smallB s.data.toList) && (!(k == 6) || greatB s.data.toList)
theorem names_rise {k : Int} {l : List ByteArray} (h : namesOk k l = true) : Rising l /\ ∀ s ∈ l, nameB k s = true := by
  rw [namesOk_iff] at h;refine ⟨rising_at fun i hi => ?_, fun s hs => ?_⟩
  · have := h (i + 1) hi
    unfold badName at this
    simp only [Bool.or_eq_false_iff, Bool.and_eq_false_iff] at this;rcases this.2 with c | c
    · simp at c
    · rw [leS_lts] at c
      simp at c;exact c
  · obtain ⟨i, hi⟩ := List.getElem?_of_mem hs
    obtain ⟨hi', e⟩ := List.getElem?_eq_some_iff.1 hi;have := h i hi'
    unfold badName at this
    have en : nameAt l i = s := by unfold nameAt; simp [List.getD_eq_getElem?_getD, hi]
    rw [en] at this;simp only [Bool.or_eq_false_iff, Bool.and_eq_false_iff, Bool.not_eq_false'] at this;unfold nameB
    rcases this.1.1 with c | c <;> rcases this.1.2 with d | d <;> simp [c, d]
theorem GoodT.rise {t : Ty} (h : GoodT t) : Rising t.names := by
  have := h.own
  unfold ownG at this
  simp only [Bool.and_eq_true] at this;exact (names_rise this.1.1).1
theorem GoodT.nodup {t : Ty} (h : GoodT t) : t.names.Nodup := rising_nodup h.rise
theorem GoodT.shape {t : Ty} (h : GoodT t) : shapeOk t = true := by
  have := h.own
  unfold ownG at this
  simp only [Bool.and_eq_true] at this;exact this.1.2
theorem GoodT.row {t : Ty} (h : GoodT t) (hk : t.kind = 5 \/ t.kind = 6) : Bare t /\ t.subs.length = t.names.length /\ (t.kind = 6 -> 0 < t.subs.length) := by
  have hs := h.shape;unfold shapeOk at hs
  rcases hk with hk | hk <;> rw [hk] at hs <;> simp at hs
  · exact ⟨bare_of hs.1, hs.2, fun h => by rw [hk] at h; cases h⟩
  · exact ⟨bare_of hs.1.1, hs.1.2, fun _ => hs.2⟩
theorem GoodT.parts {t : Ty} (h : GoodT t) (hk : t.kind = 4 \/ t.kind = 7) : Bare t /\ t.names = [] /\ 0 < t.subs.length /\ (t.kind = 4 -> t.subs.length = 1) := by
  have hs := h.shape;unfold shapeOk at hs
  rcases hk with hk | hk <;> rw [hk] at hs <;> simp at hs
  · exact ⟨bare_of hs.1.1, hs.2, by omega, fun _ => hs.1.2⟩
  · exact ⟨bare_of hs.1.1, hs.2, hs.1.2, fun h => by rw [hk] at h; cases h⟩
theorem GoodT.leaf {t : Ty} (h : GoodT t) (h4 : t.kind ≠ 4) (h5 : t.kind ≠ 5) (h6 : t.kind ≠ 6) (h7 : t.kind ≠ 7) : t.subs = [] /\ t.names = [] := by
  have hs := h.shape;unfold shapeOk at hs
  split at hs
  · simp at hs; exact ⟨hs.1.2, hs.2⟩
  · split at hs
    · simp at hs; exact ⟨hs.1.1.1.1.1, hs.1.1.1.1.2⟩
    · split at hs
      · simp at hs; exact ⟨hs.1.1.1.1.1.1, hs.1.1.1.1.1.2⟩
      · cases hs
theorem GoodT.one {t x y : Ty} {s : ByteArray} (h : GoodT t) (hx : AtN t s x) (hy : AtN t s y) : x = y := by
  obtain ⟨i, h1, h2⟩ := hx;obtain ⟨j, h3, h4⟩ := hy;obtain rfl := nodup_at h.nodup h1 h3;rw [h2] at h4;exact Option.some.inj h4
def SubR (a b : Ty) : Prop :=
  a.kind = b.kind /\
  (a.kind = 5 -> ∀ s y, AtN b s y -> ∃ x, ∃ _ : AtN a s x, ∃ _ : AtN b s y, SubR x y) /\
  (a.kind = 6 -> ∀ s x, AtN a s x -> ∃ y, ∃ _ : AtN a s x, ∃ _ : AtN b s y, SubR x y) /\
  ((a.kind = 4 \/ a.kind = 7) -> a.subs.length = b.subs.length /\ ∀ i x y, (hx : a.subs[i]? = some x) -> (hy : b.subs[i]? = some y) -> (i + 1 = a.subs.length -> SubR x y) /\ (i + 1 ≠ a.subs.length -> SubR y x)) /\
  ((a.kind ≠ 4 /\ a.kind ≠ 5 /\ a.kind ≠ 6 /\ a.kind ≠ 7) -> a = b)
termination_by many a + many b
decreasing_by
  · rename_i h1 h2
    have := h1.lt; have := h2.lt; omega
  · rename_i h1 h2
    have := h1.lt; have := h2.lt; omega
  · have := sub_lt_at hx; have := sub_lt_at hy; omega
  · have := sub_lt_at hx; have := sub_lt_at hy; omega
def Le (up : Bool) (a b : Ty) : Prop := if up = true then SubR a b else SubR b a
theorem le_up {a b : Ty} : Le true a b = SubR a b := rfl
theorem le_down {a b : Ty} : Le false a b = SubR b a := rfl
theorem Le.kind {up : Bool} {a b : Ty} (h : Le up a b) : a.kind = b.kind := by
  cases up with
  | false => rw [le_down, SubR] at h; exact h.1.symm
  | true => rw [le_up, SubR] at h; exact h.1
def loses (k : Int) (up : Bool) : Prop := (k = 5 /\ up = true) \/ (k = 6 /\ up = false)
def wins (k : Int) (up : Bool) : Prop := (k = 6 /\ up = true) \/ (k = 5 /\ up = false)
theorem le_loses {up : Bool} {a b : Ty} (hl : loses a.kind up) : Le up a b ↔ a.kind = b.kind /\ ∀ s y, AtN b s y -> ∃ x, AtN a s x /\ Le up x y := by
  rcases hl with ⟨hk, rfl⟩ | ⟨hk, rfl⟩
  · rw [le_up, SubR]
    refine ⟨fun ⟨h1, h2, _⟩ => ⟨h1, fun s y hy => ?_⟩, fun ⟨h1, h2⟩ => ⟨h1, fun _ s y hy => ?_, fun h => by omega, fun h => by omega, fun h => by omega⟩⟩
    · obtain ⟨x, hx, -, h⟩ := h2 hk s y hy
      exact ⟨x, hx, h⟩
    · obtain ⟨x, hx, h⟩ := h2 s y hy
      exact ⟨x, hx, hy, h⟩
  · rw [le_down, SubR]
    refine ⟨fun ⟨h1, _, h2, _⟩ => ⟨h1.symm, fun s y hy => ?_⟩, fun ⟨h1, h2⟩ => ⟨h1.symm, fun h => by omega, fun _ s y hy => ?_, fun h => by omega, fun h => by omega⟩⟩
    · obtain ⟨x, -, hx, h⟩ := h2 (by omega) s y hy
      exact ⟨x, hx, h⟩
    · obtain ⟨x, hx, h⟩ := h2 s y hy
      exact ⟨x, hy, hx, h⟩
theorem le_wins {up : Bool} {a b : Ty} (hl : wins a.kind up) : Le up a b ↔ a.kind = b.kind /\ ∀ s x, AtN a s x -> ∃ y, AtN b s y /\ Le up x y := by
  rcases hl with ⟨hk, rfl⟩ | ⟨hk, rfl⟩
  · rw [le_up, SubR]
    refine ⟨fun ⟨h1, _, h2, _⟩ => ⟨h1, fun s y hy => ?_⟩, fun ⟨h1, h2⟩ => ⟨h1, fun h => by omega, fun _ s y hy => ?_, fun h => by omega, fun h => by omega⟩⟩
    · obtain ⟨x, -, hx, h⟩ := h2 hk s y hy
      exact ⟨x, hx, h⟩
    · obtain ⟨x, hx, h⟩ := h2 s y hy
      exact ⟨x, hy, hx, h⟩
  · rw [le_down, SubR]
    refine ⟨fun ⟨h1, h2, _⟩ => ⟨h1.symm, fun s y hy => ?_⟩, fun ⟨h1, h2⟩ => ⟨h1.symm, fun _ s y hy => ?_, fun h => by omega, fun h => by omega, fun h => by omega⟩⟩
    · obtain ⟨x, hx, -, h⟩ := h2 (by omega) s y hy
      exact ⟨x, hx, h⟩
    · obtain ⟨x, hx, h⟩ := h2 s y hy
      exact ⟨x, hx, hy, h⟩
theorem le_parts {up : Bool} {a b : Ty} (hk : a.kind = 4 \/ a.kind = 7) : Le up a b ↔ a.kind = b.kind /\ a.subs.length = b.subs.length /\ ∀ i x y, a.subs[i]? = some x -> b.subs[i]? = some y -> Le (if i + 1 = a.subs.length then up else !up) x y := by
  cases up with
  | true =>
    rw [le_up, SubR];refine ⟨fun ⟨h1, _, _, h2, _⟩ => ⟨h1, (h2 hk).1, fun i x y hx hy => ?_⟩, fun ⟨h1, h2, h3⟩ => ⟨h1, fun h => by omega, fun h => by omega, fun _ => ⟨h2, fun i x y hx hy => ?_⟩, fun h => by omega⟩⟩
    · have := (h2 hk).2 i x y hx hy
      split
      · exact this.1 (by assumption)
      · exact this.2 (by assumption)
    · have := h3 i x y hx hy
      refine ⟨fun e => ?_, fun e => ?_⟩
      · rw [if_pos e] at this; exact this
      · rw [if_neg e] at this; exact this
  | false =>
    rw [le_down, SubR];refine ⟨fun ⟨h1, _, _, h2, _⟩ => ⟨h1.symm, (h2 (by omega)).1.symm, fun i x y hx hy => ?_⟩, fun ⟨h1, h2, h3⟩ => ⟨h1.symm, fun h => by omega, fun h => by omega, fun _ => ⟨h2.symm, fun i x y hx hy => ?_⟩, fun h => by omega⟩⟩
    · have hl := (h2 (by omega)).1
      have := (h2 (by omega)).2 i y x hy hx
      split
      · exact this.1 (by omega)
      · exact this.2 (by omega)
    · have := h3 i y x hy hx
      refine ⟨fun e => ?_, fun e => ?_⟩
      · rw [if_pos (by omega)] at this; exact this
      · rw [if_neg (by omega)] at this; exact this
theorem le_leaf {up : Bool} {a b : Ty} (h4 : a.kind ≠ 4) (h5 : a.kind ≠ 5) (h6 : a.kind ≠ 6) (h7 : a.kind ≠ 7) : Le up a b ↔ a = b := by
  cases up with
  | true =>
    rw [le_up, SubR];exact ⟨fun h => h.2.2.2.2 ⟨h4, h5, h6, h7⟩, fun h => by subst h; exact ⟨rfl, fun h => absurd h h5, fun h => absurd h h6, fun h => by omega, fun _ => rfl⟩⟩
  | false =>
    rw [le_down, SubR];exact ⟨fun h => (h.2.2.2.2 (by have := h.1; omega)).symm, fun h => by subst h; exact ⟨rfl, fun h => absurd h h5, fun h => absurd h h6, fun h => by omega, fun _ => rfl⟩⟩
theorem kinds (k : Int) (up : Bool) : loses k up \/ wins k up \/ (k = 4 \/ k = 7) \/ (k ≠ 4 /\ k ≠ 5 /\ k ≠ 6 /\ k ≠ 7) := by
  unfold loses wins
  cases up <;> by_cases h4 : k = 4 <;> by_cases h5 : k = 5 <;> by_cases h6 : k = 6 <;> by_cases h7 : k = 7 <;> simp_all
theorem le_refl' : ∀ (N : Nat) (up : Bool) (t : Ty), many t <= N -> Le up t t := by
  intro N;induction N with
  | zero => intro up t h; have := many_pos t; omega
  | succ N ih =>
    intro up t hN;rcases kinds t.kind up with h | h | h | h
    · exact (le_loses h).2 ⟨rfl, fun s y hy => ⟨y, hy, ih up y (by have := hy.lt; omega)⟩⟩
    · exact (le_wins h).2 ⟨rfl, fun s y hy => ⟨y, hy, ih up y (by have := hy.lt; omega)⟩⟩
    · exact (le_parts h).2 ⟨rfl, rfl, fun i x y hx hy => by
        rw [hx] at hy; cases hy
        exact ih _ x (by have := sub_lt_at hx; omega)⟩
    · exact (le_leaf h.1 h.2.1 h.2.2.1 h.2.2.2).2 rfl
theorem le_refl (up : Bool) (t : Ty) : Le up t t := le_refl' _ up t (Nat.le_refl _)
open Classical in
noncomputable def subB (a b : Ty) : Bool := decide (SubR a b)
theorem subB_iff {a b : Ty} : subB a b = true ↔ SubR a b := by unfold subB; simp
theorem subB_no {a b : Ty} : subB a b = false ↔ ¬ SubR a b := by unfold subB; simp
end Go.Proofs.YteecgiebimdbhaaGreatDoor
namespace Go.Proofs.YteecgiebimdbhaaGreatDoor
open Go
open M
def nmC : ByteArray := ⟨#[99]⟩
def modU (u : Us) : Mo := ⟨nmC, u.imps, []⟩
def rowU (x : If) (k : Int) : List Nm := if k = 2 then x.types else x.vals
noncomputable def fitsU (k : Int) (y t : Ty) : Bool := (mayT y && plainT y) && (if k = 1 then subB y t else sameT y t)
noncomputable def lineC (u : Us) (env : List If) (l : Ln) (c : Int) (t : Ty) : Int :=
  match impAt (modU u) l.mod with
  | none => 4
  | some k => if c = 4 then 4 else match u.imps[k]? with
    | none => 9
    | some x => match findI env x.pkg x.major x.mod with
      | none => 9
      | some f => match env[f]? with
        | none => 9
        | some i => match ofI (rowU i l.kind) l.name with
          | none => 9
          | some n => match (rowU i l.kind)[n]? with
            | none => 9
            | some y => if c ≠ 0 then c else if fitsU l.kind y.typ t = true then 0 else 12
def LnIs (u : Us) (env : List If) (l : Ln) (c : Int) : Prop := (impAt (modU u) l.mod = none /\ c = 4) \/ ∃ (e : Int) (t : Ty), EpIs (modU u) nmC 1 env l.typ e t /\ c = lineC u env l e t
theorem lineC_none {u : Us} {env : List If} {l : Ln} {c : Int} {t : Ty} (h : impAt (modU u) l.mod = none) : lineC u env l c t = 4 := by unfold lineC; rw [h]
theorem LnIs.one {u : Us} {env : List If} {l : Ln} {c c' : Int} (h : LnIs u env l c) (h' : LnIs u env l c') : c = c' := by
  rcases h with ⟨hn, rfl⟩ | ⟨e, t, h1, rfl⟩
  · rcases h' with ⟨-, rfl⟩ | ⟨e', t', -, rfl⟩
    · rfl
    · rw [lineC_none hn]
  · rcases h' with ⟨hn, rfl⟩ | ⟨e', t', h2, rfl⟩
    · rw [lineC_none hn]
    · obtain ⟨rfl, rfl⟩ := ep_one h1 h2
      rfl
def UkIs (u : Us) (env : List If) (c a : Int) : Prop :=
  (¬ (mayU u = true /\ env.length <= 100) /\ c = 1 /\ a = -1) \/ ((mayU u = true /\ env.length <= 100) /\
    ((∃ i : Nat, i < u.imps.length /\ dupB (·.asn) u.imps i = true /\ (∀ j, j < i -> dupB (·.asn) u.imps j = false) /\ c = 5 /\ a = i) \/
     ((∀ i, i < u.imps.length -> dupB (·.asn) u.imps i = false) /\
       ((∃ (i : Nat) (l : Ln), u.lines[i]? = some l /\ LnIs u env l c /\ c ≠ 0 /\ a = i /\ ∀ (j : Nat) (d : Ln), j < i -> u.lines[j]? = some d -> LnIs u env d 0) \/
        (c = 0 /\ a = -1 /\ ∀ l ∈ u.lines, LnIs u env l 0)))))
theorem UkIs.one {u : Us} {env : List If} {c a c' a' : Int} (h : UkIs u env c a) (h' : UkIs u env c' a') : c = c' /\ a = a' := by
  rcases h with ⟨n, rfl, rfl⟩ | ⟨m, h⟩
  · rcases h' with ⟨-, rfl, rfl⟩ | ⟨m, -⟩
    · exact ⟨rfl, rfl⟩
    · exact absurd m n
  rcases h' with ⟨n, -, -⟩ | ⟨-, h'⟩
  · exact absurd m n
  rcases h with ⟨i, hi, d, n, rfl, rfl⟩ | ⟨no, h⟩
  · rcases h' with ⟨j, hj, e, k, rfl, rfl⟩ | ⟨no, -⟩
    · have : i = j := by
        rcases Nat.lt_trichotomy i j with h | h | h
        · rw [k i h] at d; cases d
        · exact h
        · rw [n j h] at e; cases e
      subst this; exact ⟨rfl, rfl⟩
    · rw [no i hi] at d; cases d
  rcases h' with ⟨j, hj, e, -, -, -⟩ | ⟨-, h'⟩
  · rw [no j hj] at e; cases e
  rcases h with ⟨i, l, hl, hc, h0, rfl, ha⟩ | ⟨rfl, rfl, ha⟩
  · rcases h' with ⟨j, d, hd, hc', h0', rfl, ha'⟩ | ⟨rfl, rfl, ha'⟩
    · have : i = j := by
        rcases Nat.lt_trichotomy i j with h | h | h
        · exact absurd (hc.one (ha' i l h hl)) h0
        · exact h
        · exact absurd (hc'.one (ha j d h hd)) h0'
      subst this;rw [hl] at hd;cases hd
      exact ⟨hc.one hc', rfl⟩
    · exact absurd (hc.one (ha' l (List.mem_of_getElem? hl))) h0
  · rcases h' with ⟨j, d, hd, hc', h0', rfl, ha'⟩ | ⟨rfl, rfl, -⟩
    · exact absurd (hc'.one (ha d (List.mem_of_getElem? hd))) h0'
    · exact ⟨rfl, rfl⟩
theorem UkIs.of {u : Us} {env : List If} (h1 : mayU u = true) (h2 : env.length <= 100) (h3 : ∀ i, i < u.imps.length -> dupB (·.asn) u.imps i = false) (h4 : ∀ l ∈ u.lines, LnIs u env l 0) : UkIs u env 0 (-1) :=
  .inr ⟨⟨h1, h2⟩, .inr ⟨h3, .inr ⟨rfl, rfl, h4⟩⟩⟩
theorem exp_more {f g : Ty -> Option Ty} (hfg : ∀ y s, f y = some s -> g y = some s) : ∀ {h : Nat} {t u : Ty}, ExpH f h t u -> ExpH g h t u
  | 0, _, _, hx => hx.elim
  | h + 1, t, u, hx => by
    rcases hx with ⟨h8, s, hs, hx⟩ | ⟨h8, us, rfl, hl, hx⟩
    · exact .inl ⟨h8, s, hfg _ _ hs, exp_more hfg hx⟩
    · exact .inr ⟨h8, us, rfl, hl, fun i s v hs hv => exp_more hfg (hx i s v hs hv)⟩
theorem lineC_of {u : Us} {env : List If} {l : Ln} {t : Ty} {k f n : Nat} {x : Im} {i : If} {y : Nm} (e1 : impAt (modU u) l.mod = some k) (e2 : u.imps[k]? = some x) (e3 : findI env x.pkg x.major x.mod = some f) (e4 : env[f]? = some i) (e5 : ofI (rowU i l.kind) l.name = some n) (e6 : (rowU i l.kind)[n]? = some y) (hf : fitsU l.kind y.typ t = true) : lineC u env l 0 t = 0 := by
  unfold lineC
  rw [e1];dsimp only
  rw [if_neg (by decide), e2];dsimp only
  rw [e3];dsimp only
  rw [e4];dsimp only
  rw [e5];dsimp only
  rw [e6];dsimp only
  rw [if_neg (by decide), if_pos hf]
end Go.Proofs.YteecgiebimdbhaaGreatDoor
namespace Go.Proofs.YteecgiebimdbhaaGreatDoor
open Go Go.RowKit
open M
theorem modU_may {u : Us} (h : mayU u = true) : mayM (modU u) = true := by
  obtain ⟨h1, -, h3, -⟩ := mayU_parts h;unfold mayM modU
  simp only [Bool.and_eq_true, decide_eq_true_eq, List.all_eq_true];exact ⟨by decide +kernel, h1, by simp, h3, by simp⟩
theorem modU_ok {u : Us} (h : ∀ i, i < u.imps.length -> dupB (·.asn) u.imps i = false) : Ok7 (modU u) :=
  ⟨h, fun i hi => by simp [modU] at hi, fun i d hd => by simp [modU] at hd, fun i d hd => by simp [modU] at hd, fun i j d e hd => by simp [modU] at hd⟩
theorem modU_mayN {u : Us} {env : List If} (h : mayU u = true) (hd : ∀ i, i < u.imps.length -> dupB (·.asn) u.imps i = false) (he : env.length <= 100) : MayN (modU u) nmC 1 env :=
  ⟨⟨modU_may h, modU_ok hd⟩, by show mayT (.mk 9 nmC 1 nmC ⟨#[84]⟩ [] []) = true; decide +kernel, he⟩
theorem ep_self {u : Us} {env : List If} {t : Ty} (hN : MayN (modU u) nmC 1 env) (ht : mayT t = true) (hp : plainT t = true) : EpIs (modU u) nmC 1 env t 0 t := by
  obtain ⟨-, hloc⟩ := said_plain (m := modU u) _ t (Nat.le_refl _) hp;have hb := ht;unfold mayT at hb
  simp only [Bool.and_eq_true, decide_eq_true_eq] at hb;refine .inr ⟨hN, ht, .inr ⟨by rw [hloc]; rfl, .inr ⟨?_, _, t, exp_plain _ _ t (Nat.le_refl _) hp, .inr ⟨rfl, rfl, by omega, by omega⟩⟩⟩⟩;show ((allK (modU u) t 0).any _) = false
  rw [allK_zero];simp only [List.any_cons, List.any_nil, Bool.or_false, hloc];rfl
def exA11 : ByteArray := ⟨#[105, 109, 112, 111, 114, 116, 32, 112, 32, 49, 32, 109, 32, 97, 115, 32, 109, 32, 117, 115, 101, 32, 109, 46, 102, 32, 58, 32, 73, 110, 116]⟩
def exL11 : Ln := ⟨1, ⟨#[109]⟩, ⟨#[102]⟩, leafK 1⟩
def exI11 : Im := ⟨⟨#[112]⟩, 1, ⟨#[109]⟩, ⟨#[109]⟩⟩
def exU11 : Us := ⟨[exI11], [exL11]⟩
def exX11 : If := ⟨⟨#[112]⟩, 1, ⟨#[109]⟩, [], [⟨⟨#[102]⟩, leafK 1⟩]⟩
theorem exA11_res : parU exA11 = .ok exU11 12 0 := by kernel_rfl
theorem exU11_may : mayU exU11 = true := by decide +kernel
theorem exU11_dup : ∀ i, i < exU11.imps.length -> dupB (·.asn) exU11.imps i = false := by decide +kernel
theorem ex11_line (env : List If) (l : Ln) (h : l ∈ exU11.lines) : l = exL11 := by simpa [exU11] using h
theorem ex11_zero {c a : Int} (h : UkIs exU11 [exX11] c a) : c = 0 /\ a = -1 := by
  refine h.one (.of exU11_may (by decide) exU11_dup fun l hl => ?_);obtain rfl := ex11_line [] l hl;refine .inr ⟨0, leafK 1, ep_self (modU_mayN exU11_may exU11_dup (by decide)) (by decide +kernel) (by decide +kernel), ?_⟩;refine (lineC_of (k := 0) (x := exI11) (f := 0) (i := exX11) (n := 0) (y := ⟨⟨#[102]⟩, leafK 1⟩) (by decide +kernel) rfl (by decide +kernel) rfl (by decide +kernel) rfl ?_).symm;unfold fitsU
  rw [if_pos (show exL11.kind = 1 from rfl)];have h1 : (mayT (leafK 1) && plainT (leafK 1)) = true := by decide +kernel
  have h2 : subB (leafK 1) (leafK 1) = true := subB_iff.2 (le_up ▸ le_refl true (leafK 1));show ((mayT (leafK 1) && plainT (leafK 1)) && subB (leafK 1) (leafK 1)) = true
  rw [h1, h2]; rfl
theorem ex11_none {c a : Int} (h : UkIs exU11 [] c a) : c = 9 /\ a = 0 := by
  refine h.one (.inr ⟨⟨exU11_may, by decide⟩, .inr ⟨exU11_dup, .inl ⟨0, exL11, rfl, ?_, by decide, rfl, fun j d hj => absurd hj (by omega)⟩⟩⟩);refine .inr ⟨0, leafK 1, ep_self (modU_mayN exU11_may exU11_dup (by decide)) (by decide +kernel) (by decide +kernel), ?_⟩;unfold lineC
  rw [show impAt (modU exU11) exL11.mod = some 0 by decide +kernel];dsimp only
  rw [if_neg (by decide), show exU11.imps[0]? = some exI11 from rfl];dsimp only
  rw [show findI [] exI11.pkg exI11.major exI11.mod = none from rfl]
theorem mean_bare {imps : List Im} {n n' p p' : ByteArray} {j j' : Int} {env : List If} {y s : Ty} (h : meanT ⟨n, imps, []⟩ p j env y = some s) : meanT ⟨n', imps, []⟩ p' j' env y = some s := by
  unfold meanT at h ⊢
  split
  · rename_i hz
    rw [if_pos hz] at h;cases h
  · rename_i hz
    rw [if_neg hz] at h;exact h
theorem ep_as {imps : List Im} {n n' p p' : ByteArray} {j j' : Int} {env : List If} {t u : Ty} {c : Int} (hM : MayN ⟨n, imps, []⟩ p j env) (hM' : MayN ⟨n', imps, []⟩ p' j' env) (h : EpIs ⟨n, imps, []⟩ p j env t c u) : EpIs ⟨n', imps, []⟩ p' j' env t c u := by
  rcases h with ⟨h1, h2, h⟩ | ⟨-, h2, h⟩
  · exact .inl ⟨h1, h2, fun e => h ⟨hM, e.2⟩⟩
  · refine .inr ⟨hM', h2, ?_⟩
    rcases h with h | ⟨hk, h⟩
    · exact .inl h
    · refine .inr ⟨hk, ?_⟩
      rcases h with h | ⟨hl, hh, x, hx, h⟩
      · exact .inl h
      · exact .inr ⟨hl, hh, x, exp_more (fun y s => mean_bare) hx, h⟩
theorem modU_as {u : Us} {env : List If} {n p : ByteArray} {j : Int} {t x : Ty} {c : Int} (hu : mayU u = true) (hd : ∀ i, i < u.imps.length -> dupB (·.asn) u.imps i = false) (hM : MayN ⟨n, u.imps, []⟩ p j env) (h : EpIs ⟨n, u.imps, []⟩ p j env t c x) : EpIs (modU u) nmC 1 env t c x :=
  ep_as hM (modU_mayN hu hd hM.2.2) h
end Go.Proofs.YteecgiebimdbhaaGreatDoor
namespace Go.Proofs.YteecgiebimdbhaaGreatDoor
open Go Go.RowKit Go.Shelf
open Go.Sort
open M
theorem nanB_any (s : ByteArray) (w : World) : Calls Tryz.prog 316 #[.string s] w fun e w' => e = .returned (.bool false) /\ w' = w := by
 have hs := str_eq s s
 rw [decide_eq_true rfl] at hs
 go_enter Tryz.func316, Tryz.ntmps316
 go_wp2_with fail
 go_ret
 exact ⟨rfl, rfl⟩
theorem nanS_any (s : ByteArray) (w : World) : Calls Tryz.prog 299 #[.string s] w fun e w' => e = .returned (.bool false) /\ w' = w := by
 have hs := str_eq s s
 rw [decide_eq_true rfl] at hs
 go_enter Tryz.func299, Tryz.ntmps299
 go_wp2_with fail
 go_ret
 exact ⟨rfl, rfl⟩
theorem lessB_any (a b : ByteArray) (w : World) : Calls Tryz.prog 294 #[.string a, .string b] w fun e w' => e = .returned (.bool (decide (LtS a b))) /\ w' = w := by
 go_enter Tryz.func294, Tryz.ntmps294
 go_wp2_with fail
 refine (nanB_any a w).mono ?_; rintro e w' ⟨rfl, rfl⟩
 go_wp2_with fail
 go_ret
 exact ⟨by rw [<- bless_lts]; rfl, rfl⟩
def BsOut (l : List ByteArray) (s : ByteArray) (w : World) (e : Ending) (w' : World) : Prop := ∃ (i : Nat) (b : Bool), e = .returned (.tuple #[.int .i64 i, .bool b]) /\ (b = true ↔ s ∈ l) /\ (b = true -> l[i]? = some s) /\ Below w.heap.size w w'
theorem search_any (A : Option Addr) (n c : Nat) (l : List ByteArray) (s : ByteArray) (w : World) (hn : l.length = n) (hz : n <= 4611686018427387903) (hN : NamesAt w A l) (hr : Rising l) :
  Calls Tryz.prog 278 #[.slice A n c, .string s] w (BsOut l s w) := by
 have HN := hZ hn
 have HNA := hZ hN
 have HR := hZ hr
 clear hn hN hr
 go_enter Tryz.func278, Tryz.ntmps278
 go_wp2_with fail
 go_loopw [7, 8] (fun s7 s8 wr => ∃ i j : Nat, i <= j /\ j <= n /\ s7 = .int .i64 i /\ s8 = .int .i64 j /\ Hid (∀ q x, q < i -> l[q]? = some x -> LtS x s) /\ Hid (∀ q x, j <= q -> l[q]? = some x -> ¬ LtS x s) /\ Hid (Below w.heap.size w wr)) (fun s7 s8 _ => (intOf s8).toNat - (intOf s7).toNat)
 case atStart => exact ⟨0, n, by omega, by omega, rfl, rfl, hZ (fun q x h => by omega), hZ (fun q x h hx => by have := (List.getElem?_eq_some_iff.1 hx).1; have := HN.out; omega), hZ (Below.refl _ _)⟩
 case round =>
  obtain ⟨i, j, hij, hj, rfl, rfl, HL, HG, HB⟩ := hrel;obtain ⟨wo, rfl⟩ : ∃ wo : World, wo = wr := ⟨_, rfl⟩;by_cases hlt : i < j
  ·have w1 : IntKind.i64.wrap ((i : Int) + j) = i + j := by rw [IntKind.wrap_i64]; omega
   have w2 : IntKind.u64.wrap ((i : Int) + j) = i + j := by rw [IntKind.wrap_u64]; omega
   have hlt' : (i : Int) < j := by omega
   obtain ⟨h, hh⟩ : ∃ h : Nat, h = (i + j) / 2 := ⟨_, rfl⟩;have hc : ((i : Int) + j) / 2 = (h : Int) := by omega
   have hih : i <= h := by omega
   have hhj : h < j := by omega
   have h0 : (0 : Int) <= h := by omega
   have h1 : (h : Int) < n := by omega
   obtain ⟨x, hx⟩ : ∃ x, l[h]? = some x := ⟨_, List.getElem?_eq_getElem (by rw [HN.out]; omega)⟩;obtain ⟨g, o, rfl, hg, hcl, -⟩ := HNA.out h x hx;have y0 := (HB.out.cell (p := ⟨g, _, none⟩) hg).trans hcl;have HX := hZ hx;have HLS := hZ (lessB_any x s wo);clear hh hcl hx;go_upto_region 5 with fail
   clear hc w1 w2 hlt';go_wp2_with fail
   refine HLS.out.mono ?_; rintro e w' ⟨rfl, rfl⟩
   clear HLS y0;by_cases hls : LtS x s
   ·have NL : Hid (∀ q y, q < h + 1 -> l[q]? = some y -> LtS y s) := hZ (fun q y hq hy => by
     rcases Nat.lt_or_ge q h with c | c
     ·obtain ⟨hq1, rfl⟩ := List.getElem?_eq_some_iff.1 hy
      obtain ⟨hh1, rfl⟩ := List.getElem?_eq_some_iff.1 HX.out;exact lts_trans (List.pairwise_iff_getElem.1 HR.out q h hq1 hh1 c) hls
     ·obtain rfl : q = h := by omega
      rw [HX.out] at hy; cases hy; exact hls)
    rw [decide_eq_true hls];clear hls;go_wp2_with fail
    go_roundw
    case rel => exact ⟨h + 1, j, by omega, by omega, by go_num, rfl, NL, HG, HB⟩
    case measure => simp [intOf]; omega
   ·have NG : Hid (∀ q y, h <= q -> l[q]? = some y -> ¬ LtS y s) := hZ (fun q y hq hy => by
     rcases Nat.lt_or_ge h q with c | c
     ·obtain ⟨hq1, rfl⟩ := List.getElem?_eq_some_iff.1 hy
      obtain ⟨hh1, rfl⟩ := List.getElem?_eq_some_iff.1 HX.out;exact fun hy => hls (lts_trans (List.pairwise_iff_getElem.1 HR.out h q hh1 hq1 c) hy)
     ·obtain rfl : q = h := by omega
      rw [HX.out] at hy; cases hy; exact hls)
    rw [decide_eq_false hls];clear hls;go_wp2_with fail
    go_roundw
    case rel => exact ⟨i, h, hih, by omega, rfl, rfl, HL, NG, HB⟩
    case measure => simp [intOf]; omega
  ·obtain rfl : i = j := by omega
   by_cases hin : i < n
   ·obtain ⟨x, hx⟩ : ∃ x, l[i]? = some x := ⟨_, List.getElem?_eq_getElem (by rw [HN.out]; exact hin)⟩
    obtain ⟨g, o, rfl, hg, hcl, -⟩ := HNA.out i x hx;have y0 := (HB.out.cell (p := ⟨g, _, none⟩) hg).trans hcl;have h0 : (0 : Int) <= i := by omega
    have h1 : (i : Int) < n := by omega
    have hq := str_eq x s;have HX := hZ hx;by_cases hxs : x = s
    ·rw [decide_eq_true hxs] at hq
     have MEM : Hid (s ∈ l /\ l[i]? = some s) := hZ ⟨by rw [<- hxs]; exact List.mem_of_getElem? hx, by rw [hx, hxs]⟩;clear hxs hx hcl;go_wp2_with fail
     (try simp only [Exit.inBlock, Exit.then])
     exact bodyPost_ret (results_tmp2 rfl _ _ _) rfl ⟨i, true, rfl, ⟨fun _ => MEM.out.1, fun _ => rfl⟩, fun _ => MEM.out.2, HB.out⟩
    ·rw [decide_eq_false hxs] at hq
     have MEM : Hid (¬ s ∈ l) := hZ (fun hs => by
      exfalso
      obtain ⟨q, hq⟩ := List.getElem?_of_mem hs;rcases Nat.lt_trichotomy q i with c | c | c
      ·exact lts_irrefl _ (HL.out q s c hq)
      ·subst c; rw [hx] at hq; cases hq; exact hxs rfl
      ·obtain ⟨hq1, e1⟩ := List.getElem?_eq_some_iff.1 hq
       obtain ⟨hi1, e2⟩ := List.getElem?_eq_some_iff.1 hx;have := List.pairwise_iff_getElem.1 HR.out i q hi1 hq1 c
       rw [e1, e2] at this;exact HG.out i x (Nat.le_refl _) hx this)
     have HN1 := hZ (nanS_any x wo);clear hxs hx hcl;go_wp2_with fail
     refine HN1.out.mono ?_; rintro e w' ⟨rfl, rfl⟩
     go_wp2_with fail
     (try simp only [Exit.inBlock, Exit.then])
     exact bodyPost_ret (results_tmp2 rfl _ _ _) rfl ⟨i, false, rfl, ⟨fun h => (by cases h), fun h => absurd h MEM.out⟩, fun h => (by cases h), HB.out⟩
   ·have h1 : ¬ (i : Int) < n := by omega
    have MEM : Hid (¬ s ∈ l) := hZ (fun hs => by
     exfalso
     obtain ⟨q, hq⟩ := List.getElem?_of_mem hs;have hq1 := (List.getElem?_eq_some_iff.1 hq).1;exact lts_irrefl _ (HL.out q s (by have := HN.out; omega) hq))
    go_wp2_with fail
    (try simp only [Exit.inBlock, Exit.then])
    exact bodyPost_ret (results_tmp2 rfl _ _ _) rfl ⟨i, false, rfl, ⟨fun h => (by cases h), fun h => absurd h MEM.out⟩, fun h => (by cases h), HB.out⟩
def PtOut (t : Ty) (s : ByteArray) (w : World) (e : Ending) (w' : World) : Prop :=
  ∃ (l : List Value) (x : Ty) (b : Bool), e = .returned (.tuple #[.agg l.toArray, .bool b]) /\ TyAt w' l x /\ Below w.heap.size w w' /\ ((b = true /\ AtN t s x) \/ (b = false /\ x = zTy /\ ∀ y, ¬ AtN t s y))
theorem zeroT_at (w : World) : TyAt w [.int .i64 0, .string ⟨#[]⟩, .int .i64 0, .string ⟨#[]⟩, .string ⟨#[]⟩, .slice none 0 0, .slice none 0 0] zTy :=
  .mk 0 ⟨#[]⟩ 0 ⟨#[]⟩ ⟨#[]⟩ [] [] none 0 none 0 (fun _ => [.int .i64 0, .string ⟨#[]⟩, .int .i64 0, .string ⟨#[]⟩, .string ⟨#[]⟩, .slice none 0 0, .slice none 0 0]) (by decide) (by decide) (by decide) (by decide) (by decide) (by decide) (fun i s h => by simp at h) (fun _ => rfl) (fun i t h => by simp at h) (fun i t h => by simp at h)
theorem part_any (t : Ty) (lt : List Value) (s : ByteArray) (w : World) (hT : TyAt w lt t) (hr : Rising t.names) (hl : t.subs.length = t.names.length) (hz : t.names.length <= 1000000) :
    Calls Tryz.prog 254 #[.agg lt.toArray, .string s] w (PtOut t s w) := by
  have HT := hZ hT;obtain ⟨An, cA, As, cS, rfl, -, -, -, -, -, hNA, hSu⟩ := hT.parts;obtain ⟨W2, hW2, B2, O0, O1, hl2⟩ := two_boxes w #[.int .i64 t.kind, .string t.pkg, .int .i64 t.major, .string t.mod, .string t.name, .slice An t.names.length cA, .slice As t.subs.length cS] #[.int .i64 0, .string ⟨#[]⟩, .int .i64 0, .string ⟨#[]⟩, .string ⟨#[]⟩, .slice none 0 0, .slice none 0 0] 55 55;have HB2 := hZ B2;have HX0 : Hid (∀ wx, Below W2.heap.size W2 wx -> wx.heap[w.heap.size]? = some (.cells #[.int .i64 t.kind, .string t.pkg, .int .i64 t.major, .string t.mod, .string t.name, .slice An t.names.length cA, .slice As t.subs.length cS] 55 (0, 0))) := hZ (fun wx hb => (hb.block _ (by omega)).trans O0);have HX1 : Hid (∀ wx, Below W2.heap.size W2 wx -> wx.heap[w.heap.size + 1]? = some (.cells #[.int .i64 0, .string ⟨#[]⟩, .int .i64 0, .string ⟨#[]⟩, .string ⟨#[]⟩, .slice none 0 0, .slice none 0 0] 55 (0, 0))) := hZ (fun wx hb => (hb.block _ (by omega)).trans O1);have HSU := hZ hSu;have HR := hZ hr;have HLL := hZ hl;have HW := hZ hW2
  have CS := hZ (search_any An t.names.length cA t.names s W2 rfl (by omega) (fun i x hx => by
    obtain ⟨g, o, hA, hg, hc, hz⟩ := hNA i x hx;exact ⟨g, o, hA, Nat.lt_of_lt_of_le hg B2.size, (B2.cell (p := ⟨g, _, none⟩) hg).trans hc, hz⟩) hr)
  have X0 := HX0.out W2 (Below.refl _ _);have x5 := cZ X0 5;simp at x5;clear hW2 B2 O0 O1 hT hNA hSu hr hl X0;go_enter Tryz.func254, Tryz.ntmps254
  go_upto_region 1 with fail
  rw [<- HW.out];clear HW;go_wp2_with fail
  refine CS.out.mono ?_; rintro e w3 ⟨i, b, rfl, hb1, hb2, hb3⟩
  have HB3 := hZ hb3;have H1 := hZ hb1;have H2 := hZ hb2;have X1 := HX1.out w3 hb3;have HX := hZ X1;clear x5 hb1 hb2 hb3 CS;cases b with
  | false =>
    have FIN : Hid (PtOut t s w (.returned (.tuple #[.agg #[.int .i64 0, .string ⟨#[]⟩, .int .i64 0, .string ⟨#[]⟩, .string ⟨#[]⟩, .slice none 0 0, .slice none 0 0], .bool false])) (w3.setRow (w.heap.size + 1) #[.int .i64 0, .string ⟨#[]⟩, .int .i64 0, .string ⟨#[]⟩, .string ⟨#[]⟩, .slice none 0 0, .slice none 0 0])) := hZ
      ⟨[.int .i64 0, .string ⟨#[]⟩, .int .i64 0, .string ⟨#[]⟩, .string ⟨#[]⟩, .slice none 0 0, .slice none 0 0], zTy, false, rfl, zeroT_at _, setRow_below (below_over HB2.out HB3.out) (by omega) _, .inr ⟨rfl, rfl, fun y hy => by have := H1.out.2 hy.name; cases this⟩⟩
    go_upto_region 3 with fail
    go_wp2_with (first | ((with_reducible refine wpList_putRow 55 (w.heap.size + 1) #[.int .i64 0, .string ⟨#[]⟩, .int .i64 0, .string ⟨#[]⟩, .string ⟨#[]⟩, .slice none 0 0, .slice none 0 0] _ _ X1 ?_ ?_ ?_ ?_ ?_ ?_); exact tySize; rfl; exact tyOne; iterate 2 (focus (first | (go_simp; done) | rfl))))
    exact ret_agg (fn := Tryz.f254) (vs := [.int .i64 0, .string ⟨#[]⟩, .int .i64 0, .string ⟨#[]⟩, .string ⟨#[]⟩, .slice none 0 0, .slice none 0 0]) (b := w.heap.size + 1) rfl rfl rfl Tryz.underlying55 (by kernel_rfl) (cell7 (setRow_heap _ (w.heap.size + 1) _ _ _ _ HX.out)) rfl FIN.out
  | true =>
    have hi := H2.out rfl;have hil := (List.getElem?_eq_some_iff.1 hi).1;obtain ⟨x, hx⟩ : ∃ x, t.subs[i]? = some x := ⟨_, List.getElem?_eq_getElem (by rw [HLL.out]; exact hil)⟩;obtain ⟨g, o, v0, v1, v2, v3, v4, v5, v6, rfl, hg, h0, h1, h2, h3, h4, h5, h6, hx7⟩ := HSU.out i x hx;obtain ⟨Bn, cB, Bs, cD, rfl, rfl, rfl, rfl, rfl, rfl, rfl⟩ := hx7.seven;have hbw := below_over HB2.out HB3.out;have e := fun (q : Nat) (v : Value) (hv : w.cell? ⟨g, q, none⟩ = some v) => (hbw.cell (p := ⟨g, q, none⟩) hg).trans hv
    have k0 := e _ _ h0;have k1 := e _ _ h1;have k2 := e _ _ h2;have k3 := e _ _ h3;have k4 := e _ _ h4;have k5 := e _ _ h5;have k6 := e _ _ h6;have X0 := HX0.out w3 HB3.out;have y6 := cZ X0 6;simp at y6
    have FIN : Hid (PtOut t s w (.returned (.tuple #[.agg #[.int .i64 x.kind, .string x.pkg, .int .i64 x.major, .string x.mod, .string x.name, .slice Bn x.names.length cB, .slice Bs x.subs.length cD], .bool true])) (w3.setRow (w.heap.size + 1) #[.int .i64 x.kind, .string x.pkg, .int .i64 x.major, .string x.mod, .string x.name, .slice Bn x.names.length cB, .slice Bs x.subs.length cD])) := hZ
      ⟨[.int .i64 x.kind, .string x.pkg, .int .i64 x.major, .string x.mod, .string x.name, .slice Bn x.names.length cB, .slice Bs x.subs.length cD], x, true, rfl, hx7.keep (setRow_below hbw (by omega) _), setRow_below hbw (by omega) _, .inl ⟨rfl, i, hi, hx⟩⟩
    have hi0 : (0 : Int) <= i := by omega
    have hi1 : (i : Int) < t.subs.length := by have := HLL.out; omega
    clear hi hx hx7 h0 h1 h2 h3 h4 h5 h6 e hbw X0;go_upto_region 4 with fail
    go_wp2_with (first | ((with_reducible refine wpList_putRow 55 (w.heap.size + 1) #[.int .i64 x.kind, .string x.pkg, .int .i64 x.major, .string x.mod, .string x.name, .slice Bn x.names.length cB, .slice Bs x.subs.length cD] _ _ X1 ?_ ?_ ?_ ?_ ?_ ?_); exact tySize; rfl; exact tyOne; iterate 2 (focus (first | (go_simp; done) | rfl))))
    exact ret_agg (fn := Tryz.f254) (vs := [.int .i64 x.kind, .string x.pkg, .int .i64 x.major, .string x.mod, .string x.name, .slice Bn x.names.length cB, .slice Bs x.subs.length cD]) (b := w.heap.size + 1) rfl rfl rfl Tryz.underlying55 (by kernel_rfl) (cell7 (setRow_heap _ (w.heap.size + 1) _ _ _ _ HX.out)) rfl FIN.out
end Go.Proofs.YteecgiebimdbhaaGreatDoor
