/-
  Several texts in one:  ·  ·  ·  ·  · 
-/
import Derived.Lib.IndexBytes
import GoSem.Op.String
import Derived.Sort.Walk0
import Derived.WalkKit
import Derived.Below
import Derived.Deep.Draws
import Derived.Lib.Hide
/-  -/
namespace Go.Proofs.Ytcdmgcgjonndpaa.M
def keys : List (List UInt8) := [[97, 115], [97, 108, 105, 97, 115], [100, 101, 112], [104, 105, 100, 100, 101, 110], [105, 109, 112, 111, 114, 116], [105, 115], [109, 111, 100, 117, 108, 101], [111, 112, 97, 113, 117, 101], [112, 97, 99, 107, 97, 103, 101], [117, 115, 101], [118, 97, 108], [118, 101, 114, 115, 105, 111, 110]]
def words : List (List UInt8) := [[73, 110, 116], [84, 101, 120, 116], [66, 111, 111, 108], [76, 105, 115, 116]]
def keyB (l : List UInt8) : Bool := keys.contains l
def wordB (l : List UInt8) : Bool := words.contains l
def lowC (n : Int) : Bool := decide (97 ≤ n) && decide (n ≤ 122)
def upC (n : Int) : Bool := decide (65 ≤ n) && decide (n ≤ 90)
def digC (n : Int) : Bool := decide (48 ≤ n) && decide (n ≤ 57)
def lowDigC (n : Int) : Bool := lowC n || digC n
def anyC (n : Int) : Bool := lowC n || upC n || digC n
def bt (l : List UInt8) (j : Nat) : Int := ((l.getD j 0).toNat : Int)
def spell (f g : Int → Bool) (l : List UInt8) : Bool := decide (0 < l.length) && decide (l.length ≤ 20) && f (bt l 0) && l.tail.all (fun c => g (c.toNat : Int))
def smallB (l : List UInt8) : Bool := spell lowC lowDigC l && !keyB l
def greatB (l : List UInt8) : Bool := spell upC anyC l && !wordB l
def letters (g : Int → Bool) (l : List UInt8) : Bool := decide (0 < l.length) && decide (l.length ≤ 20) && l.all (fun c => g (c.toNat : Int))
theorem bt_eq (s : ByteArray) (k : Nat) (h : k < s.size) : (s[k].toNat : Int) = bt s.data.toList k := by
  unfold bt
  rw [List.getD_eq_getElem?_getD, List.getElem?_eq_getElem (by simpa using h)]
  rfl
theorem all_iff (g : Int → Bool) (l : List UInt8) : l.all (fun c => g (c.toNat : Int)) = true ↔ ∀ j, j < l.length → g (bt l j) = true := by
  rw [List.all_eq_true]
  constructor
  · intro h j hj
    have := h l[j] (List.getElem_mem hj)
    unfold bt
    rw [List.getD_eq_getElem?_getD, List.getElem?_eq_getElem hj]
    exact this
  · intro h c hc
    obtain ⟨j, hj, rfl⟩ := List.getElem_of_mem hc
    have := h j hj
    unfold bt at this
    rw [List.getD_eq_getElem?_getD, List.getElem?_eq_getElem hj] at this
    exact this
theorem bt_tail (l : List UInt8) (j : Nat) : bt l.tail j = bt l (j + 1) := by
  unfold bt
  cases l <;> simp
theorem spell_iff (f g : Int → Bool) (l : List UInt8) : spell f g l = true ↔ 0 < l.length ∧ l.length ≤ 20 ∧ f (bt l 0) = true ∧ ∀ j, 1 ≤ j → j < l.length → g (bt l j) = true := by
  unfold spell
  simp only [Bool.and_eq_true, decide_eq_true_eq, all_iff]
  constructor
  · rintro ⟨⟨⟨h0, h1⟩, h2⟩, h3⟩
    refine ⟨h0, h1, h2, fun j hj hl => ?_⟩
    have := h3 (j - 1) (by simp; omega)
    rwa [bt_tail, show j - 1 + 1 = j by omega] at this
  · rintro ⟨h0, h1, h2, h3⟩
    refine ⟨⟨⟨h0, h1⟩, h2⟩, fun j hj => ?_⟩
    rw [bt_tail]
    exact h3 (j + 1) (by omega) (by simp at hj; omega)
theorem letters_iff (g : Int → Bool) (l : List UInt8) : letters g l = true ↔ 0 < l.length ∧ l.length ≤ 20 ∧ ∀ j, j < l.length → g (bt l j) = true := by
  unfold letters
  simp only [Bool.and_eq_true, decide_eq_true_eq, all_iff, and_assoc]
theorem len_size (s : ByteArray) : s.data.toList.length = s.size := by simp
theorem spell_empty (f g : Int → Bool) (s : ByteArray) (h : s.size = 0) : spell f g s.data.toList = false := by
  rw [Bool.eq_false_iff, ne_eq, spell_iff, len_size]; omega
theorem spell_long (f g : Int → Bool) (s : ByteArray) (h : 20 < s.size) : spell f g s.data.toList = false := by
  rw [Bool.eq_false_iff, ne_eq, spell_iff, len_size]; omega
theorem spell_first (f g : Int → Bool) (s : ByteArray) (h : f (bt s.data.toList 0) = false) : spell f g s.data.toList = false := by
  rw [Bool.eq_false_iff, ne_eq, spell_iff]; rintro ⟨-, -, a, -⟩; rw [h] at a; cases a
theorem spell_later (f g : Int → Bool) (s : ByteArray) (k : Nat) (h1 : 1 ≤ k) (h2 : k < s.size) (h : g (bt s.data.toList k) = false) : spell f g s.data.toList = false := by
  rw [Bool.eq_false_iff, ne_eq, spell_iff, len_size]; rintro ⟨-, -, -, a⟩; rw [a k h1 h2] at h; cases h
theorem spell_all (f g : Int → Bool) (s : ByteArray) (h0 : 0 < s.size) (h1 : s.size ≤ 20) (h2 : f (bt s.data.toList 0) = true) (h : ∀ j, 1 ≤ j → j < s.size → g (bt s.data.toList j) = true) : spell f g s.data.toList = true := by
  rw [spell_iff, len_size]; exact ⟨h0, h1, h2, h⟩
theorem letters_empty (g : Int → Bool) (s : ByteArray) (h : s.size = 0) : letters g s.data.toList = false := by
  rw [Bool.eq_false_iff, ne_eq, letters_iff, len_size]; omega
theorem letters_long (g : Int → Bool) (s : ByteArray) (h : 20 < s.size) : letters g s.data.toList = false := by
  rw [Bool.eq_false_iff, ne_eq, letters_iff, len_size]; omega
theorem letters_later (g : Int → Bool) (s : ByteArray) (k : Nat) (h2 : k < s.size) (h : g (bt s.data.toList k) = false) : letters g s.data.toList = false := by
  rw [Bool.eq_false_iff, ne_eq, letters_iff, len_size]; rintro ⟨-, -, a⟩; rw [a k h2] at h; cases h
theorem letters_all (g : Int → Bool) (s : ByteArray) (h0 : 0 < s.size) (h1 : s.size ≤ 20) (h : ∀ j, j < s.size → g (bt s.data.toList j) = true) : letters g s.data.toList = true := by
  rw [letters_iff, len_size]; exact ⟨h0, h1, h⟩
theorem lowDig_low {n : Int} (h : lowDigC n = true) : lowC n = decide (97 ≤ n) := by
  unfold lowDigC lowC digC at *
  rw [Bool.eq_iff_iff]
  simp only [Bool.or_eq_true, Bool.and_eq_true, decide_eq_true_eq] at *
  omega
theorem small_ref (l : List UInt8) (h : letters lowDigC l = true) : smallB l = (!keyB l && decide (97 ≤ bt l 0)) := by
  have hs : spell lowC lowDigC l = decide (97 ≤ bt l 0) := by
    obtain ⟨h0, h1, h2⟩ := (letters_iff _ _).1 h
    rw [← lowDig_low (h2 0 h0)]
    cases hf : lowC (bt l 0)
    · rw [Bool.eq_false_iff, ne_eq, spell_iff]; rintro ⟨-, -, a, -⟩; rw [hf] at a; cases a
    · rw [spell_iff]; exact ⟨h0, h1, hf, fun j _ hj => h2 j hj⟩
  unfold smallB
  rw [hs, Bool.and_comm]
theorem small_none (l : List UInt8) (h : letters lowDigC l = false) : smallB l = false := by
  have hs : spell lowC lowDigC l = false := by
    rw [Bool.eq_false_iff, ne_eq, spell_iff]
    rintro ⟨h0, h1, h2, h3⟩
    rw [Bool.eq_false_iff, ne_eq, letters_iff] at h
    refine h ⟨h0, h1, fun j hj => ?_⟩
    rcases j with _ | j
    · unfold lowDigC; rw [h2]; rfl
    · exact h3 (j + 1) (by omega) hj
  unfold smallB
  rw [hs]; rfl
theorem great_ref (l : List UInt8) (h : letters anyC l = true) : spell upC anyC l = (decide (65 ≤ bt l 0) && decide (bt l 0 ≤ 90)) := by
  obtain ⟨h0, h1, h2⟩ := (letters_iff _ _).1 h
  show _ = upC (bt l 0)
  cases hf : upC (bt l 0)
  · rw [Bool.eq_false_iff, ne_eq, spell_iff]; rintro ⟨-, -, a, -⟩; rw [hf] at a; cases a
  · rw [spell_iff]; exact ⟨h0, h1, hf, fun j _ hj => h2 j hj⟩
theorem great_none (l : List UInt8) (h : letters anyC l = false) : greatB l = false := by
  have hs : spell upC anyC l = false := by
    rw [Bool.eq_false_iff, ne_eq, spell_iff]
    rintro ⟨h0, h1, h2, h3⟩
    rw [Bool.eq_false_iff, ne_eq, letters_iff] at h
    refine h ⟨h0, h1, fun j hj => ?_⟩
    rcases j with _ | j
    · unfold anyC; rw [h2]; simp
    · exact h3 (j + 1) (by omega) hj
  unfold greatB
  rw [hs]; rfl
end Go.Proofs.Ytcdmgcgjonndpaa.M

/-  -/
namespace Go.Proofs.Ytcdmgcgjonndpaa.M
inductive Ty where
  | mk (kind : Int) (pkg : ByteArray) (major : Int) (mod name : ByteArray) (names : List ByteArray) (subs : List Ty)
namespace Ty
def kind : Ty → Int | mk k _ _ _ _ _ _ => k
def pkg : Ty → ByteArray | mk _ p _ _ _ _ _ => p
def major : Ty → Int | mk _ _ m _ _ _ _ => m
def mod : Ty → ByteArray | mk _ _ _ m _ _ _ => m
def name : Ty → ByteArray | mk _ _ _ _ n _ _ => n
def names : Ty → List ByteArray | mk _ _ _ _ _ n _ => n
def subs : Ty → List Ty | mk _ _ _ _ _ _ s => s
end Ty
mutual
def many : Ty → Nat
  | .mk _ _ _ _ _ _ subs => 1 + manyL subs
def manyL : List Ty → Nat
  | [] => 0
  | t :: r => many t + manyL r
end
mutual
def deep : Ty → Nat
  | .mk _ _ _ _ _ _ subs => deepL subs + 1
def deepL : List Ty → Nat
  | [] => 0
  | t :: r => max (deep t) (deepL r)
end
mutual
def plainT : Ty → Bool
  | .mk k _ _ _ _ _ subs => !(k == 8) && plainL subs
def plainL : List Ty → Bool
  | [] => true
  | t :: r => plainT t && plainL r
end
mutual
def fewT : Ty → Int → Int
  | .mk _ _ _ _ _ names subs, most => if most - 1 < 0 ∨ 200 < names.length then -1 else fewL subs (most - 1)
def fewL : List Ty → Int → Int
  | [], most => most
  | t :: r, most => if 0 ≤ most then fewL r (fewT t most) else most
end
theorem many_pos (t : Ty) : 1 ≤ many t := by cases t; simp [many]
mutual
theorem few_bd : ∀ (t : Ty) (most : Int), -1 ≤ most → -1 ≤ fewT t most ∧ fewT t most ≤ max most (-1)
  | .mk k p m d n names subs, most, h => by
    unfold fewT
    split
    · omega
    · rename_i hc
      have := fewL_bd subs (most - 1) (by omega)
      omega
theorem fewL_bd : ∀ (l : List Ty) (most : Int), -1 ≤ most → -1 ≤ fewL l most ∧ fewL l most ≤ most
  | [], most, h => by unfold fewL; omega
  | t :: r, most, h => by
    unfold fewL
    split
    · have a := few_bd t most h
      have b := fewL_bd r (fewT t most) a.1
      omega
    · omega
end
theorem fewL_neg (l : List Ty) (most : Int) (h : most < 0) : fewL l most = most := by
  cases l with
  | nil => rfl
  | cons t r => unfold fewL; rw [if_neg (by omega)]
mutual
theorem few_many : ∀ (t : Ty) (most : Int), 0 ≤ fewT t most → fewT t most = most - many t
  | .mk k p m d n names subs, most, h => by
    unfold fewT at h ⊢
    split at h
    · omega
    · rename_i hc
      rw [if_neg hc]
      have := fewL_many subs (most - 1) h
      rw [this]; unfold many; omega
theorem fewL_many : ∀ (l : List Ty) (most : Int), 0 ≤ fewL l most → fewL l most = most - manyL l
  | [], most, _ => by unfold fewL manyL; omega
  | t :: r, most, h => by
    unfold fewL at h ⊢
    split at h
    · rename_i hc
      rw [if_pos hc]
      have a : 0 ≤ fewT t most := by
        rcases Int.lt_or_le (fewT t most) 0 with b | b
        · rw [fewL_neg _ _ b] at h; omega
        · exact b
      have b := few_many t most a
      have c := fewL_many r (fewT t most) h
      rw [c, b, show manyL (t :: r) = many t + manyL r from rfl]; omega
    · omega
end
theorem manyL_mem : ∀ (l : List Ty) (t : Ty), t ∈ l → many t ≤ manyL l
  | a :: r, t, h => by
    unfold manyL
    rcases List.mem_cons.1 h with rfl | h
    · omega
    · have := manyL_mem r t h; omega
theorem manyL_len : ∀ l : List Ty, l.length ≤ manyL l
  | [] => by simp
  | t :: r => by
    have := many_pos t
    have := manyL_len r
    unfold manyL; simp only [List.length_cons]; omega
theorem manyL_append : ∀ (a b : List Ty), manyL (a ++ b) = manyL a + manyL b
  | [], b => by simp [manyL]
  | t :: r, b => by
    have := manyL_append r b
    simp only [List.cons_append, manyL, this]; omega
theorem manyL_take (l : List Ty) (k : Nat) (t : Ty) (h : l[k]? = some t) : manyL (l.take (k + 1)) = manyL (l.take k) + many t := by
  rw [List.take_add_one, h, manyL_append]
  simp [manyL]
theorem manyL_take_le (l : List Ty) (k : Nat) : manyL (l.take k) ≤ manyL l := by
  conv => rhs; rw [← List.take_append_drop k l, manyL_append]
  omega
end Go.Proofs.Ytcdmgcgjonndpaa.M

/-  -/
namespace Go.Proofs.Ytcdmgcgjonndpaa.M
open Go
def leS (a b : ByteArray) : Bool := Op.bytesLess a.toList b.toList || a.toList == b.toList
def nameAt (l : List ByteArray) (i : Nat) : ByteArray := l.getD i ⟨#[]⟩
def badName (kind : Int) (names : List ByteArray) (i : Nat) : Bool :=
  (kind == 5 && !smallB (nameAt names i).data.toList) || (kind == 6 && !greatB (nameAt names i).data.toList) || (decide (0 < i) && leS (nameAt names i) (nameAt names (i - 1)))
def namesOk (kind : Int) (names : List ByteArray) : Bool := (List.range names.length).all fun i => !badName kind names i
def emptyB (s : ByteArray) : Bool := decide (s.size = 0)
def noMore (t : Ty) : Bool := emptyB t.pkg && (t.major == 0) && emptyB t.mod && emptyB t.name
def shapeOk (t : Ty) : Bool :=
  if t.kind = 1 ∨ t.kind = 2 ∨ t.kind = 3 then noMore t && decide (t.subs.length = 0) && decide (t.names.length = 0)
  else if t.kind = 4 then noMore t && decide (t.subs.length = 1) && decide (t.names.length = 0)
  else if t.kind = 5 then noMore t && decide (t.subs.length = t.names.length)
  else if t.kind = 6 then noMore t && decide (t.subs.length = t.names.length) && decide (0 < t.subs.length)
  else if t.kind = 7 then noMore t && decide (0 < t.subs.length) && decide (t.names.length = 0)
  else if t.kind = 8 then decide (t.subs.length = 0) && decide (t.names.length = 0) && emptyB t.pkg && (t.major == 0) && greatB t.name.data.toList && (smallB t.mod.data.toList || emptyB t.mod)
  else if t.kind = 9 then decide (t.subs.length = 0) && decide (t.names.length = 0) && smallB t.pkg.data.toList && smallB t.mod.data.toList && greatB t.name.data.toList && decide (1 ≤ t.major) && decide (t.major ≤ 999999999)
  else false
def ownOk (t : Ty) : Bool := decide (t.subs.length ≤ 20) && namesOk t.kind t.names && shapeOk t
mutual
def allOk : Ty → Bool
  | .mk k p m d n names subs => ownOk (.mk k p m d n names subs) && allOkL subs
def allOkL : List Ty → Bool
  | [] => true
  | t :: r => allOk t && allOkL r
end
def mayT (t : Ty) : Bool := allOk t && decide (many t ≤ 500) && decide (deep t ≤ 32)
theorem allOk_eq (t : Ty) : allOk t = (ownOk t && allOkL t.subs) := by cases t; rfl
theorem allOkL_mem : ∀ (l : List Ty), allOkL l = true ↔ ∀ t ∈ l, allOk t = true
  | [] => by simp [allOkL]
  | t :: r => by simp [allOkL, allOkL_mem r]
theorem namesOk_iff (kind : Int) (names : List ByteArray) : namesOk kind names = true ↔ ∀ i, i < names.length → badName kind names i = false := by
  unfold namesOk
  simp [List.all_eq_true]
theorem own_long {t : Ty} (h : 20 < t.subs.length) : ownOk t = false := by
  unfold ownOk
  rw [show decide (t.subs.length ≤ 20) = false by simp; omega]; rfl
theorem own_bad {t : Ty} {i : Nat} (hi : i < t.names.length) (h : badName t.kind t.names i = true) : ownOk t = false := by
  have : namesOk t.kind t.names = false := by
    rw [Bool.eq_false_iff, ne_eq, namesOk_iff]
    intro a
    have := a i hi
    rw [h] at this; cases this
  unfold ownOk
  rw [this]; simp
theorem own_good {t : Ty} (h : t.subs.length ≤ 20) (hn : ∀ i, i < t.names.length → badName t.kind t.names i = false) : ownOk t = shapeOk t := by
  unfold ownOk
  rw [(namesOk_iff _ _).2 hn, show decide (t.subs.length ≤ 20) = true by simpa using h]; simp
end Go.Proofs.Ytcdmgcgjonndpaa.M

/-  -/
namespace Go.Proofs.Ytcdmgcgjonndpaa.M
mutual
def sameT : Ty → Ty → Bool
  | .mk k p m d n ns ss, .mk k' p' m' d' n' ns' ss' => decide (k = k') && decide (p = p') && decide (m = m') && decide (d = d') && decide (n = n') && decide (ns = ns') && sameL ss ss'
def sameL : List Ty → List Ty → Bool
  | [], [] => true
  | [], _ :: _ => false
  | _ :: _, [] => false
  | a :: r, b :: q => sameT a b && sameL r q
end
mutual
theorem sameT_iff : ∀ a b : Ty, sameT a b = true ↔ a = b
  | .mk k p m d n ns ss, .mk k' p' m' d' n' ns' ss' => by
    have := sameL_iff ss ss'
    unfold sameT
    simp only [Bool.and_eq_true, decide_eq_true_eq, this, Ty.mk.injEq]
    simp only [and_assoc]
theorem sameL_iff : ∀ a b : List Ty, sameL a b = true ↔ a = b
  | [], [] => by simp [sameL]
  | [], _ :: _ => by simp [sameL]
  | _ :: _, [] => by simp [sameL]
  | a :: r, b :: q => by
    have h1 := sameT_iff a b
    have h2 := sameL_iff r q
    unfold sameL
    simp only [Bool.and_eq_true, h1, h2, List.cons.injEq]
end
theorem sameT_no {a b : Ty} (h : a ≠ b) : sameT a b = false := by
  rw [Bool.eq_false_iff, ne_eq, sameT_iff]; exact h
theorem ty_ext {a b : Ty} (h1 : a.kind = b.kind) (h2 : a.pkg = b.pkg) (h3 : a.major = b.major) (h4 : a.mod = b.mod) (h5 : a.name = b.name) (h6 : a.names = b.names) (h7 : a.subs = b.subs) : a = b := by
  cases a; cases b
  simp only [Ty.kind, Ty.pkg, Ty.major, Ty.mod, Ty.name, Ty.names, Ty.subs] at *
  subst h1 h2 h3 h4 h5 h6 h7
  rfl
theorem bytes_list {a b : ByteArray} : a.data.toList = b.data.toList ↔ a = b := by
  constructor
  · intro h
    cases a; cases b; simp at h; simpa using h
  · rintro rfl; rfl
theorem list_ext' {α : Type} {a b : List α} (hl : a.length = b.length) (h : ∀ (i : Nat) (x y : α), a[i]? = some x → b[i]? = some y → x = y) : a = b := by
  apply List.ext_getElem? 
  intro i
  rcases Nat.lt_or_ge i a.length with hi | hi
  · rw [List.getElem?_eq_getElem hi, List.getElem?_eq_getElem (by omega)]
    exact congrArg some (h i _ _ (List.getElem?_eq_getElem hi) (List.getElem?_eq_getElem (by omega)))
  · rw [List.getElem?_eq_none hi, List.getElem?_eq_none (by omega)]
end Go.Proofs.Ytcdmgcgjonndpaa.M

/-  -/
namespace Go.Proofs.Ytcdmgcgjonndpaa
open Go
open Go.Sort
open M
def AtN (t : Ty) (s : ByteArray) (x : Ty) : Prop := ∃ i : Nat, t.names[i]? = some s ∧ t.subs[i]? = some x
theorem at_some {α : Type} {l : List α} {i : Nat} (h : i < l.length) : ∃ y, l[i]? = some y := ⟨_, List.getElem?_eq_getElem h⟩
theorem sub_lt {x t : Ty} (h : x ∈ t.subs) : many x < many t := by
 have h1 := manyL_mem _ _ h
 have e : many t = 1 + manyL t.subs := by cases t; rfl
 omega
theorem sub_lt_at {x t : Ty} {i : Nat} (h : t.subs[i]? = some x) : many x < many t := sub_lt (List.mem_of_getElem? h)
theorem AtN.lt {t x : Ty} {s : ByteArray} (h : AtN t s x) : many x < many t := by
 obtain ⟨i, -, h⟩ := h
 exact sub_lt_at h
theorem AtN.sub {t x : Ty} {s : ByteArray} (h : AtN t s x) : x ∈ t.subs := by
 obtain ⟨i, -, h⟩ := h
 exact List.mem_of_getElem? h
theorem AtN.name {t x : Ty} {s : ByteArray} (h : AtN t s x) : s ∈ t.names := by
 obtain ⟨i, h, -⟩ := h
 exact List.mem_of_getElem? h
abbrev LtS (a b : ByteArray) : Prop := a.data.toList < b.data.toList
theorem lts_irrefl (a : ByteArray) : ¬ LtS a a := List.lt_irrefl _
theorem lts_trans {a b c : ByteArray} (h1 : LtS a b) (h2 : LtS b c) : LtS a c := List.lt_trans h1 h2
theorem bytes_eq {a b : ByteArray} (h : a.data.toList = b.data.toList) : a = b := by
 cases a with | mk a => cases b with | mk b =>
 cases a; cases b
 simp at h
 rw [h]
theorem lts_tri (a b : ByteArray) : LtS a b ∨ a = b ∨ LtS b a := by
 by_cases h1 : LtS a b
 ·exact .inl h1
 ·by_cases h2 : LtS b a
  ·exact .inr (.inr h2)
  ·exact .inr (.inl (bytes_eq (List.le_antisymm (α := UInt8) h2 h1)))
theorem bless_lts (a b : ByteArray) : Op.bytesLess a.toList b.toList = decide (LtS a b) := by rw [bytesLess_eq, Lib.toList_data, Lib.toList_data]
theorem leS_lts (a b : ByteArray) : leS a b = !decide (LtS b a) := by
 unfold leS
 rw [bless_lts]
 rcases lts_tri a b with h | h | h
 ·rw [decide_eq_true h, decide_eq_false (fun h' => lts_irrefl _ (lts_trans h h'))]; rfl
 ·subst h
  rw [decide_eq_false (lts_irrefl a)]; simp
 ·rw [decide_eq_true h, decide_eq_false (fun h' => lts_irrefl _ (lts_trans h h'))]
  have hne : a ≠ b := fun e => by subst e; exact lts_irrefl _ h
  have : a.toList ≠ b.toList := fun e => hne (bytes_eq (by rw [Lib.toList_data, Lib.toList_data] at e; exact e))
  simp [this]
abbrev Rising (l : List ByteArray) : Prop := l.Pairwise LtS
theorem rising_at {l : List ByteArray} (h : ∀ i, i + 1 < l.length → LtS (nameAt l i) (nameAt l (i + 1))) : Rising l := by
 have key : ∀ (k i : Nat), i + k + 1 < l.length → LtS (nameAt l i) (nameAt l (i + k + 1)) := by
  intro k
  induction k with
  | zero => intro i hi; exact h i hi
  | succ k ih => intro i hi; exact lts_trans (ih i (by omega)) (h (i + k + 1) (by omega))
 refine List.pairwise_iff_getElem.2 fun i j hi hj hij => ?_
 have := key (j - i - 1) i (by omega)
 rw [show i + (j - i - 1) + 1 = j by omega] at this
 unfold nameAt at this
 simp [List.getD_eq_getElem?_getD, hi, hj] at this
 exact this
theorem rising_nodup {l : List ByteArray} (h : Rising l) : l.Nodup := h.imp fun h e => by subst e; exact lts_irrefl _ h
theorem rising_one : ∀ (l l' : List ByteArray), Rising l → Rising l' → (∀ s, s ∈ l ↔ s ∈ l') → l = l'
 | [], [], _, _, _ => rfl
 | [], b :: r, _, _, h => absurd ((h b).2 List.mem_cons_self) (by simp)
 | a :: r, [], _, _, h => absurd ((h a).1 List.mem_cons_self) (by simp)
 | a :: r, b :: q, h1, h2, h => by
  have h1 := List.pairwise_cons.1 h1
  have h2 := List.pairwise_cons.1 h2
  have hab : a = b := by
   rcases List.mem_cons.1 ((h a).1 List.mem_cons_self) with e | e
   ·exact e
   ·rcases List.mem_cons.1 ((h b).2 List.mem_cons_self) with e' | e'
    ·exact e'.symm
    ·exact absurd (lts_trans (h1.1 b e') (h2.1 a e)) (lts_irrefl _)
  subst hab
  rw [rising_one r q h1.2 h2.2 fun s => ⟨fun hs => ?_, fun hs => ?_⟩]
  ·rcases List.mem_cons.1 ((h s).1 (List.mem_cons_of_mem _ hs)) with e | e
   ·subst e; exact absurd (h1.1 s hs) (lts_irrefl _)
   ·exact e
  ·rcases List.mem_cons.1 ((h s).2 (List.mem_cons_of_mem _ hs)) with e | e
   ·subst e; exact absurd (h2.1 s hs) (lts_irrefl _)
   ·exact e
theorem nodup_at {l : List ByteArray} (h : l.Nodup) {i j : Nat} {s : ByteArray} (hi : l[i]? = some s) (hj : l[j]? = some s) : i = j := by
 obtain ⟨hi', e⟩ := List.getElem?_eq_some_iff.1 hi
 obtain ⟨hj', e'⟩ := List.getElem?_eq_some_iff.1 hj
 rcases Nat.lt_trichotomy i j with c | c | c
 ·exact absurd (e.trans e'.symm) (List.pairwise_iff_getElem.1 h i j hi' hj' c)
 ·exact c
 ·exact absurd (e'.trans e.symm) (List.pairwise_iff_getElem.1 h j i hj' hi' c)
def ownG (t : Ty) : Bool := namesOk t.kind t.names && shapeOk t && !(t.kind == 8)
inductive GoodT : Ty → Prop
 | mk (t : Ty) (h : ownG t = true) (hs : ∀ s, s ∈ t.subs → GoodT s) : GoodT t
theorem GoodT.own {t : Ty} (h : GoodT t) : ownG t = true := by cases h; assumption
theorem GoodT.sub {t s : Ty} (h : GoodT t) (hs : s ∈ t.subs) : GoodT s := by cases h with | mk t h hs' => exact hs' s hs
theorem plain_own {t : Ty} (h : plainT t = true) : t.kind ≠ 8 ∧ ∀ s ∈ t.subs, plainT s = true := by
 cases t with
 | mk k p j d n ns ss =>
  unfold plainT at h
  simp only [Bool.and_eq_true, Bool.not_eq_true', beq_eq_false_iff_ne] at h
  refine ⟨h.1, ?_⟩
  have key : ∀ l : List Ty, plainL l = true → ∀ s ∈ l, plainT s = true := by
   intro l
   induction l with
   | nil => intro _ s hs; cases hs
   | cons a r ih =>
    intro h s hs
    unfold plainL at h
    rw [Bool.and_eq_true] at h
    rcases List.mem_cons.1 hs with rfl | hs
    ·exact h.1
    ·exact ih h.2 s hs
  exact key ss h.2
theorem good_of_ok : ∀ (N : Nat) (t : Ty), many t ≤ N → allOk t = true → plainT t = true → GoodT t := by
 intro N
 induction N with
 | zero => intro t h; have := many_pos t; omega
 | succ N ih =>
  intro t hN ha hp
  rw [allOk_eq, Bool.and_eq_true] at ha
  obtain ⟨h8, hs⟩ := plain_own hp
  refine .mk t ?_ fun s hm => ih s (by have := sub_lt hm; omega) ((allOkL_mem _).1 ha.2 s hm) (hs s hm)
  have h1 := ha.1
  unfold ownOk at h1
  simp only [Bool.and_eq_true] at h1
  unfold ownG
  rw [h1.1.2, h1.2]
  simpa using h8
theorem good_of_may {t : Ty} (h : mayT t = true) (hp : plainT t = true) : GoodT t := by
 unfold mayT at h
 simp only [Bool.and_eq_true] at h
 exact good_of_ok _ t (Nat.le_refl _) h.1.1 hp
theorem empty_is {s : ByteArray} (h : emptyB s = true) : s = ⟨#[]⟩ := by
 unfold emptyB at h
 have h := of_decide_eq_true h
 cases s with | mk d => cases d with | mk l =>
 simp only [ByteArray.size, List.size_toArray, List.length_eq_zero_iff] at h
 rw [h]
structure Bare (t : Ty) : Prop where
 pkg : t.pkg = ⟨#[]⟩
 major : t.major = 0
 mod : t.mod = ⟨#[]⟩
 name : t.name = ⟨#[]⟩
theorem bare_of {t : Ty} (h : noMore t = true) : Bare t := by
 unfold noMore at h
 simp only [Bool.and_eq_true, beq_iff_eq] at h
 exact ⟨empty_is h.1.1.1, h.1.1.2, empty_is h.1.2, empty_is h.2⟩
theorem Bare.no {t : Ty} (h : Bare t) : noMore t = true := by
 unfold noMore
 rw [h.pkg, h.major, h.mod, h.name]; rfl
theorem Bare.ext {a b : Ty} (ha : Bare a) (hb : Bare b) (h1 : a.kind = b.kind) (h2 : a.names = b.names) (h3 : a.subs = b.subs) : a = b :=
 ty_ext h1 (ha.pkg.trans hb.pkg.symm) (ha.major.trans hb.major.symm) (ha.mod.trans hb.mod.symm) (ha.name.trans hb.name.symm) h2 h3
def nameB (k : Int) (s : ByteArray) : Bool := (!(k == 5) || smallB s.data.toList) && (!(k == 6) || greatB s.data.toList)
theorem names_rise {k : Int} {l : List ByteArray} (h : namesOk k l = true) : Rising l ∧ ∀ s ∈ l, nameB k s = true := by
 rw [namesOk_iff] at h
 refine ⟨rising_at fun i hi => ?_, fun s hs => ?_⟩
 ·have := h (i + 1) hi
  unfold badName at this
  simp only [Bool.or_eq_false_iff, Bool.and_eq_false_iff] at this
  rcases this.2 with c | c
  ·simp at c
  ·rw [leS_lts] at c
   simp at c
   exact c
 ·obtain ⟨i, hi⟩ := List.getElem?_of_mem hs
  obtain ⟨hi', e⟩ := List.getElem?_eq_some_iff.1 hi
  have := h i hi'
  unfold badName at this
  have en : nameAt l i = s := by unfold nameAt; simp [List.getD_eq_getElem?_getD, hi]
  rw [en] at this
  simp only [Bool.or_eq_false_iff, Bool.and_eq_false_iff, Bool.not_eq_false'] at this
  unfold nameB
  rcases this.1.1 with c | c <;> rcases this.1.2 with d | d <;> simp [c, d]
theorem names_ok {k : Int} {l : List ByteArray} (h : Rising l) (hn : ∀ s ∈ l, nameB k s = true) : namesOk k l = true := by
 rw [namesOk_iff]
 intro i hi
 have hs : l[i]? = some l[i] := List.getElem?_eq_getElem hi
 have en : nameAt l i = l[i] := by unfold nameAt; simp [List.getD_eq_getElem?_getD, hi]
 have hb := hn _ (List.getElem_mem hi)
 unfold nameB at hb
 simp only [Bool.and_eq_true, Bool.or_eq_true, Bool.not_eq_true'] at hb
 unfold badName
 rw [en]
 simp only [Bool.or_eq_false_iff, Bool.and_eq_false_iff, Bool.not_eq_false']
 refine ⟨⟨hb.1, hb.2⟩, ?_⟩
 rcases Nat.eq_zero_or_pos i with h0 | h0
 ·exact .inl (by simp [h0])
 ·refine .inr ?_
  rw [leS_lts]
  have e2 : nameAt l (i - 1) = l[i - 1] := by unfold nameAt; simp [List.getD_eq_getElem?_getD, show i - 1 < l.length by omega]
  rw [e2, decide_eq_true (List.pairwise_iff_getElem.1 h (i - 1) i (by omega) hi (by omega))]; rfl
theorem GoodT.rise {t : Ty} (h : GoodT t) : Rising t.names := by
 have := h.own
 unfold ownG at this
 simp only [Bool.and_eq_true] at this
 exact (names_rise this.1.1).1
theorem GoodT.nodup {t : Ty} (h : GoodT t) : t.names.Nodup := rising_nodup h.rise
theorem GoodT.named {t : Ty} (h : GoodT t) : ∀ s ∈ t.names, nameB t.kind s = true := by
 have := h.own
 unfold ownG at this
 simp only [Bool.and_eq_true] at this
 exact (names_rise this.1.1).2
theorem GoodT.shape {t : Ty} (h : GoodT t) : shapeOk t = true := by
 have := h.own
 unfold ownG at this
 simp only [Bool.and_eq_true] at this
 exact this.1.2
theorem GoodT.row {t : Ty} (h : GoodT t) (hk : t.kind = 5 ∨ t.kind = 6) : Bare t ∧ t.subs.length = t.names.length ∧ (t.kind = 6 → 0 < t.subs.length) := by
 have hs := h.shape
 unfold shapeOk at hs
 rcases hk with hk | hk <;> rw [hk] at hs <;> simp at hs
 ·exact ⟨bare_of hs.1, hs.2, fun h => by rw [hk] at h; cases h⟩
 ·exact ⟨bare_of hs.1.1, hs.1.2, fun _ => hs.2⟩
theorem GoodT.parts {t : Ty} (h : GoodT t) (hk : t.kind = 4 ∨ t.kind = 7) : Bare t ∧ t.names = [] ∧ 0 < t.subs.length ∧ (t.kind = 4 → t.subs.length = 1) := by
 have hs := h.shape
 unfold shapeOk at hs
 rcases hk with hk | hk <;> rw [hk] at hs <;> simp at hs
 ·exact ⟨bare_of hs.1.1, hs.2, by omega, fun _ => hs.1.2⟩
 ·exact ⟨bare_of hs.1.1, hs.2, hs.1.2, fun h => by rw [hk] at h; cases h⟩
theorem GoodT.leaf {t : Ty} (h : GoodT t) (h4 : t.kind ≠ 4) (h5 : t.kind ≠ 5) (h6 : t.kind ≠ 6) (h7 : t.kind ≠ 7) : t.subs = [] ∧ t.names = [] := by
 have hs := h.shape
 unfold shapeOk at hs
 split at hs
 ·simp at hs; exact ⟨hs.1.2, hs.2⟩
 ·split at hs
  ·simp at hs; exact ⟨hs.1.1.1.1.1, hs.1.1.1.1.2⟩
  ·split at hs
   ·simp at hs; exact ⟨hs.1.1.1.1.1.1, hs.1.1.1.1.1.2⟩
   ·cases hs
theorem GoodT.one {t x y : Ty} {s : ByteArray} (h : GoodT t) (hx : AtN t s x) (hy : AtN t s y) : x = y := by
 obtain ⟨i, h1, h2⟩ := hx
 obtain ⟨j, h3, h4⟩ := hy
 obtain rfl := nodup_at h.nodup h1 h3
 rw [h2] at h4
 exact Option.some.inj h4
theorem GoodT.has {t : Ty} {s : ByteArray} (h : GoodT t) (hk : t.kind = 5 ∨ t.kind = 6) (hs : s ∈ t.names) : ∃ x, AtN t s x := by
 obtain ⟨i, hi⟩ := List.getElem?_of_mem hs
 have hi' := (List.getElem?_eq_some_iff.1 hi).1
 have hl := (h.row hk).2.1
 exact ⟨_, i, hi, List.getElem?_eq_getElem (by omega)⟩
def SubR (a b : Ty) : Prop :=
 a.kind = b.kind ∧
 (a.kind = 5 → ∀ s y, AtN b s y → ∃ x, ∃ _ : AtN a s x, ∃ _ : AtN b s y, SubR x y) ∧
 (a.kind = 6 → ∀ s x, AtN a s x → ∃ y, ∃ _ : AtN a s x, ∃ _ : AtN b s y, SubR x y) ∧
 ((a.kind = 4 ∨ a.kind = 7) → a.subs.length = b.subs.length ∧ ∀ i x y, (hx : a.subs[i]? = some x) → (hy : b.subs[i]? = some y) → (i + 1 = a.subs.length → SubR x y) ∧ (i + 1 ≠ a.subs.length → SubR y x)) ∧
 ((a.kind ≠ 4 ∧ a.kind ≠ 5 ∧ a.kind ≠ 6 ∧ a.kind ≠ 7) → a = b)
termination_by many a + many b
decreasing_by
 ·rename_i h1 h2
  have := h1.lt; have := h2.lt; omega
 ·rename_i h1 h2
  have := h1.lt; have := h2.lt; omega
 ·have := sub_lt_at hx; have := sub_lt_at hy; omega
 ·have := sub_lt_at hx; have := sub_lt_at hy; omega
def Le (up : Bool) (a b : Ty) : Prop := if up = true then SubR a b else SubR b a
theorem le_up {a b : Ty} : Le true a b = SubR a b := rfl
theorem le_down {a b : Ty} : Le false a b = SubR b a := rfl
theorem Le.kind {up : Bool} {a b : Ty} (h : Le up a b) : a.kind = b.kind := by
 cases up with
 | false => rw [le_down, SubR] at h; exact h.1.symm
 | true => rw [le_up, SubR] at h; exact h.1
def loses (k : Int) (up : Bool) : Prop := (k = 5 ∧ up = true) ∨ (k = 6 ∧ up = false)
def wins (k : Int) (up : Bool) : Prop := (k = 6 ∧ up = true) ∨ (k = 5 ∧ up = false)
theorem le_loses {up : Bool} {a b : Ty} (hl : loses a.kind up) : Le up a b ↔ a.kind = b.kind ∧ ∀ s y, AtN b s y → ∃ x, AtN a s x ∧ Le up x y := by
 rcases hl with ⟨hk, rfl⟩ | ⟨hk, rfl⟩
 ·rw [le_up, SubR]
  refine ⟨fun ⟨h1, h2, _⟩ => ⟨h1, fun s y hy => ?_⟩, fun ⟨h1, h2⟩ => ⟨h1, fun _ s y hy => ?_, fun h => by omega, fun h => by omega, fun h => by omega⟩⟩
  ·obtain ⟨x, hx, -, h⟩ := h2 hk s y hy
   exact ⟨x, hx, h⟩
  ·obtain ⟨x, hx, h⟩ := h2 s y hy
   exact ⟨x, hx, hy, h⟩
 ·rw [le_down, SubR]
  refine ⟨fun ⟨h1, _, h2, _⟩ => ⟨h1.symm, fun s y hy => ?_⟩, fun ⟨h1, h2⟩ => ⟨h1.symm, fun h => by omega, fun _ s y hy => ?_, fun h => by omega, fun h => by omega⟩⟩
  ·obtain ⟨x, -, hx, h⟩ := h2 (by omega) s y hy
   exact ⟨x, hx, h⟩
  ·obtain ⟨x, hx, h⟩ := h2 s y hy
   exact ⟨x, hy, hx, h⟩
theorem le_wins {up : Bool} {a b : Ty} (hl : wins a.kind up) : Le up a b ↔ a.kind = b.kind ∧ ∀ s x, AtN a s x → ∃ y, AtN b s y ∧ Le up x y := by
 rcases hl with ⟨hk, rfl⟩ | ⟨hk, rfl⟩
 ·rw [le_up, SubR]
  refine ⟨fun ⟨h1, _, h2, _⟩ => ⟨h1, fun s y hy => ?_⟩, fun ⟨h1, h2⟩ => ⟨h1, fun h => by omega, fun _ s y hy => ?_, fun h => by omega, fun h => by omega⟩⟩
  ·obtain ⟨x, -, hx, h⟩ := h2 hk s y hy
   exact ⟨x, hx, h⟩
  ·obtain ⟨x, hx, h⟩ := h2 s y hy
   exact ⟨x, hy, hx, h⟩
 ·rw [le_down, SubR]
  refine ⟨fun ⟨h1, h2, _⟩ => ⟨h1.symm, fun s y hy => ?_⟩, fun ⟨h1, h2⟩ => ⟨h1.symm, fun _ s y hy => ?_, fun h => by omega, fun h => by omega, fun h => by omega⟩⟩
  ·obtain ⟨x, hx, -, h⟩ := h2 (by omega) s y hy
   exact ⟨x, hx, h⟩
  ·obtain ⟨x, hx, h⟩ := h2 s y hy
   exact ⟨x, hx, hy, h⟩
theorem le_parts {up : Bool} {a b : Ty} (hk : a.kind = 4 ∨ a.kind = 7) : Le up a b ↔ a.kind = b.kind ∧ a.subs.length = b.subs.length ∧ ∀ i x y, a.subs[i]? = some x → b.subs[i]? = some y → Le (if i + 1 = a.subs.length then up else !up) x y := by
 cases up with
 | true =>
  rw [le_up, SubR]
  refine ⟨fun ⟨h1, _, _, h2, _⟩ => ⟨h1, (h2 hk).1, fun i x y hx hy => ?_⟩, fun ⟨h1, h2, h3⟩ => ⟨h1, fun h => by omega, fun h => by omega, fun _ => ⟨h2, fun i x y hx hy => ?_⟩, fun h => by omega⟩⟩
  ·have := (h2 hk).2 i x y hx hy
   split
   ·exact this.1 (by assumption)
   ·exact this.2 (by assumption)
  ·have := h3 i x y hx hy
   refine ⟨fun e => ?_, fun e => ?_⟩
   ·rw [if_pos e] at this; exact this
   ·rw [if_neg e] at this; exact this
 | false =>
  rw [le_down, SubR]
  refine ⟨fun ⟨h1, _, _, h2, _⟩ => ⟨h1.symm, (h2 (by omega)).1.symm, fun i x y hx hy => ?_⟩, fun ⟨h1, h2, h3⟩ => ⟨h1.symm, fun h => by omega, fun h => by omega, fun _ => ⟨h2.symm, fun i x y hx hy => ?_⟩, fun h => by omega⟩⟩
  ·have hl := (h2 (by omega)).1
   have := (h2 (by omega)).2 i y x hy hx
   split
   ·exact this.1 (by omega)
   ·exact this.2 (by omega)
  ·have := h3 i y x hy hx
   refine ⟨fun e => ?_, fun e => ?_⟩
   ·rw [if_pos (by omega)] at this; exact this
   ·rw [if_neg (by omega)] at this; exact this
theorem le_leaf {up : Bool} {a b : Ty} (h4 : a.kind ≠ 4) (h5 : a.kind ≠ 5) (h6 : a.kind ≠ 6) (h7 : a.kind ≠ 7) : Le up a b ↔ a = b := by
 cases up with
 | true =>
  rw [le_up, SubR]
  exact ⟨fun h => h.2.2.2.2 ⟨h4, h5, h6, h7⟩, fun h => by subst h; exact ⟨rfl, fun h => absurd h h5, fun h => absurd h h6, fun h => by omega, fun _ => rfl⟩⟩
 | false =>
  rw [le_down, SubR]
  exact ⟨fun h => (h.2.2.2.2 (by have := h.1; omega)).symm, fun h => by subst h; exact ⟨rfl, fun h => absurd h h5, fun h => absurd h h6, fun h => by omega, fun _ => rfl⟩⟩
theorem kinds (k : Int) (up : Bool) : loses k up ∨ wins k up ∨ (k = 4 ∨ k = 7) ∨ (k ≠ 4 ∧ k ≠ 5 ∧ k ≠ 6 ∧ k ≠ 7) := by
 unfold loses wins
 cases up <;> by_cases h4 : k = 4 <;> by_cases h5 : k = 5 <;> by_cases h6 : k = 6 <;> by_cases h7 : k = 7 <;> simp_all
theorem le_refl' : ∀ (N : Nat) (up : Bool) (t : Ty), many t ≤ N → Le up t t := by
 intro N
 induction N with
 | zero => intro up t h; have := many_pos t; omega
 | succ N ih =>
  intro up t hN
  rcases kinds t.kind up with h | h | h | h
  ·exact (le_loses h).2 ⟨rfl, fun s y hy => ⟨y, hy, ih up y (by have := hy.lt; omega)⟩⟩
  ·exact (le_wins h).2 ⟨rfl, fun s y hy => ⟨y, hy, ih up y (by have := hy.lt; omega)⟩⟩
  ·exact (le_parts h).2 ⟨rfl, rfl, fun i x y hx hy => by
    rw [hx] at hy; cases hy
    exact ih _ x (by have := sub_lt_at hx; omega)⟩
  ·exact (le_leaf h.1 h.2.1 h.2.2.1 h.2.2.2).2 rfl
theorem le_refl (up : Bool) (t : Ty) : Le up t t := le_refl' _ up t (Nat.le_refl _)
theorem le_anti' : ∀ (N : Nat) (up : Bool) (a b : Ty), many a ≤ N → GoodT a → GoodT b → Le up a b → Le up b a → a = b := by
 intro N
 induction N with
 | zero => intro up t _ h; have := many_pos t; omega
 | succ N ih =>
  intro up a b hN ga gb h1 h2
  have hab := h1.kind
  have rows : (a.kind = 5 ∨ a.kind = 6) → (∀ s x y, AtN a s x → AtN b s y → x = y) → (∀ s x, AtN a s x → ∃ y, AtN b s y) → (∀ s y, AtN b s y → ∃ x, AtN a s x) → a = b := fun hk f1 f2 f3 => by
   have hk' : b.kind = 5 ∨ b.kind = 6 := by rw [← hab]; exact hk
   obtain ⟨ba, la, -⟩ := ga.row hk
   obtain ⟨bb, lb, -⟩ := gb.row hk'
   have hn : a.names = b.names := rising_one _ _ ga.rise gb.rise fun s => ⟨fun hs => by
    obtain ⟨x, hx⟩ := ga.has hk hs
    obtain ⟨y, hy⟩ := f2 s x hx
    exact hy.name, fun hs => by
    obtain ⟨x, hx⟩ := gb.has hk' hs
    obtain ⟨y, hy⟩ := f3 s x hx
    exact hy.name⟩
   refine ba.ext bb hab hn (List.ext_getElem? fun i => ?_)
   by_cases hi : i < a.subs.length
   ·have hx : a.subs[i]? = some a.subs[i] := List.getElem?_eq_getElem hi
    have hib : i < b.subs.length := by rw [lb, ← hn, ← la]; exact hi
    have hy : b.subs[i]? = some b.subs[i] := List.getElem?_eq_getElem hib
    have hs : a.names[i]? = some a.names[i] := List.getElem?_eq_getElem (by omega)
    rw [hx, hy, f1 _ _ _ ⟨i, hs, hx⟩ ⟨i, by rw [← hn]; exact hs, hy⟩]
   ·rw [List.getElem?_eq_none (by omega), List.getElem?_eq_none (by rw [lb, ← hn, ← la]; omega)]
  rcases kinds a.kind up with h | h | h | h
  ·have hk : a.kind = 5 ∨ a.kind = 6 := by unfold loses at h; omega
   obtain ⟨-, f1⟩ := (le_loses h).1 h1
   obtain ⟨-, f2⟩ := (le_loses (by rw [hab] at h; exact h)).1 h2
   refine rows hk (fun s x y hx hy => ?_) (fun s x hx => ?_) (fun s y hy => ?_)
   ·obtain ⟨x', hx', p⟩ := f1 s y hy
    obtain ⟨y', hy', q⟩ := f2 s x hx
    obtain rfl := ga.one hx hx'
    obtain rfl := gb.one hy hy'
    exact ih up x y (by have := hx.lt; omega) (ga.sub hx.sub) (gb.sub hy.sub) p q
   ·obtain ⟨y', hy', q⟩ := f2 s x hx; exact ⟨y', hy'⟩
   ·obtain ⟨y', hy', q⟩ := f1 s y hy; exact ⟨y', hy'⟩
  ·have hk : a.kind = 5 ∨ a.kind = 6 := by unfold wins at h; omega
   obtain ⟨-, f1⟩ := (le_wins h).1 h1
   obtain ⟨-, f2⟩ := (le_wins (by rw [hab] at h; exact h)).1 h2
   refine rows hk (fun s x y hx hy => ?_) (fun s x hx => ?_) (fun s y hy => ?_)
   ·obtain ⟨y', hy', p⟩ := f1 s x hx
    obtain ⟨x', hx', q⟩ := f2 s y hy
    obtain rfl := ga.one hx hx'
    obtain rfl := gb.one hy hy'
    exact ih up x y (by have := hx.lt; omega) (ga.sub hx.sub) (gb.sub hy.sub) p q
   ·obtain ⟨y', hy', q⟩ := f1 s x hx; exact ⟨y', hy'⟩
   ·obtain ⟨y', hy', q⟩ := f2 s y hy; exact ⟨y', hy'⟩
  ·obtain ⟨-, l1, f1⟩ := (le_parts h).1 h1
   obtain ⟨-, l2, f2⟩ := (le_parts (by rw [hab] at h; exact h)).1 h2
   obtain ⟨ba, na, -⟩ := ga.parts h
   obtain ⟨bb, nb, -⟩ := gb.parts (by rw [← hab]; exact h)
   refine ba.ext bb hab (na.trans nb.symm) (List.ext_getElem? fun i => ?_)
   by_cases hi : i < a.subs.length
   ·obtain ⟨x, hx⟩ := at_some hi
    obtain ⟨y, hy⟩ := at_some (show i < b.subs.length by omega)
    have p := f1 i _ _ hx hy
    have q := f2 i _ _ hy hx
    rw [← l1] at q
    rw [hx, hy, ih _ _ _ (by have := sub_lt_at hx; omega) (ga.sub (List.mem_of_getElem? hx)) (gb.sub (List.mem_of_getElem? hy)) p q]
   ·rw [List.getElem?_eq_none (by omega), List.getElem?_eq_none (by omega)]
  ·exact (le_leaf h.1 h.2.1 h.2.2.1 h.2.2.2).1 h1
theorem le_anti {up : Bool} {a b : Ty} (ga : GoodT a) (gb : GoodT b) (h1 : Le up a b) (h2 : Le up b a) : a = b := le_anti' _ up a b (Nat.le_refl _) ga gb h1 h2
structure IsBnd (up : Bool) (a b t : Ty) : Prop where
 good : GoodT t
 left : Le up a t
 right : Le up b t
 near : ∀ c, GoodT c → Le up a c → Le up b c → Le up t c
def NoBnd (up : Bool) (a b : Ty) : Prop := ∀ c, GoodT c → Le up a c → ¬ Le up b c
theorem IsBnd.one {up : Bool} {a b t u : Ty} (h : IsBnd up a b t) (h' : IsBnd up a b u) : t = u := le_anti h.good h'.good (h.near u h'.good h'.left h'.right) (h'.near t h.good h.left h.right)
theorem IsBnd.not {up : Bool} {a b t : Ty} (h : IsBnd up a b t) (h' : NoBnd up a b) : False := h' t h.good h.left h.right
theorem bnd_le {up : Bool} {a b : Ty} (gb : GoodT b) (h : Le up a b) : IsBnd up a b b := ⟨gb, h, le_refl up b, fun _ _ _ h => h⟩
theorem no_kind {up : Bool} {a b : Ty} (h : a.kind ≠ b.kind) : NoBnd up a b := fun c _ h1 h2 => h (h1.kind.trans h2.kind.symm)
theorem no_len {up : Bool} {a b : Ty} (hk : a.kind = 4 ∨ a.kind = 7) (h : a.subs.length ≠ b.subs.length) : NoBnd up a b := fun c _ h1 h2 => by
 have e := h1.kind.trans h2.kind.symm
 have l1 := ((le_parts hk).1 h1).2.1
 have l2 := ((le_parts (by rw [← e]; exact hk)).1 h2).2.1
 omega
theorem no_part {up : Bool} {a b x y : Ty} {i : Nat} (hk : a.kind = 4 ∨ a.kind = 7) (hx : a.subs[i]? = some x) (hy : b.subs[i]? = some y) (h : NoBnd (if i + 1 = a.subs.length then up else !up) x y) : NoBnd up a b := fun c gc h1 h2 => by
 have e := h1.kind.trans h2.kind.symm
 obtain ⟨-, l1, f1⟩ := (le_parts hk).1 h1
 obtain ⟨-, l2, f2⟩ := (le_parts (by rw [← e]; exact hk)).1 h2
 have hi := (List.getElem?_eq_some_iff.1 hx).1
 obtain ⟨z, hz⟩ := at_some (show i < c.subs.length by omega)
 have g2 := f2 i y _ hy hz
 rw [show b.subs.length = a.subs.length by omega] at g2
 exact h _ (gc.sub (List.mem_of_getElem? hz)) (f1 i x _ hx hz) g2
theorem bnd_parts {up : Bool} {a b t : Ty} (hk : a.kind = 4 ∨ a.kind = 7) (ga : GoodT a) (e1 : a.kind = b.kind) (e2 : a.kind = t.kind) (ht : Bare t) (hn : t.names = []) (l1 : a.subs.length = b.subs.length) (l2 : a.subs.length = t.subs.length)
  (h : ∀ i x y z, a.subs[i]? = some x → b.subs[i]? = some y → t.subs[i]? = some z → IsBnd (if i + 1 = a.subs.length then up else !up) x y z) : IsBnd up a b t := by
 have all : ∀ i, i < a.subs.length → (∃ x, a.subs[i]? = some x) ∧ (∃ y, b.subs[i]? = some y) := fun i hi => ⟨at_some hi, at_some (by omega)⟩
 refine ⟨.mk t ?_ fun s hs => ?_, (le_parts hk).2 ⟨e2, l2, fun i x z hx hz => ?_⟩, (le_parts (by rw [← e1]; exact hk)).2 ⟨e1.symm.trans e2, by omega, fun i y z hy hz => ?_⟩, fun c gc h1 h2 => ?_⟩
 ·obtain ⟨-, -, la, la4⟩ := ga.parts hk
  unfold ownG shapeOk
  rw [← e2, hn]
  rcases hk with hk | hk
  ·rw [hk]
   have := la4 hk
   simp [namesOk, ht.no, ← l2, this]
  ·rw [hk]
   simp [namesOk, ht.no, ← l2, la]
 ·obtain ⟨i, hi⟩ := List.getElem?_of_mem hs
  have hi' := (List.getElem?_eq_some_iff.1 hi).1
  obtain ⟨⟨x', p1⟩, ⟨y', p2⟩⟩ := all i (by omega)
  exact (h i _ _ s p1 p2 hi).good
 ·have hi' := (List.getElem?_eq_some_iff.1 hx).1
  obtain ⟨⟨x', p1⟩, ⟨y', p2⟩⟩ := all i hi'
  exact (h i _ _ z hx p2 hz).left
 ·have hi' := (List.getElem?_eq_some_iff.1 hy).1
  obtain ⟨⟨x', p1⟩, ⟨y', p2⟩⟩ := all i (by omega)
  rw [← l1]
  exact (h i _ _ z p1 hy hz).right
 ·obtain ⟨k1, m1, f1⟩ := (le_parts hk).1 h1
  obtain ⟨-, m2, f2⟩ := (le_parts (by rw [← e1]; exact hk)).1 h2
  refine (le_parts (by rw [← e2]; exact hk)).2 ⟨e2.symm.trans k1, by omega, fun i z w hz hw => ?_⟩
  have hi' := (List.getElem?_eq_some_iff.1 hz).1
  obtain ⟨⟨x', p1⟩, ⟨y', p2⟩⟩ := all i (by omega)
  have g2 := f2 i _ w p2 hw
  rw [← l1] at g2
  rw [← l2]
  exact (h i _ _ z p1 p2 hz).near w (gc.sub (List.mem_of_getElem? hw)) (f1 i _ w p1 hw) g2
theorem good_row {t : Ty} (hk : t.kind = 5 ∨ t.kind = 6) (ht : Bare t) (hr : Rising t.names) (hn : ∀ s ∈ t.names, nameB t.kind s = true) (hl : t.subs.length = t.names.length) (h0 : t.kind = 6 → 0 < t.subs.length) (hs : ∀ x ∈ t.subs, GoodT x) : GoodT t := by
 refine .mk t ?_ hs
 unfold ownG shapeOk
 rw [names_ok hr hn]
 rcases hk with hk | hk
 ·rw [hk]; simp [ht.no, hl]
 ·have h0 := h0 hk
  rw [hk]; simp [ht.no, hl] at h0 ⊢; exact h0
theorem bnd_common {up : Bool} {a b t : Ty} (hl : loses a.kind up) (e1 : a.kind = b.kind) (e2 : a.kind = t.kind) (ga : GoodT a) (gb : GoodT b) (gt : GoodT t)
  (h1 : ∀ s z, AtN t s z → ∃ x y, AtN a s x ∧ AtN b s y ∧ IsBnd up x y z) (h2 : ∀ s x y, AtN a s x → AtN b s y → (∃ z, AtN t s z) ∨ NoBnd up x y) : IsBnd up a b t := by
 refine ⟨gt, (le_loses hl).2 ⟨e2, fun s z hz => ?_⟩, (le_loses (by rw [← e1]; exact hl)).2 ⟨e1.symm.trans e2, fun s z hz => ?_⟩, fun c gc p q => ?_⟩
 ·obtain ⟨x, y, hx, hy, h⟩ := h1 s z hz
  exact ⟨x, hx, h.left⟩
 ·obtain ⟨x, y, hx, hy, h⟩ := h1 s z hz
  exact ⟨y, hy, h.right⟩
 ·obtain ⟨k1, f1⟩ := (le_loses hl).1 p
  obtain ⟨-, f2⟩ := (le_loses (by rw [← e1]; exact hl)).1 q
  refine (le_loses (by rw [← e2]; exact hl)).2 ⟨e2.symm.trans k1, fun s w hw => ?_⟩
  obtain ⟨x, hx, hxw⟩ := f1 s w hw
  obtain ⟨y, hy, hyw⟩ := f2 s w hw
  have gw := gc.sub hw.sub
  rcases h2 s x y hx hy with ⟨z, hz⟩ | hno
  ·obtain ⟨x', y', hx', hy', hb⟩ := h1 s z hz
   obtain rfl := ga.one hx hx'
   obtain rfl := gb.one hy hy'
   exact ⟨z, hz, hb.near w gw hxw hyw⟩
  ·exact absurd hyw (hno w gw hxw)
theorem no_common {up : Bool} {a b : Ty} (hl : loses a.kind up) (h6 : a.kind = 6) (e1 : a.kind = b.kind) (h : ∀ s x y, AtN a s x → AtN b s y → NoBnd up x y) : NoBnd up a b := fun c gc p q => by
 obtain ⟨k1, f1⟩ := (le_loses hl).1 p
 obtain ⟨-, f2⟩ := (le_loses (by rw [← e1]; exact hl)).1 q
 obtain ⟨-, lc, l0⟩ := gc.row (by omega)
 have l0 := l0 (by omega)
 have hs : c.names[0]? = some (c.names[0]'(by omega)) := List.getElem?_eq_getElem _
 have hw : c.subs[0]? = some c.subs[0] := List.getElem?_eq_getElem _
 obtain ⟨x, hx, hxw⟩ := f1 _ _ ⟨0, hs, hw⟩
 obtain ⟨y, hy, hyw⟩ := f2 _ _ ⟨0, hs, hw⟩
 exact h _ x y hx hy _ (gc.sub (List.mem_of_getElem? hw)) hxw hyw
theorem bnd_union {up : Bool} {a b t : Ty} (hl : wins a.kind up) (e1 : a.kind = b.kind) (e2 : a.kind = t.kind) (ga : GoodT a) (gb : GoodT b) (gt : GoodT t)
  (h1 : ∀ s z, AtN t s z → (∃ x y, AtN a s x ∧ AtN b s y ∧ IsBnd up x y z) ∨ (AtN a s z ∧ ∀ y, ¬ AtN b s y) ∨ (AtN b s z ∧ ∀ x, ¬ AtN a s x)) (h2 : ∀ s x, AtN a s x → ∃ z, AtN t s z) (h3 : ∀ s x, AtN b s x → ∃ z, AtN t s z) : IsBnd up a b t := by
 refine ⟨gt, (le_wins hl).2 ⟨e2, fun s x hx => ?_⟩, (le_wins (by rw [← e1]; exact hl)).2 ⟨e1.symm.trans e2, fun s y hy => ?_⟩, fun c gc p q => ?_⟩
 ·obtain ⟨z, hz⟩ := h2 s x hx
  refine ⟨z, hz, ?_⟩
  rcases h1 s z hz with ⟨x', y', hx', hy', h⟩ | ⟨hx', -⟩ | ⟨-, h⟩
  ·obtain rfl := ga.one hx hx'; exact h.left
  ·obtain rfl := ga.one hx hx'; exact le_refl up x
  ·exact absurd hx (h x)
 ·obtain ⟨z, hz⟩ := h3 s y hy
  refine ⟨z, hz, ?_⟩
  rcases h1 s z hz with ⟨x', y', hx', hy', h⟩ | ⟨-, h⟩ | ⟨hy', -⟩
  ·obtain rfl := gb.one hy hy'; exact h.right
  ·exact absurd hy (h y)
  ·obtain rfl := gb.one hy hy'; exact le_refl up y
 ·obtain ⟨k1, f1⟩ := (le_wins hl).1 p
  obtain ⟨-, f2⟩ := (le_wins (by rw [← e1]; exact hl)).1 q
  refine (le_wins (by rw [← e2]; exact hl)).2 ⟨e2.symm.trans k1, fun s z hz => ?_⟩
  rcases h1 s z hz with ⟨x, y, hx, hy, h⟩ | ⟨hx, -⟩ | ⟨hy, -⟩
  ·obtain ⟨w, hw, hxw⟩ := f1 s x hx
   obtain ⟨w', hw', hyw⟩ := f2 s y hy
   obtain rfl := gc.one hw hw'
   exact ⟨w, hw, h.near w (gc.sub hw.sub) hxw hyw⟩
  ·exact f1 s z hx
  ·exact f2 s z hy
theorem no_union {up : Bool} {a b x y : Ty} {s : ByteArray} (hl : wins a.kind up) (e1 : a.kind = b.kind) (hx : AtN a s x) (hy : AtN b s y) (h : NoBnd up x y) : NoBnd up a b := fun c gc p q => by
 obtain ⟨k1, f1⟩ := (le_wins hl).1 p
 obtain ⟨-, f2⟩ := (le_wins (by rw [← e1]; exact hl)).1 q
 obtain ⟨w, hw, hxw⟩ := f1 s x hx
 obtain ⟨w', hw', hyw⟩ := f2 s y hy
 obtain rfl := gc.one hw hw'
 exact h w (gc.sub hw.sub) hxw hyw
theorem bnd_leaf {up : Bool} {a b : Ty} (h4 : a.kind ≠ 4) (h5 : a.kind ≠ 5) (h6 : a.kind ≠ 6) (h7 : a.kind ≠ 7) (ga : GoodT a) (h : a = b) : IsBnd up a b a := by subst h; exact bnd_le ga (le_refl up a)
theorem no_leaf {up : Bool} {a b : Ty} (h4 : a.kind ≠ 4) (h5 : a.kind ≠ 5) (h6 : a.kind ≠ 6) (h7 : a.kind ≠ 7) (h : a ≠ b) : NoBnd up a b := fun c _ p q => by
 obtain rfl := (le_leaf h4 h5 h6 h7).1 p
 cases hk : decide (b.kind = a.kind) with
 | false => exact of_decide_eq_false hk q.kind
 | true =>
  have hk := of_decide_eq_true hk
  exact h ((le_leaf (by omega) (by omega) (by omega) (by omega)).1 q).symm
open Classical in
noncomputable def subB (a b : Ty) : Bool := decide (SubR a b)
theorem subB_iff {a b : Ty} : subB a b = true ↔ SubR a b := by unfold subB; simp
theorem subB_no {a b : Ty} : subB a b = false ↔ ¬ SubR a b := by unfold subB; simp
end Go.Proofs.Ytcdmgcgjonndpaa

/-  -/
namespace Go.Proofs.Ytcdmgcgjonndpaa
open Go.RowKit
theorem bcell {W w1 : World} (hb : Below W.heap.size W w1) : (∀ b o, b < W.heap.size → w1.cell? ⟨b, o, none⟩ = W.cell? ⟨b, o, none⟩) ∧ (∀ b o, b < W.heap.size → w1.frozen? ⟨b, o, none⟩ = W.frozen? ⟨b, o, none⟩) :=
  ⟨fun b o h => hb.cell (p := ⟨b, o, none⟩) h, fun b o h => hb.frozen (p := ⟨b, o, none⟩) h⟩
theorem hid_or (b : Bool) : Hid (b = false) ∨ Hid (b = true) := by cases b; exact .inl rfl; exact .inr rfl
theorem ret_bool {a b : Bool} (h : b = a) : Ending.returned (.bool a) = .returned (.bool b) := by rw [h]
theorem below_over {w W w1 : World} (h : Below w.heap.size w W) (hb : Below W.heap.size W w1) : Below w.heap.size w w1 := h.trans (hb.mono h.size)
theorem below_new {w W : World} (h : Below w.heap.size w W) (o : Obj) : Below w.heap.size w (W.alloc o) := h.alloc h.size o
theorem below_put {w W : World} (h : Below w.heap.size w W) {a : Addr} (ha : w.heap.size ≤ a.block) (v : Value) : Below w.heap.size w (W.setCell a v) := h.setCell ha v
theorem below_drewN {B : Nat} {a w : World} (h : Below B a w) (n : Nat) : Below B a (w.drewN n) := h.trans ⟨rfl, rfl, rfl, Nat.le_refl _, fun _ _ => rfl⟩
theorem upto_step {P : Nat → Bool} {b k : Nat} (h : ∀ j, b ≤ j → j < k → P j = true) (hk : P k = true) : ∀ j, b ≤ j → j < k + 1 → P j = true := fun j a c => by
  rcases Nat.lt_or_ge j k with d | d
  · exact h j a d
  · rw [show j = k by omega]; exact hk
end Go.Proofs.Ytcdmgcgjonndpaa
