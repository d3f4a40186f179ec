/-
  Several texts in one: Plain mathematics for layer 2: keys, the types' words, how a name is spelled, as functions on lists of bytes. Nothing of any program. · Types as trees, and what layer 4 asks of them: plain mathematics. Nothing of any program. · Plain mathematics for layer 4: which types may be. · Plain mathematics for layer 5: the type that begins at a token, or what is amiss first, and where. · Small laws for every walk: what stands below, one way of two, a result that is a bool. Nothing of any program.
-/
import Derived.Lib.IndexBytes
import GoSem.Op.String
import Derived.WalkKit
import Derived.Below
import Derived.Deep.Draws
import Derived.Lib.Hide
/- Plain mathematics for layer 2: keys, the types' words, how a name is spelled, as functions on lists of bytes. Nothing of any program. -/
namespace Go.Proofs.YtbknmokamcjgpaaGreatDoor.M

def keys : List (List UInt8) := [[97, 115], [97, 108, 105, 97, 115], [100, 101, 112], [104, 105, 100, 100, 101, 110], [105, 109, 112, 111, 114, 116], [105, 115], [109, 111, 100, 117, 108, 101], [111, 112, 97, 113, 117, 101], [112, 97, 99, 107, 97, 103, 101], [117, 115, 101], [118, 97, 108], [118, 101, 114, 115, 105, 111, 110]]
def words : List (List UInt8) := [[73, 110, 116], [84, 101, 120, 116], [66, 111, 111, 108], [76, 105, 115, 116]]
def keyB (l : List UInt8) : Bool := keys.contains l
def wordB (l : List UInt8) : Bool := words.contains l

def lowC (n : Int) : Bool := decide (97 ≤ n) && decide (n ≤ 122)
def upC (n : Int) : Bool := decide (65 ≤ n) && decide (n ≤ 90)
def digC (n : Int) : Bool := decide (48 ≤ n) && decide (n ≤ 57)
def lowDigC (n : Int) : Bool := lowC n || digC n
def anyC (n : Int) : Bool := lowC n || upC n || digC n

/-- The byte at a place, as an int. -/
def bt (l : List UInt8) (j : Nat) : Int := ((l.getD j 0).toNat : Int)
/-- One to twenty bytes, the first one of the first kind, all behind it of the second. -/
def spell (f g : Int → Bool) (l : List UInt8) : Bool := decide (0 < l.length) && decide (l.length ≤ 20) && f (bt l 0) && l.tail.all (fun c => g (c.toNat : Int))
def smallB (l : List UInt8) : Bool := spell lowC lowDigC l && !keyB l
def greatB (l : List UInt8) : Bool := spell upC anyC l && !wordB l
/-- One to twenty bytes, all of one kind. -/
def letters (g : Int → Bool) (l : List UInt8) : Bool := decide (0 < l.length) && decide (l.length ≤ 20) && l.all (fun c => g (c.toNat : Int))

theorem bt_lt (l : List UInt8) (j : Nat) : 0 ≤ bt l j ∧ bt l j ≤ 255 := by
  unfold bt
  have := (l.getD j 0).toNat_lt
  omega
theorem bt_eq (s : ByteArray) (k : Nat) (h : k < s.size) : (s[k].toNat : Int) = bt s.data.toList k := by
  unfold bt
  rw [List.getD_eq_getElem?_getD, List.getElem?_eq_getElem (by simpa using h)]
  rfl

theorem all_iff (g : Int → Bool) (l : List UInt8) : l.all (fun c => g (c.toNat : Int)) = true ↔ ∀ j, j < l.length → g (bt l j) = true := by
  rw [List.all_eq_true]
  constructor
  · intro h j hj
    have := h l[j] (List.getElem_mem hj)
    unfold bt
    rw [List.getD_eq_getElem?_getD, List.getElem?_eq_getElem hj]
    exact this
  · intro h c hc
    obtain ⟨j, hj, rfl⟩ := List.getElem_of_mem hc
    have := h j hj
    unfold bt at this
    rw [List.getD_eq_getElem?_getD, List.getElem?_eq_getElem hj] at this
    exact this
theorem bt_tail (l : List UInt8) (j : Nat) : bt l.tail j = bt l (j + 1) := by
  unfold bt
  cases l <;> simp

theorem spell_iff (f g : Int → Bool) (l : List UInt8) : spell f g l = true ↔ 0 < l.length ∧ l.length ≤ 20 ∧ f (bt l 0) = true ∧ ∀ j, 1 ≤ j → j < l.length → g (bt l j) = true := by
  unfold spell
  simp only [Bool.and_eq_true, decide_eq_true_eq, all_iff]
  constructor
  · rintro ⟨⟨⟨h0, h1⟩, h2⟩, h3⟩
    refine ⟨h0, h1, h2, fun j hj hl => ?_⟩
    have := h3 (j - 1) (by simp; omega)
    rwa [bt_tail, show j - 1 + 1 = j by omega] at this
  · rintro ⟨h0, h1, h2, h3⟩
    refine ⟨⟨⟨h0, h1⟩, h2⟩, fun j hj => ?_⟩
    rw [bt_tail]
    exact h3 (j + 1) (by omega) (by simp at hj; omega)
theorem letters_iff (g : Int → Bool) (l : List UInt8) : letters g l = true ↔ 0 < l.length ∧ l.length ≤ 20 ∧ ∀ j, j < l.length → g (bt l j) = true := by
  unfold letters
  simp only [Bool.and_eq_true, decide_eq_true_eq, all_iff, and_assoc]

theorem len_size (s : ByteArray) : s.data.toList.length = s.size := by simp

theorem spell_empty (f g : Int → Bool) (s : ByteArray) (h : s.size = 0) : spell f g s.data.toList = false := by
  rw [Bool.eq_false_iff, ne_eq, spell_iff, len_size]; omega
theorem spell_long (f g : Int → Bool) (s : ByteArray) (h : 20 < s.size) : spell f g s.data.toList = false := by
  rw [Bool.eq_false_iff, ne_eq, spell_iff, len_size]; omega
theorem spell_first (f g : Int → Bool) (s : ByteArray) (h : f (bt s.data.toList 0) = false) : spell f g s.data.toList = false := by
  rw [Bool.eq_false_iff, ne_eq, spell_iff]; rintro ⟨-, -, a, -⟩; rw [h] at a; cases a
theorem spell_later (f g : Int → Bool) (s : ByteArray) (k : Nat) (h1 : 1 ≤ k) (h2 : k < s.size) (h : g (bt s.data.toList k) = false) : spell f g s.data.toList = false := by
  rw [Bool.eq_false_iff, ne_eq, spell_iff, len_size]; rintro ⟨-, -, -, a⟩; rw [a k h1 h2] at h; cases h
theorem spell_all (f g : Int → Bool) (s : ByteArray) (h0 : 0 < s.size) (h1 : s.size ≤ 20) (h2 : f (bt s.data.toList 0) = true) (h : ∀ j, 1 ≤ j → j < s.size → g (bt s.data.toList j) = true) : spell f g s.data.toList = true := by
  rw [spell_iff, len_size]; exact ⟨h0, h1, h2, h⟩
theorem letters_empty (g : Int → Bool) (s : ByteArray) (h : s.size = 0) : letters g s.data.toList = false := by
  rw [Bool.eq_false_iff, ne_eq, letters_iff, len_size]; omega
theorem letters_long (g : Int → Bool) (s : ByteArray) (h : 20 < s.size) : letters g s.data.toList = false := by
  rw [Bool.eq_false_iff, ne_eq, letters_iff, len_size]; omega
theorem letters_later (g : Int → Bool) (s : ByteArray) (k : Nat) (h2 : k < s.size) (h : g (bt s.data.toList k) = false) : letters g s.data.toList = false := by
  rw [Bool.eq_false_iff, ne_eq, letters_iff, len_size]; rintro ⟨-, -, a⟩; rw [a k h2] at h; cases h
theorem letters_all (g : Int → Bool) (s : ByteArray) (h0 : 0 < s.size) (h1 : s.size ≤ 20) (h : ∀ j, j < s.size → g (bt s.data.toList j) = true) : letters g s.data.toList = true := by
  rw [letters_iff, len_size]; exact ⟨h0, h1, h⟩

theorem lowDig_low {n : Int} (h : lowDigC n = true) : lowC n = decide (97 ≤ n) := by
  unfold lowDigC lowC digC at *
  rw [Bool.eq_iff_iff]
  simp only [Bool.or_eq_true, Bool.and_eq_true, decide_eq_true_eq] at *
  omega
/-- The reference's small name: letters, no key, the first one no digit. -/
theorem small_ref (l : List UInt8) (h : letters lowDigC l = true) : smallB l = (!keyB l && decide (97 ≤ bt l 0)) := by
  have hs : spell lowC lowDigC l = decide (97 ≤ bt l 0) := by
    obtain ⟨h0, h1, h2⟩ := (letters_iff _ _).1 h
    rw [← lowDig_low (h2 0 h0)]
    cases hf : lowC (bt l 0)
    · rw [Bool.eq_false_iff, ne_eq, spell_iff]; rintro ⟨-, -, a, -⟩; rw [hf] at a; cases a
    · rw [spell_iff]; exact ⟨h0, h1, hf, fun j _ hj => h2 j hj⟩
  unfold smallB
  rw [hs, Bool.and_comm]
theorem small_none (l : List UInt8) (h : letters lowDigC l = false) : smallB l = false := by
  have hs : spell lowC lowDigC l = false := by
    rw [Bool.eq_false_iff, ne_eq, spell_iff]
    rintro ⟨h0, h1, h2, h3⟩
    rw [Bool.eq_false_iff, ne_eq, letters_iff] at h
    refine h ⟨h0, h1, fun j hj => ?_⟩
    rcases j with _ | j
    · unfold lowDigC; rw [h2]; rfl
    · exact h3 (j + 1) (by omega) hj
  unfold smallB
  rw [hs]; rfl
theorem great_ref (l : List UInt8) (h : letters anyC l = true) : spell upC anyC l = (decide (65 ≤ bt l 0) && decide (bt l 0 ≤ 90)) := by
  obtain ⟨h0, h1, h2⟩ := (letters_iff _ _).1 h
  show _ = upC (bt l 0)
  cases hf : upC (bt l 0)
  · rw [Bool.eq_false_iff, ne_eq, spell_iff]; rintro ⟨-, -, a, -⟩; rw [hf] at a; cases a
  · rw [spell_iff]; exact ⟨h0, h1, hf, fun j _ hj => h2 j hj⟩
theorem great_none (l : List UInt8) (h : letters anyC l = false) : greatB l = false := by
  have hs : spell upC anyC l = false := by
    rw [Bool.eq_false_iff, ne_eq, spell_iff]
    rintro ⟨h0, h1, h2, h3⟩
    rw [Bool.eq_false_iff, ne_eq, letters_iff] at h
    refine h ⟨h0, h1, fun j hj => ?_⟩
    rcases j with _ | j
    · unfold anyC; rw [h2]; simp
    · exact h3 (j + 1) (by omega) hj
  unfold greatB
  rw [hs]; rfl

theorem key_low : ∀ l ∈ keys, 97 ≤ bt l 0 := by decide
theorem key_not_great {l : List UInt8} (h : keyB l = true) : greatB l = false := by
  have hm : l ∈ keys := by simpa [keyB] using h
  have h1 := key_low l hm
  have hs : spell upC anyC l = false := by
    rw [Bool.eq_false_iff, ne_eq, spell_iff]
    rintro ⟨-, -, a, -⟩
    unfold upC at a
    simp only [Bool.and_eq_true, decide_eq_true_eq] at a
    omega
  unfold greatB
  rw [hs]; rfl
theorem key_not_small {l : List UInt8} (h : keyB l = true) : smallB l = false := by
  unfold smallB; rw [h]; simp
theorem small_not_great {l : List UInt8} (h : smallB l = true) : greatB l = false := by
  unfold smallB at h
  simp only [Bool.and_eq_true, spell_iff] at h
  obtain ⟨⟨-, -, a, -⟩, -⟩ := h
  have hs : spell upC anyC l = false := by
    rw [Bool.eq_false_iff, ne_eq, spell_iff]
    rintro ⟨-, -, b, -⟩
    unfold upC at b
    unfold lowC at a
    simp only [Bool.and_eq_true, decide_eq_true_eq] at a b
    omega
  unfold greatB
  rw [hs]; rfl

theorem bt_snoc (l : List UInt8) (c : UInt8) (j : Nat) : bt (l ++ [c]) j = if j < l.length then bt l j else if j = l.length then (c.toNat : Int) else 0 := by
  unfold bt
  simp only [List.getD_eq_getElem?_getD]
  by_cases h : j < l.length
  · rw [if_pos h, List.getElem?_append_left h]
  · rw [if_neg h, List.getElem?_append_right (by omega)]
    by_cases e : j = l.length
    · subst e; simp
    · rw [if_neg e, List.getElem?_eq_none (by simp; omega)]; rfl
theorem spell_more (f g : Int → Bool) (l : List UInt8) (c : UInt8) (h : spell f g l = true) (hl : l.length < 20) (hg : g (c.toNat : Int) = true) : spell f g (l ++ [c]) = true := by
  rw [spell_iff] at *
  obtain ⟨h0, h1, h2, h3⟩ := h
  refine ⟨by simp, by simp; omega, by rw [bt_snoc, if_pos h0]; exact h2, fun j hj hlt => ?_⟩
  rw [bt_snoc]
  simp only [List.length_append, List.length_singleton] at hlt
  by_cases e : j < l.length
  · rw [if_pos e]; exact h3 j hj e
  · rw [if_neg e, if_pos (by omega)]; exact hg
theorem small_more (l : List UInt8) (c : UInt8) (h : smallB l = true) (hl : l.length < 20) (h1 : 97 ≤ (c.toNat : Int)) (h2 : (c.toNat : Int) ≤ 122) : smallB (l ++ [c]) = !keyB (l ++ [c]) := by
  unfold smallB at h ⊢
  simp only [Bool.and_eq_true] at h
  rw [spell_more _ _ l c h.1 hl (by simp [lowDigC, lowC, h1, h2]), Bool.true_and]
theorem great_more (l : List UInt8) (c : UInt8) (h : greatB l = true) (hl : l.length < 20) (h1 : 97 ≤ (c.toNat : Int)) (h2 : (c.toNat : Int) ≤ 122) : greatB (l ++ [c]) = !wordB (l ++ [c]) := by
  unfold greatB at h ⊢
  simp only [Bool.and_eq_true] at h
  rw [spell_more _ _ l c h.1 hl (by simp [anyC, lowC, h1, h2]), Bool.true_and]

end Go.Proofs.YtbknmokamcjgpaaGreatDoor.M

/- Types as trees, and what layer 4 asks of them: plain mathematics. Nothing of any program. -/
namespace Go.Proofs.YtbknmokamcjgpaaGreatDoor.M

inductive Ty where
  | mk (kind : Int) (pkg : ByteArray) (major : Int) (mod name : ByteArray) (names : List ByteArray) (subs : List Ty)

namespace Ty
def kind : Ty → Int | mk k _ _ _ _ _ _ => k
def pkg : Ty → ByteArray | mk _ p _ _ _ _ _ => p
def major : Ty → Int | mk _ _ m _ _ _ _ => m
def mod : Ty → ByteArray | mk _ _ _ m _ _ _ => m
def name : Ty → ByteArray | mk _ _ _ _ n _ _ => n
def names : Ty → List ByteArray | mk _ _ _ _ _ n _ => n
def subs : Ty → List Ty | mk _ _ _ _ _ _ s => s
end Ty

-- How many types it has, itself too; how deep it is; whether no Local is in it.
mutual
def many : Ty → Nat
  | .mk _ _ _ _ _ _ subs => 1 + manyL subs
def manyL : List Ty → Nat
  | [] => 0
  | t :: r => many t + manyL r
end
mutual
def deep : Ty → Nat
  | .mk _ _ _ _ _ _ subs => deepL subs + 1
def deepL : List Ty → Nat
  | [] => 0
  | t :: r => max (deep t) (deepL r)
end
mutual
def plainT : Ty → Bool
  | .mk k _ _ _ _ _ subs => !(k == 8) && plainL subs
def plainL : List Ty → Bool
  | [] => true
  | t :: r => plainT t && plainL r
end
-- How many more types there may be; below 0: there are more, or a list of names that is too long.
mutual
def fewT : Ty → Int → Int
  | .mk _ _ _ _ _ names subs, most => if most - 1 < 0 ∨ 200 < names.length then -1 else fewL subs (most - 1)
def fewL : List Ty → Int → Int
  | [], most => most
  | t :: r, most => if 0 ≤ most then fewL r (fewT t most) else most
end

theorem many_pos (t : Ty) : 1 ≤ many t := by cases t; simp [many]

mutual
theorem few_bd : ∀ (t : Ty) (most : Int), -1 ≤ most → -1 ≤ fewT t most ∧ fewT t most ≤ max most (-1)
  | .mk k p m d n names subs, most, h => by
    unfold fewT
    split
    · omega
    · rename_i hc
      have := fewL_bd subs (most - 1) (by omega)
      omega
theorem fewL_bd : ∀ (l : List Ty) (most : Int), -1 ≤ most → -1 ≤ fewL l most ∧ fewL l most ≤ most
  | [], most, h => by unfold fewL; omega
  | t :: r, most, h => by
    unfold fewL
    split
    · have a := few_bd t most h
      have b := fewL_bd r (fewT t most) a.1
      omega
    · omega
end
theorem fewL_neg (l : List Ty) (most : Int) (h : most < 0) : fewL l most = most := by
  cases l with
  | nil => rfl
  | cons t r => unfold fewL; rw [if_neg (by omega)]
-- What is few is counted.
mutual
theorem few_many : ∀ (t : Ty) (most : Int), 0 ≤ fewT t most → fewT t most = most - many t
  | .mk k p m d n names subs, most, h => by
    unfold fewT at h ⊢
    split at h
    · omega
    · rename_i hc
      rw [if_neg hc]
      have := fewL_many subs (most - 1) h
      rw [this]; unfold many; omega
theorem fewL_many : ∀ (l : List Ty) (most : Int), 0 ≤ fewL l most → fewL l most = most - manyL l
  | [], most, _ => by unfold fewL manyL; omega
  | t :: r, most, h => by
    unfold fewL at h ⊢
    split at h
    · rename_i hc
      rw [if_pos hc]
      have a : 0 ≤ fewT t most := by
        rcases Int.lt_or_le (fewT t most) 0 with b | b
        · rw [fewL_neg _ _ b] at h; omega
        · exact b
      have b := few_many t most a
      have c := fewL_many r (fewT t most) h
      rw [c, b, show manyL (t :: r) = many t + manyL r from rfl]; omega
    · omega
end
-- The names' lists of what is few are short, all in all.
mutual
def shortT : Ty → Prop
  | .mk _ _ _ _ _ names subs => names.length ≤ 200 ∧ shortL subs
def shortL : List Ty → Prop
  | [] => True
  | t :: r => shortT t ∧ shortL r
end
mutual
theorem few_short : ∀ (t : Ty) (most : Int), 0 ≤ fewT t most → shortT t
  | .mk k p m d n names subs, most, h => by
    unfold fewT at h
    split at h
    · omega
    · rename_i hc
      unfold shortT
      exact ⟨by omega, fewL_short subs (most - 1) h⟩
theorem fewL_short : ∀ (l : List Ty) (most : Int), 0 ≤ fewL l most → shortL l
  | [], _, _ => trivial
  | t :: r, most, h => by
    unfold fewL at h
    split at h
    · have a : 0 ≤ fewT t most := by
        rcases Int.lt_or_le (fewT t most) 0 with b | b
        · rw [fewL_neg _ _ b] at h; omega
        · exact b
      exact ⟨few_short t most a, fewL_short r (fewT t most) h⟩
    · omega
end

theorem manyL_mem : ∀ (l : List Ty) (t : Ty), t ∈ l → many t ≤ manyL l
  | a :: r, t, h => by
    unfold manyL
    rcases List.mem_cons.1 h with rfl | h
    · omega
    · have := manyL_mem r t h; omega
theorem manyL_len : ∀ l : List Ty, l.length ≤ manyL l
  | [] => by simp
  | t :: r => by
    have := many_pos t
    have := manyL_len r
    unfold manyL; simp only [List.length_cons]; omega
theorem manyL_append : ∀ (a b : List Ty), manyL (a ++ b) = manyL a + manyL b
  | [], b => by simp [manyL]
  | t :: r, b => by
    have := manyL_append r b
    simp only [List.cons_append, manyL, this]; omega
theorem manyL_take (l : List Ty) (k : Nat) (t : Ty) (h : l[k]? = some t) : manyL (l.take (k + 1)) = manyL (l.take k) + many t := by
  rw [List.take_add_one, h, manyL_append]
  simp [manyL]
theorem manyL_take_le (l : List Ty) (k : Nat) : manyL (l.take k) ≤ manyL l := by
  conv => rhs; rw [← List.take_append_drop k l, manyL_append]
  omega

end Go.Proofs.YtbknmokamcjgpaaGreatDoor.M

/- Plain mathematics for layer 4: which types may be. -/
namespace Go.Proofs.YtbknmokamcjgpaaGreatDoor.M
open Go

/-- One text stands ahead of another, or is it. -/
def leS (a b : ByteArray) : Bool := Op.bytesLess a.toList b.toList || a.toList == b.toList
def nameAt (l : List ByteArray) (i : Nat) : ByteArray := l.getD i ⟨#[]⟩
/-- Is the name at that place at fault? -/
def badName (kind : Int) (names : List ByteArray) (i : Nat) : Bool :=
  (kind == 5 && !smallB (nameAt names i).data.toList) || (kind == 6 && !greatB (nameAt names i).data.toList) || (decide (0 < i) && leS (nameAt names i) (nameAt names (i - 1)))
def namesOk (kind : Int) (names : List ByteArray) : Bool := (List.range names.length).all fun i => !badName kind names i
def emptyB (s : ByteArray) : Bool := decide (s.size = 0)
def noMore (t : Ty) : Bool := emptyB t.pkg && (t.major == 0) && emptyB t.mod && emptyB t.name
/-- Is a type's shape that of its kind? -/
def shapeOk (t : Ty) : Bool :=
  if t.kind = 1 ∨ t.kind = 2 ∨ t.kind = 3 then noMore t && decide (t.subs.length = 0) && decide (t.names.length = 0)
  else if t.kind = 4 then noMore t && decide (t.subs.length = 1) && decide (t.names.length = 0)
  else if t.kind = 5 then noMore t && decide (t.subs.length = t.names.length)
  else if t.kind = 6 then noMore t && decide (t.subs.length = t.names.length) && decide (0 < t.subs.length)
  else if t.kind = 7 then noMore t && decide (0 < t.subs.length) && decide (t.names.length = 0)
  else if t.kind = 8 then decide (t.subs.length = 0) && decide (t.names.length = 0) && emptyB t.pkg && (t.major == 0) && greatB t.name.data.toList && (smallB t.mod.data.toList || emptyB t.mod)
  else if t.kind = 9 then decide (t.subs.length = 0) && decide (t.names.length = 0) && smallB t.pkg.data.toList && smallB t.mod.data.toList && greatB t.name.data.toList && decide (1 ≤ t.major) && decide (t.major ≤ 999999999)
  else false
def ownOk (t : Ty) : Bool := decide (t.subs.length ≤ 20) && namesOk t.kind t.names && shapeOk t

-- .. and all in it
mutual
def allOk : Ty → Bool
  | .mk k p m d n names subs => ownOk (.mk k p m d n names subs) && allOkL subs
def allOkL : List Ty → Bool
  | [] => true
  | t :: r => allOk t && allOkL r
end
def mayT (t : Ty) : Bool := allOk t && decide (many t ≤ 500) && decide (deep t ≤ 32)

theorem allOk_eq (t : Ty) : allOk t = (ownOk t && allOkL t.subs) := by cases t; rfl
theorem allOkL_mem : ∀ (l : List Ty), allOkL l = true ↔ ∀ t ∈ l, allOk t = true
  | [] => by simp [allOkL]
  | t :: r => by simp [allOkL, allOkL_mem r]
theorem namesOk_iff (kind : Int) (names : List ByteArray) : namesOk kind names = true ↔ ∀ i, i < names.length → badName kind names i = false := by
  unfold namesOk
  simp [List.all_eq_true]
theorem own_long {t : Ty} (h : 20 < t.subs.length) : ownOk t = false := by
  unfold ownOk
  rw [show decide (t.subs.length ≤ 20) = false by simp; omega]; rfl
theorem own_bad {t : Ty} {i : Nat} (hi : i < t.names.length) (h : badName t.kind t.names i = true) : ownOk t = false := by
  have : namesOk t.kind t.names = false := by
    rw [Bool.eq_false_iff, ne_eq, namesOk_iff]
    intro a
    have := a i hi
    rw [h] at this; cases this
  unfold ownOk
  rw [this]; simp
theorem own_good {t : Ty} (h : t.subs.length ≤ 20) (hn : ∀ i, i < t.names.length → badName t.kind t.names i = false) : ownOk t = shapeOk t := by
  unfold ownOk
  rw [(namesOk_iff _ _).2 hn, show decide (t.subs.length ≤ 20) = true by simpa using h]; simp

end Go.Proofs.YtbknmokamcjgpaaGreatDoor.M

/- Plain mathematics for layer 5: the type that begins at a token, or what is amiss first, and where. -/
namespace Go.Proofs.YtbknmokamcjgpaaGreatDoor.M
open Go

/-- Tokens: how many, their kinds, their texts. -/
structure Toks where
  n : Nat
  K : Nat → Int
  T : Nat → ByteArray

/-- What reading comes to: something, the next token, how many types there have been; or an error's number, and its token. -/
inductive Res (α : Type) where
  | ok (x : α) (i c : Nat)
  | err (b i : Nat)

namespace Toks
variable (S : Toks)
def small (i : Nat) : Bool := decide (i < S.n) && (S.K i == 1) && smallB (S.T i).data.toList
def great (i : Nat) : Bool := decide (i < S.n) && (S.K i == 2) && greatB (S.T i).data.toList
def sign (i : Nat) (l : List UInt8) : Bool := decide (i < S.n) && (S.K i == 4) && ((S.T i).data.toList == l)
end Toks

/-- Is it a name of a record's (5), of a variant's? -/
def Toks.nameOk (S : Toks) (k : Int) (i : Nat) : Bool := if k = 5 then S.small i else S.great i
/-- The kind of a type that is one word. -/
def baseT (l : List UInt8) : Int := if l = [73, 110, 116] then 1 else if l = [84, 101, 120, 116] then 2 else if l = [66, 111, 111, 108] then 3 else if l = [76, 105, 115, 116] then 4 else 0
def Toks.begins (S : Toks) (i : Nat) : Bool :=
  decide (i < S.n) && (S.small i || S.great i || ((S.K i == 4) && ((S.T i).data.toList == [123] || (S.T i).data.toList == [91] || (S.T i).data.toList == [40] || (S.T i).data.toList == [60])) || ((S.K i == 2) && decide (0 < baseT (S.T i).data.toList)))

/-- An Open's number. -/
def digs : List UInt8 → Int → Int
  | [], a => a
  | c :: r, a => digs r (10 * a + ((c.toNat : Int) - 48))
def majorOk (l : List UInt8) : Bool := decide (1 ≤ l.length) && decide (l.length ≤ 9) && l.all (fun c => digC (c.toNat : Int)) && decide (48 < bt l 0)
def Toks.major (S : Toks) (i : Nat) : Bool := decide (i < S.n) && (S.K i == 3) && majorOk (S.T i).data.toList

/-- Where a name is put among names: behind the last one that isn't greater. -/
def posOf (s : ByteArray) (ns : List ByteArray) : Nat → Nat
  | 0 => 0
  | k + 1 => if Op.bytesLess s.toList (nameAt ns k).toList = true then posOf s ns k else k + 1
def putAt {α : Type} (p : Nat) (x : α) (l : List α) : List α := l.take p ++ x :: l.drop p

/-- Is a name there already? -/
def twice (s : ByteArray) (ns : List ByteArray) : Bool := ns.any fun x => x.data.toList == s.data.toList
/-- A type of nothing. -/
def noT : Ty := .mk 0 ⟨#[]⟩ 0 ⟨#[]⟩ ⟨#[]⟩ [] []
def leafK (k : Int) : Ty := .mk k ⟨#[]⟩ 0 ⟨#[]⟩ ⟨#[]⟩ [] []
def localT (d n : ByteArray) : Ty := .mk 8 ⟨#[]⟩ 0 d n [] []

/-- An Open, behind its bracket. -/
def pOpen (S : Toks) (i c : Nat) : Res Ty :=
  if S.small i = false then .err 2 i
  else if S.major (i + 1) = false then .err 2 (i + 1)
  else if S.small (i + 2) = false then .err 2 (i + 2)
  else if S.great (i + 3) = false then .err 2 (i + 3)
  else if S.sign (i + 4) [62] = false then .err 2 (i + 4)
  else .ok (.mk 9 (S.T i) (digs (S.T (i + 1)).data.toList 0) (S.T (i + 2)) (S.T (i + 3)) [] []) (i + 5) c
/-- A Local of another module, behind its module's name. -/
def pLocal (S : Toks) (d : ByteArray) (i c : Nat) : Res Ty :=
  if S.sign i [46] = false then .err 2 i
  else if S.great (i + 1) = false then .err 2 (i + 1)
  else .ok (localT d (S.T (i + 1))) (i + 2) c

mutual
/-- The type, so deep, that begins at a token; c types have been ahead. (The first argument bounds the steps.) -/
def pT (S : Toks) : Nat → Nat → Nat → Nat → Res Ty
  | 0, _, _, _ => .err 99 0
  | f + 1, d, i, c =>
    if S.begins i = false then .err 2 i
    else if 32 < d ∨ 500 ≤ c then .err 3 i
    else if S.K i = 1 then pLocal S (S.T i) (i + 1) (c + 1)
    else if S.K i = 2 then
      (if baseT (S.T i).data.toList = 4 then
        (if S.sign (i + 1) [40] = false then .err 2 (i + 1)
         else match pT S f (d + 1) (i + 2) (c + 1) with
          | .err b j => .err b j
          | .ok s j c' => if S.sign j [41] = false then .err 2 j else .ok (.mk 4 ⟨#[]⟩ 0 ⟨#[]⟩ ⟨#[]⟩ [] [s]) (j + 1) c')
       else if 0 < baseT (S.T i).data.toList then .ok (leafK (baseT (S.T i).data.toList)) (i + 1) (c + 1)
       else .ok (localT ⟨#[]⟩ (S.T i)) (i + 1) (c + 1))
    else if (S.T i).data.toList = [123] then (if S.sign (i + 1) [125] = true then .ok (leafK 5) (i + 2) (c + 1) else pParts S 5 [125] f d (i + 1) (c + 1) [] [])
    else if (S.T i).data.toList = [91] then pParts S 6 [93] f d (i + 1) (c + 1) [] []
    else if (S.T i).data.toList = [60] then pOpen S (i + 1) (c + 1)
    else if S.sign (i + 1) [41] = true then pEnd S f d (i + 2) (c + 1) []
    else pSubs S f d (i + 1) (c + 1) []
/-- What stands in a record, or a variant, from a name on. -/
def pParts (S : Toks) (k : Int) (z : List UInt8) : Nat → Nat → Nat → Nat → List ByteArray → List Ty → Res Ty
  | 0, _, _, _, _, _ => .err 99 0
  | f + 1, d, i, c, ns, ss =>
    if S.nameOk k i = false then .err 2 i
    else if 20 ≤ ns.length then .err 3 i
    else if twice (S.T i) ns = true then .err 5 i
    else if S.sign (i + 1) [58] = false then .err 2 (i + 1)
    else match pT S f (d + 1) (i + 2) c with
      | .err b j => .err b j
      | .ok s j c' =>
        if S.sign j z = true then .ok (.mk k ⟨#[]⟩ 0 ⟨#[]⟩ ⟨#[]⟩ (putAt (posOf (S.T i) ns ns.length) (S.T i) ns) (putAt (posOf (S.T i) ns ns.length) s ss)) (j + 1) c'
        else if S.sign j [44] = false then .err 2 j
        else pParts S k z f d (j + 1) c' (putAt (posOf (S.T i) ns ns.length) (S.T i) ns) (putAt (posOf (S.T i) ns ns.length) s ss)
/-- A function's parameters, from one on. -/
def pSubs (S : Toks) : Nat → Nat → Nat → Nat → List Ty → Res Ty
  | 0, _, _, _, _ => .err 99 0
  | f + 1, d, i, c, ss =>
    if S.begins i = true ∧ 20 ≤ ss.length then .err 3 i
    else match pT S f (d + 1) i c with
      | .err b j => .err b j
      | .ok s j c' =>
        if S.sign j [41] = true then pEnd S f d (j + 1) c' (ss ++ [s])
        else if S.sign j [44] = false then .err 2 j
        else pSubs S f d (j + 1) c' (ss ++ [s])
/-- A function's arrow, and its result. -/
def pEnd (S : Toks) : Nat → Nat → Nat → Nat → List Ty → Res Ty
  | 0, _, _, _, _ => .err 99 0
  | f + 1, d, i, c, ss =>
    if S.sign i [45, 62] = false then .err 2 i
    else if S.begins (i + 1) = true ∧ 20 ≤ ss.length then .err 3 (i + 1)
    else match pT S f (d + 1) (i + 1) c with
      | .err b j => .err b j
      | .ok s j c' => .ok (.mk 7 ⟨#[]⟩ 0 ⟨#[]⟩ ⟨#[]⟩ [] (ss ++ [s])) j c'
end

/-- It isn't the steps that end. -/
def Res.far {α : Type} : Res α → Nat → Prop
  | .ok _ j _, i => i < j
  | .err b _, _ => b ≠ 99
theorem sign_lt {S : Toks} {i : Nat} {l : List UInt8} (h : S.sign i l = true) : i < S.n := by
  unfold Toks.sign at h; simp only [Bool.and_eq_true, decide_eq_true_eq] at h; exact h.1.1
theorem small_lt {S : Toks} {i : Nat} (h : S.small i = true) : i < S.n := by
  unfold Toks.small at h; simp only [Bool.and_eq_true, decide_eq_true_eq] at h; exact h.1.1
theorem great_lt {S : Toks} {i : Nat} (h : S.great i = true) : i < S.n := by
  unfold Toks.great at h; simp only [Bool.and_eq_true, decide_eq_true_eq] at h; exact h.1.1
theorem begins_lt {S : Toks} {i : Nat} (h : S.begins i = true) : i < S.n := by
  unfold Toks.begins at h; simp only [Bool.and_eq_true, decide_eq_true_eq] at h; exact h.1

theorem pOpen_far (S : Toks) (i c k : Nat) (h : k ≤ i) : (pOpen S i c).far k := by
  unfold pOpen
  split
  · exact (by decide : (2 : Nat) ≠ 99)
  split
  · exact (by decide : (2 : Nat) ≠ 99)
  split
  · exact (by decide : (2 : Nat) ≠ 99)
  split
  · exact (by decide : (2 : Nat) ≠ 99)
  split
  · exact (by decide : (2 : Nat) ≠ 99)
  · show k < i + 5; omega
theorem pLocal_far (S : Toks) (d : ByteArray) (i c k : Nat) (h : k ≤ i) : (pLocal S d i c).far k := by
  unfold pLocal
  split
  · exact (by decide : (2 : Nat) ≠ 99)
  split
  · exact (by decide : (2 : Nat) ≠ 99)
  · show k < i + 2; omega
theorem two : (2 : Nat) ≠ 99 := by decide
theorem three : (3 : Nat) ≠ 99 := by decide
theorem five : (5 : Nat) ≠ 99 := by decide
/-- The steps are enough. -/
theorem steps (S : Toks) : ∀ f, (∀ d i c, 2 * (S.n - i) + 1 ≤ f → (pT S f d i c).far i) ∧ (∀ k z d i c ns ss, 2 * (S.n - i) + 2 ≤ f → (pParts S k z f d i c ns ss).far i) ∧
    (∀ d i c ss, 2 * (S.n - i) + 2 ≤ f → (pSubs S f d i c ss).far i) ∧ (∀ d i c ss, 2 * (S.n - i) + 2 ≤ f → (pEnd S f d i c ss).far i) := by
  intro f
  induction f with
  | zero => exact ⟨fun d i c h => by omega, fun k z d i c ns ss h => by omega, fun d i c ss h => by omega, fun d i c ss h => by omega⟩
  | succ f ih =>
    obtain ⟨iT, iP, iS, iE⟩ := ih
    have far_mono : ∀ {r : Res Ty} {i j : Nat}, i ≤ j → r.far j → r.far i := fun {r i j} hij h => by
      cases r with
      | ok x a b => exact Nat.lt_of_le_of_lt hij h
      | err a b => exact h
    refine ⟨fun d i c h => ?_, fun k z d i c ns ss h => ?_, fun d i c ss h => ?_, fun d i c ss h => ?_⟩
    · unfold pT
      split
      · exact two
      rename_i hb
      have hlt := begins_lt (by simpa using hb)
      split
      · exact three
      split
      · exact pLocal_far _ _ _ _ _ (by omega)
      split
      · split
        · split
          · exact two
          · have h1 := iT (d + 1) (i + 2) (c + 1) (by omega)
            cases e : pT S f (d + 1) (i + 2) (c + 1) with
            | err b j => rw [e] at h1; exact h1
            | ok s j c' =>
              rw [e] at h1
              have h1' : i + 2 < j := h1
              show Res.far (if _ then _ else _) i
              split
              · exact two
              · show i < j + 1; omega
        split
        · show i < i + 1; omega
        · show i < i + 1; omega
      split
      · split
        · show i < i + 2; omega
        · exact far_mono (by omega) (iP _ _ _ (i + 1) _ _ _ (by omega))
      split
      · exact far_mono (by omega) (iP _ _ _ (i + 1) _ _ _ (by omega))
      split
      · exact pOpen_far _ _ _ _ (by omega)
      split
      · rename_i hs
        have := sign_lt hs
        exact far_mono (by omega) (iE _ (i + 2) _ _ (by omega))
      · exact far_mono (by omega) (iS _ (i + 1) _ _ (by omega))
    · unfold pParts
      split
      · exact two
      rename_i hb
      have hlt : i < S.n := by
        unfold Toks.nameOk at hb
        by_cases hk : k = 5
        · rw [if_pos hk] at hb; exact small_lt (by simpa using hb)
        · rw [if_neg hk] at hb; exact great_lt (by simpa using hb)
      split
      · exact three
      split
      · exact five
      split
      · exact two
      · have h1 := iT (d + 1) (i + 2) c (by omega)
        cases e : pT S f (d + 1) (i + 2) c with
        | err b j => rw [e] at h1; exact h1
        | ok s j c' =>
          rw [e] at h1
          have h1' : i + 2 < j := h1
          show Res.far (if _ then _ else _) i
          split
          · show i < j + 1; omega
          split
          · exact two
          · rename_i hs
            have := sign_lt (by simpa using hs)
            exact far_mono (by omega) (iP _ _ _ (j + 1) _ _ _ (by omega))
    · unfold pSubs
      split
      · exact three
      · have h1 := iT (d + 1) i c (by omega)
        cases e : pT S f (d + 1) i c with
        | err b j => rw [e] at h1; exact h1
        | ok s j c' =>
          rw [e] at h1
          have h1' : i < j := h1
          show Res.far (if _ then _ else _) i
          split
          · rename_i hs
            have := sign_lt hs
            exact far_mono (by omega) (iE _ (j + 1) _ _ (by omega))
          split
          · exact two
          · rename_i hs
            have := sign_lt (by simpa using hs)
            exact far_mono (by omega) (iS _ (j + 1) _ _ (by omega))
    · unfold pEnd
      split
      · exact two
      rename_i hs
      have hlt := sign_lt (by simpa using hs)
      split
      · exact three
      · have h1 := iT (d + 1) (i + 1) c (by omega)
        cases e : pT S f (d + 1) (i + 1) c with
        | err b j => rw [e] at h1; exact h1
        | ok s j c' =>
          rw [e] at h1
          have h1' : i + 1 < j := h1
          show i < j; omega

end Go.Proofs.YtbknmokamcjgpaaGreatDoor.M

/- Small laws for every walk: what stands below, one way of two, a result that is a bool. Nothing of any program. -/
namespace Go.Proofs.YtbknmokamcjgpaaGreatDoor
open Go.RowKit

theorem bcell {W w1 : World} (hb : Below W.heap.size W w1) : (∀ b o, b < W.heap.size → w1.cell? ⟨b, o, none⟩ = W.cell? ⟨b, o, none⟩) ∧ (∀ b o, b < W.heap.size → w1.frozen? ⟨b, o, none⟩ = W.frozen? ⟨b, o, none⟩) :=
  ⟨fun b o h => hb.cell (p := ⟨b, o, none⟩) h, fun b o h => hb.frozen (p := ⟨b, o, none⟩) h⟩
theorem hid_or (b : Bool) : Hid (b = false) ∨ Hid (b = true) := by cases b; exact .inl rfl; exact .inr rfl
theorem ret_bool {a b : Bool} (h : b = a) : Ending.returned (.bool a) = .returned (.bool b) := by rw [h]

theorem below_over {w W w1 : World} (h : Below w.heap.size w W) (hb : Below W.heap.size W w1) : Below w.heap.size w w1 := h.trans (hb.mono h.size)
theorem below_new {w W : World} (h : Below w.heap.size w W) (o : Obj) : Below w.heap.size w (W.alloc o) := h.alloc h.size o
theorem below_put {w W : World} (h : Below w.heap.size w W) {a : Addr} (ha : w.heap.size ≤ a.block) (v : Value) : Below w.heap.size w (W.setCell a v) := h.setCell ha v
theorem below_drewN {B : Nat} {a w : World} (h : Below B a w) (n : Nat) : Below B a (w.drewN n) := h.trans ⟨rfl, rfl, rfl, Nat.le_refl _, fun _ _ => rfl⟩
theorem upto_step {P : Nat → Bool} {b k : Nat} (h : ∀ j, b ≤ j → j < k → P j = true) (hk : P k = true) : ∀ j, b ≤ j → j < k + 1 → P j = true := fun j a c => by
  rcases Nat.lt_or_ge j k with d | d
  · exact h j a d
  · rw [show j = k by omega]; exact hk

end Go.Proofs.YtbknmokamcjgpaaGreatDoor
