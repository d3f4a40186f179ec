/-
  Plain mathematics for layer 1: a part of a version's text, a version's text, as functions on lists of bytes. Nothing of any program.
-/
import Derived.Lib.IndexBytes
import Derived.Lib.ItoaNum
import Derived.Lib.CutLaws
namespace Go.Proofs.YtihaggghmanamaaDoor.M

/-- The digits of a part, from what was read so far on. -/
def partGo : Int → List UInt8 → Option Int
  | n, [] => some n
  | n, c :: l => if 48 ≤ (c.toNat : Int) ∧ (c.toNat : Int) ≤ 57 then (if n ≤ (999999999 - ((c.toNat : Int) - 48)) / 10 then partGo (n * 10 + ((c.toNat : Int) - 48)) l else none) else none
/-- Digits, none of them a nought ahead of others. -/
def partOf (l : List UInt8) : Option Int := if l = [] then none else if l.head? = some 48 ∧ l ≠ [48] then none else partGo 0 l

theorem partGo_append : ∀ (a b : List UInt8) (n : Int), partGo n (a ++ b) = (partGo n a).bind fun m => partGo m b
  | [], b, n => rfl
  | c :: a, b, n => by
    simp only [List.cons_append, partGo]
    split
    · split
      · exact partGo_append a b _
      · rfl
    · rfl

theorem partGo_bd : ∀ (l : List UInt8) (n m : Int), 0 ≤ n → n ≤ 999999999 → partGo n l = some m → 0 ≤ m ∧ m ≤ 999999999
  | [], n, m, h0, h1, h => by simp [partGo] at h; omega
  | c :: l, n, m, h0, h1, h => by
    simp only [partGo] at h
    split at h
    · split at h
      · exact partGo_bd l _ m (by omega) (by omega) h
      · cases h
    · cases h

/-- One byte further. -/
theorem partGo_snoc (l : List UInt8) (c : UInt8) (n m : Int) (h : partGo n l = some m) :
    partGo n (l ++ [c]) = if 48 ≤ (c.toNat : Int) ∧ (c.toNat : Int) ≤ 57 then (if m ≤ (999999999 - ((c.toNat : Int) - 48)) / 10 then some (m * 10 + ((c.toNat : Int) - 48)) else none) else none := by
  rw [partGo_append, h]; simp [partGo]

theorem take_snoc (l : List UInt8) (k : Nat) (h : k < l.length) : l.take (k + 1) = l.take k ++ [l[k]] := by
  rw [List.take_succ_eq_append_getElem h]

/-- What falls early falls. -/
theorem partGo_none (l : List UInt8) (k : Nat) (n : Int) (h : partGo n (l.take k) = none) : partGo n l = none := by
  rw [← List.take_append_drop k l, partGo_append, h]; rfl

theorem take_snocB (s : ByteArray) (k : Nat) (h : k < s.size) : s.data.toList.take (k + 1) = s.data.toList.take k ++ [s[k]] := by
  rw [List.take_succ_eq_append_getElem (by simpa using h)]; rfl
theorem go_bad (s : ByteArray) (k : Nat) (h : k < s.size) (m : Int) (hm : partGo 0 (s.data.toList.take k) = some m) (hb : (s[k].toNat : Int) < 48 ∨ 57 < (s[k].toNat : Int)) : partGo 0 s.data.toList = none := by
  refine partGo_none _ (k + 1) _ ?_
  rw [take_snocB s k h, partGo_snoc _ _ _ _ hm, if_neg (by omega)]
theorem go_big (s : ByteArray) (k : Nat) (h : k < s.size) (m : Int) (hm : partGo 0 (s.data.toList.take k) = some m) (hb : (999999999 - ((s[k].toNat : Int) - 48)) / 10 < m) : partGo 0 s.data.toList = none := by
  refine partGo_none _ (k + 1) _ ?_
  rw [take_snocB s k h, partGo_snoc _ _ _ _ hm]
  split
  · rw [if_neg (by omega)]
  · rfl
theorem go_good (s : ByteArray) (k : Nat) (h : k < s.size) (m : Int) (hm : partGo 0 (s.data.toList.take k) = some m) (h1 : 48 ≤ (s[k].toNat : Int)) (h2 : (s[k].toNat : Int) ≤ 57) (hb : m ≤ (999999999 - ((s[k].toNat : Int) - 48)) / 10) :
    partGo 0 (s.data.toList.take (k + 1)) = some (m * 10 + ((s[k].toNat : Int) - 48)) := by
  rw [take_snocB s k h, partGo_snoc _ _ _ _ hm, if_pos ⟨h1, h2⟩, if_pos hb]

/-- What the program's call answers: the number, nought where there is none; whether there is one. -/
def pV (l : List UInt8) : Int := (partOf l).getD 0
def pB (l : List UInt8) : Bool := (partOf l).isSome

theorem pV_bd (l : List UInt8) : 0 ≤ pV l ∧ pV l ≤ 999999999 := by
  unfold pV
  cases h : partOf l with
  | none => simp
  | some m =>
    unfold partOf at h
    split at h
    · cases h
    · split at h
      · cases h
      · exact partGo_bd l 0 m (by omega) (by omega) h

theorem p_of_none {l : List UInt8} (h : partOf l = none) : pV l = 0 ∧ pB l = false := by simp [pV, pB, h]
theorem p_of_some {l : List UInt8} {m : Int} (h : partOf l = some m) : pV l = m ∧ pB l = true := by simp [pV, pB, h]
theorem p_empty : pV [] = 0 ∧ pB [] = false := p_of_none (by simp [partOf])
theorem p_nought {l : List UInt8} (h : l.head? = some 48) (h2 : l ≠ [48]) : pV l = 0 ∧ pB l = false := by
  refine p_of_none ?_
  unfold partOf
  split
  · rfl
  · rw [if_pos ⟨h, h2⟩]
theorem p_go {l : List UInt8} (h0 : l ≠ []) (h : ¬ (l.head? = some 48 ∧ l ≠ [48])) : partOf l = partGo 0 l := by simp only [partOf, if_neg h0, if_neg h]

/-- A text's three parts, cut at its first point and at the next. -/
def t1 (l : List UInt8) : List UInt8 := (Lib.cut l [46]).1
def t2 (l : List UInt8) : List UInt8 := (Lib.cut (Lib.cut l [46]).2.1 [46]).1
def t3 (l : List UInt8) : List UInt8 := (Lib.cut (Lib.cut l [46]).2.1 [46]).2.1

theorem cut_le (l p : List UInt8) : (Lib.cut l p).1.length ≤ l.length ∧ (Lib.cut l p).2.1.length ≤ l.length := by
  unfold Lib.cut
  split
  · simp only [List.length_take, List.length_drop]; omega
  · simp

end Go.Proofs.YtihaggghmanamaaDoor.M
