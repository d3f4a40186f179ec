/-
  Types as trees, and what layer 4 asks of them: plain mathematics. Nothing of any program.
-/
import Derived.Test.YtnnppdlhmcobcaaDoorIdM
namespace Go.Proofs.YtnnppdlhmcobcaaDoor.M

inductive Ty where
  | mk (kind : Int) (pkg : ByteArray) (major : Int) (mod name : ByteArray) (names : List ByteArray) (subs : List Ty)

namespace Ty
def kind : Ty → Int | mk k _ _ _ _ _ _ => k
def pkg : Ty → ByteArray | mk _ p _ _ _ _ _ => p
def major : Ty → Int | mk _ _ m _ _ _ _ => m
def mod : Ty → ByteArray | mk _ _ _ m _ _ _ => m
def name : Ty → ByteArray | mk _ _ _ _ n _ _ => n
def names : Ty → List ByteArray | mk _ _ _ _ _ n _ => n
def subs : Ty → List Ty | mk _ _ _ _ _ _ s => s
end Ty

-- How many types it has, itself too; how deep it is; whether no Local is in it.
mutual
def many : Ty → Nat
  | .mk _ _ _ _ _ _ subs => 1 + manyL subs
def manyL : List Ty → Nat
  | [] => 0
  | t :: r => many t + manyL r
end
mutual
def deep : Ty → Nat
  | .mk _ _ _ _ _ _ subs => deepL subs + 1
def deepL : List Ty → Nat
  | [] => 0
  | t :: r => max (deep t) (deepL r)
end
mutual
def plainT : Ty → Bool
  | .mk k _ _ _ _ _ subs => !(k == 8) && plainL subs
def plainL : List Ty → Bool
  | [] => true
  | t :: r => plainT t && plainL r
end
-- How many more types there may be; below 0: there are more, or a list of names that is too long.
mutual
def fewT : Ty → Int → Int
  | .mk _ _ _ _ _ names subs, most => if most - 1 < 0 ∨ 200 < names.length then -1 else fewL subs (most - 1)
def fewL : List Ty → Int → Int
  | [], most => most
  | t :: r, most => if 0 ≤ most then fewL r (fewT t most) else most
end

theorem many_pos (t : Ty) : 1 ≤ many t := by cases t; simp [many]

mutual
theorem few_bd : ∀ (t : Ty) (most : Int), -1 ≤ most → -1 ≤ fewT t most ∧ fewT t most ≤ max most (-1)
  | .mk k p m d n names subs, most, h => by
    unfold fewT
    split
    · omega
    · rename_i hc
      have := fewL_bd subs (most - 1) (by omega)
      omega
theorem fewL_bd : ∀ (l : List Ty) (most : Int), -1 ≤ most → -1 ≤ fewL l most ∧ fewL l most ≤ most
  | [], most, h => by unfold fewL; omega
  | t :: r, most, h => by
    unfold fewL
    split
    · have a := few_bd t most h
      have b := fewL_bd r (fewT t most) a.1
      omega
    · omega
end
theorem fewL_neg (l : List Ty) (most : Int) (h : most < 0) : fewL l most = most := by
  cases l with
  | nil => rfl
  | cons t r => unfold fewL; rw [if_neg (by omega)]
-- What is few is counted.
mutual
theorem few_many : ∀ (t : Ty) (most : Int), 0 ≤ fewT t most → fewT t most = most - many t
  | .mk k p m d n names subs, most, h => by
    unfold fewT at h ⊢
    split at h
    · omega
    · rename_i hc
      rw [if_neg hc]
      have := fewL_many subs (most - 1) h
      rw [this]; unfold many; omega
theorem fewL_many : ∀ (l : List Ty) (most : Int), 0 ≤ fewL l most → fewL l most = most - manyL l
  | [], most, _ => by unfold fewL manyL; omega
  | t :: r, most, h => by
    unfold fewL at h ⊢
    split at h
    · rename_i hc
      rw [if_pos hc]
      have a : 0 ≤ fewT t most := by
        rcases Int.lt_or_le (fewT t most) 0 with b | b
        · rw [fewL_neg _ _ b] at h; omega
        · exact b
      have b := few_many t most a
      have c := fewL_many r (fewT t most) h
      rw [c, b, show manyL (t :: r) = many t + manyL r from rfl]; omega
    · omega
end
-- The names' lists of what is few are short, all in all.
mutual
def shortT : Ty → Prop
  | .mk _ _ _ _ _ names subs => names.length ≤ 200 ∧ shortL subs
def shortL : List Ty → Prop
  | [] => True
  | t :: r => shortT t ∧ shortL r
end
mutual
theorem few_short : ∀ (t : Ty) (most : Int), 0 ≤ fewT t most → shortT t
  | .mk k p m d n names subs, most, h => by
    unfold fewT at h
    split at h
    · omega
    · rename_i hc
      unfold shortT
      exact ⟨by omega, fewL_short subs (most - 1) h⟩
theorem fewL_short : ∀ (l : List Ty) (most : Int), 0 ≤ fewL l most → shortL l
  | [], _, _ => trivial
  | t :: r, most, h => by
    unfold fewL at h
    split at h
    · have a : 0 ≤ fewT t most := by
        rcases Int.lt_or_le (fewT t most) 0 with b | b
        · rw [fewL_neg _ _ b] at h; omega
        · exact b
      exact ⟨few_short t most a, fewL_short r (fewT t most) h⟩
    · omega
end

theorem manyL_mem : ∀ (l : List Ty) (t : Ty), t ∈ l → many t ≤ manyL l
  | a :: r, t, h => by
    unfold manyL
    rcases List.mem_cons.1 h with rfl | h
    · omega
    · have := manyL_mem r t h; omega
theorem manyL_len : ∀ l : List Ty, l.length ≤ manyL l
  | [] => by simp
  | t :: r => by
    have := many_pos t
    have := manyL_len r
    unfold manyL; simp only [List.length_cons]; omega
theorem manyL_append : ∀ (a b : List Ty), manyL (a ++ b) = manyL a + manyL b
  | [], b => by simp [manyL]
  | t :: r, b => by
    have := manyL_append r b
    simp only [List.cons_append, manyL, this]; omega
theorem manyL_take (l : List Ty) (k : Nat) (t : Ty) (h : l[k]? = some t) : manyL (l.take (k + 1)) = manyL (l.take k) + many t := by
  rw [List.take_add_one, h, manyL_append]
  simp [manyL]
theorem manyL_take_le (l : List Ty) (k : Nat) : manyL (l.take k) ≤ manyL l := by
  conv => rhs; rw [← List.take_append_drop k l, manyL_append]
  omega

end Go.Proofs.YtnnppdlhmcobcaaDoor.M
