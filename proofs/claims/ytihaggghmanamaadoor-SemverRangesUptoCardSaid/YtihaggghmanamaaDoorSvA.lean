/-
  Walks of the small calls of package semver and of its reference: whether a part, a version may be; two versions compared. No condition but that what comes in are ints.
-/
import Derived.Test.YtihaggghmanamaaDoorChecked
import Derived.WalkKit
import Derived.Lib.Hide
import Derived.Test.YtihaggghmanamaaDoorShelf
import Derived.WalkSpells
import Derived.WalkLawsBesides
import Derived.RegionTactic
import Derived.IntWalk
import Derived.LoopTactic
namespace Go.Proofs.YtihaggghmanamaaDoor
open Go.RowKit

/-- May a part be? -/
def okPart (n : Int) : Bool := decide (0 ≤ n) && decide (n ≤ 999999999)
/-- May a version be? -/
def okVer (a b c : Int) : Bool := decide (1 ≤ a) && (okPart a && (okPart b && okPart c))

set_option maxHeartbeats 400000 in
theorem mayPart_any (n : Int) (w : World) :
    Calls Tryd.prog 22 #[.int .i64 n] w fun e w' => e = .returned (.bool (okPart n)) ∧ w = w' := by
  by_cases h : 0 ≤ n
  · have hd : decide (0 ≤ n) = true := by simpa using h
    have ho : okPart n = decide (n ≤ 999999999) := by simp [okPart, h]
    rw [ho]; clear ho
    go_enter Tryd.func22, Tryd.ntmps22
    go_wp2
    go_ret
    exact ⟨rfl, rfl⟩
  · have hd : decide (0 ≤ n) = false := by simpa using h
    have ho : okPart n = false := by simp [okPart, h]
    rw [ho]; clear ho
    go_enter Tryd.func22, Tryd.ntmps22
    go_wp2
    go_ret
    exact ⟨rfl, rfl⟩

set_option maxHeartbeats 400000 in
theorem may_any (a b c : Int) (w : World) :
    Calls Tryd.prog 9 #[.agg #[.int .i64 a, .int .i64 b, .int .i64 c]] w fun e w' => e = .returned (.bool (okVer a b c)) ∧ Below w.heap.size w w' := by
  go_enter Tryd.func9, Tryd.ntmps9
  go_wp2_with (go_at_call 22; refine (mayPart_any _ _).mono ?_; rintro e w' ⟨rfl, rfl⟩)
  all_goals go_ret
  all_goals (refine ⟨?_, (Below.refl _ _).alloc (Nat.le_refl _) _⟩)
  all_goals (congr 2; simp_all [okVer]; try omega)

/-- Is a version below another one? -/
def lowVer (a b c x y z : Int) : Bool := if a = x then (if b = y then decide (c < z) else decide (b < y)) else decide (a < x)
/-- Two versions compared: -1, 0, 1. -/
def cmpVer (a b c x y z : Int) : Int := if lowVer a b c x y z then -1 else if lowVer x y z a b c then 1 else 0

set_option maxHeartbeats 400000 in
theorem below_any (a b c x y z : Int) (w : World) :
    Calls Tryd.prog 26 #[.agg #[.int .i64 a, .int .i64 b, .int .i64 c], .agg #[.int .i64 x, .int .i64 y, .int .i64 z]] w fun e w' => e = .returned (.bool (lowVer a b c x y z)) ∧ Below w.heap.size w w' := by
  go_enter Tryd.func26, Tryd.ntmps26
  go_wp2
  all_goals go_ret
  all_goals (refine ⟨?_, ((Below.refl _ _).alloc (Nat.le_refl _) _).alloc (by simp) _⟩)
  all_goals (congr 2; simp_all [lowVer])

set_option maxHeartbeats 400000 in
theorem cmp_any (a b c x y z : Int) (w : World) :
    Calls Tryd.prog 20 #[.agg #[.int .i64 a, .int .i64 b, .int .i64 c], .agg #[.int .i64 x, .int .i64 y, .int .i64 z]] w fun e w' => e = .returned (.int .i64 (cmpVer a b c x y z)) ∧ Below w.heap.size w w' := by
  go_enter Tryd.func20, Tryd.ntmps20
  rcases Int.lt_trichotomy a x with h | rfl | h
  · have E1 := Lib.hid (show Lib.compareInt a x = -1 by unfold Lib.compareInt; rw [if_pos h])
    have R : cmpVer a b c x y z = -1 := by unfold cmpVer lowVer; simp [h, Int.ne_of_lt h]
    rw [R]; clear R h
    go_wp2_with fail
    refine (Tryd.cmp_Compare_int _ _ _).mono ?_; rintro e w' ⟨rfl, rfl⟩; rw [E1.out]
    go_wp2
    go_ret
    exact ⟨rfl, ((Below.refl _ _).alloc (Nat.le_refl _) _).alloc (by simp) _⟩
  · have E1 := Lib.hid (show Lib.compareInt a a = 0 by unfold Lib.compareInt; simp)
    rcases Int.lt_trichotomy b y with h | rfl | h
    · have E2 := Lib.hid (show Lib.compareInt b y = -1 by unfold Lib.compareInt; rw [if_pos h])
      have R : cmpVer a b c a y z = -1 := by unfold cmpVer lowVer; simp [h, Int.ne_of_lt h]
      rw [R]; clear R h
      go_wp2_with fail
      refine (Tryd.cmp_Compare_int _ _ _).mono ?_; rintro e w' ⟨rfl, rfl⟩; rw [E1.out]
      go_wp2_with fail
      refine (Tryd.cmp_Compare_int _ _ _).mono ?_; rintro e w' ⟨rfl, rfl⟩; rw [E2.out]
      go_wp2
      go_ret
      exact ⟨rfl, ((Below.refl _ _).alloc (Nat.le_refl _) _).alloc (by simp) _⟩
    · have E2 := Lib.hid (show Lib.compareInt b b = 0 by unfold Lib.compareInt; simp)
      have R : cmpVer a b c a b z = Lib.compareInt c z := by unfold cmpVer lowVer Lib.compareInt; simp
      rw [R]; clear R
      go_wp2_with fail
      refine (Tryd.cmp_Compare_int _ _ _).mono ?_; rintro e w' ⟨rfl, rfl⟩; rw [E1.out]
      go_wp2_with fail
      refine (Tryd.cmp_Compare_int _ _ _).mono ?_; rintro e w' ⟨rfl, rfl⟩; rw [E2.out]
      go_wp2_with fail
      refine (Tryd.cmp_Compare_int _ _ _).mono ?_; rintro e w' ⟨rfl, rfl⟩
      go_wp2
      go_ret
      exact ⟨rfl, ((Below.refl _ _).alloc (Nat.le_refl _) _).alloc (by simp) _⟩
    · have E2 := Lib.hid (show Lib.compareInt b y = 1 by unfold Lib.compareInt; rw [if_neg (by omega)]; simp [h])
      have R : cmpVer a b c a y z = 1 := by unfold cmpVer lowVer; simp [h, Int.ne_of_gt h, Int.ne_of_lt h]; omega
      rw [R]; clear R h
      go_wp2_with fail
      refine (Tryd.cmp_Compare_int _ _ _).mono ?_; rintro e w' ⟨rfl, rfl⟩; rw [E1.out]
      go_wp2_with fail
      refine (Tryd.cmp_Compare_int _ _ _).mono ?_; rintro e w' ⟨rfl, rfl⟩; rw [E2.out]
      go_wp2
      go_ret
      exact ⟨rfl, ((Below.refl _ _).alloc (Nat.le_refl _) _).alloc (by simp) _⟩
  · have E1 := Lib.hid (show Lib.compareInt a x = 1 by unfold Lib.compareInt; rw [if_neg (by omega)]; simp [h])
    have R : cmpVer a b c x y z = 1 := by unfold cmpVer lowVer; simp [h, Int.ne_of_gt h, Int.ne_of_lt h]; omega
    rw [R]; clear R h
    go_wp2_with fail
    refine (Tryd.cmp_Compare_int _ _ _).mono ?_; rintro e w' ⟨rfl, rfl⟩; rw [E1.out]
    go_wp2
    go_ret
    exact ⟨rfl, ((Below.refl _ _).alloc (Nat.le_refl _) _).alloc (by simp) _⟩

end Go.Proofs.YtihaggghmanamaaDoor
