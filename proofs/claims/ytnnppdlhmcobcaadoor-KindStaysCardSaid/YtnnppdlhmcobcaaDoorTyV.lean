/-
  The walk of the reference's Few: what is small enough to be gone through has at most 3000 types.
-/
import Derived.Test.YtnnppdlhmcobcaaDoorTyA
namespace Go.Proofs.YtnnppdlhmcobcaaDoor
open Go.RowKit
open M

def fewB (t : Ty) : Bool := decide (0 ≤ fewT t 3000)
theorem few_small {t : Ty} (h : fewB t = true) : many t ≤ 3000 := by
  have h0 : 0 ≤ fewT t 3000 := by simpa [fewB] using h
  have a := few_many t 3000 h0
  omega

set_option maxHeartbeats 1000000 in
theorem fewB_any (t : Ty) (v : Value) (w : World) (hv : TyV w v t) :
    Calls Tryd.prog 7 #[v] w fun e w' => e = .returned (.bool (fewB t)) ∧ Below w.heap.size w w' := by
  have HV := Lib.hid hv
  obtain ⟨l, rfl, hT⟩ := hv
  obtain ⟨An, cn, As, cs, rfl, -, -, -, -, -, -, -⟩ := hT.parts
  clear hT
  have bd := few_bd t 3000 (by omega)
  unfold fewB
  go_enter Tryd.func7, Tryd.ntmps7
  go_wp2_with fail
  refine (few_any _ t (Nat.le_refl _) 3000 (by omega) (by omega) _ _ (HV.out.below (by first | exact below_new (Below.refl _ _) _ | exact Below.refl _ _))).mono ?_; rintro e w1 ⟨rfl, hb1⟩
  go_wp2_with fail
  go_ret
  refine ⟨rfl, ?_⟩
  first | exact hb1 | exact (below_new (Below.refl _ _) _).trans (hb1.mono (by simp))

end Go.Proofs.YtnnppdlhmcobcaaDoor
