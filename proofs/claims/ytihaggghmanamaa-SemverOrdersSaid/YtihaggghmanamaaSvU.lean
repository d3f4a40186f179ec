/-
  The walk of the document's example, which stands at the head of every statement of layer 1: it answers true.
-/
import Derived.Test.YtihaggghmanamaaSvD
import Derived.Test.YtihaggghmanamaaErrLaw
namespace Go.Proofs.Ytihaggghmanamaa
open Go.RowKit

theorem code_comparable : (Try.prog.info? 32).map (·.comparable) = some true := by kernel_rfl
/-- '==' between two errors of package api. -/
theorem eqErr (a b : Int) (w : World) : (binOp .eql 28 (.iface 32 (.int .i64 a)) (.iface 32 (.int .i64 b))).run Try.prog w = .ok (.bool (a == b)) w := by
  obtain ⟨i, hi, hc⟩ := Option.map_eq_some_iff.1 code_comparable
  exact run_eql_iface_int w a b Try.underlying28 Try.underlying32 hi hc

theorem example_bad : isVer (⟨#[49, 46, 48, 50, 46, 48]⟩ : ByteArray).data.toList = false := by decide +kernel

set_option maxHeartbeats 1000000 in
theorem up_any (w : World) : Calls Try.prog 4 #[] w fun e w' => e = .returned (.bool true) ∧ Below w.heap.size w w' := by
  go_enter Try.func4, Try.ntmps4
  go_wp2_with fail
  refine (next_ok 1 2 3 2 1 3 0 _ (by decide) (by omega) (by decide)).mono ?_; rintro e w1 ⟨rfl, hb1⟩
  go_wp2_with fail
  refine (parse_no _ _ (by decide) example_bad).mono ?_; rintro e w2 ⟨rfl, hb2⟩
  obtain ⟨hc2, hf2⟩ := bcell hb2
  have hz2 : w1.heap.size < w2.heap.size := by have := hb2.size; (try simp at this); omega
  have he := eqErr 2 2
  go_wp2
  go_ret
  refine ⟨rfl, ?_⟩
  repeat (first | exact Below.refl _ _ | refine Below.drew ?_ | refine below_drewN ?_ _ | refine below_new ?_ _ | refine below_put ?_ (by simp) _ | refine below_over ?_ (by assumption))

end Go.Proofs.Ytihaggghmanamaa
