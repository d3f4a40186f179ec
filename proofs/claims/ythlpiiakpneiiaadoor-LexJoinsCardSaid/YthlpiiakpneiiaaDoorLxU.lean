/-
  The walk of the document's example, which stands at the head of every statement of layer 3.
-/
import Derived.Test.YthlpiiakpneiiaaDoorLxS
import Derived.Test.YthlpiiakpneiiaaDoorErL
namespace Go.Proofs.YthlpiiakpneiiaaDoor
open Go.RowKit
open M

def exA : ByteArray := ⟨#[97, 45, 62, 66, 49]⟩
def exB : ByteArray := ⟨#[97, 45]⟩
theorem exA_fin : fin exA 0 [] = ([⟨1, 0, ⟨#[97]⟩⟩, ⟨4, 1, ⟨#[45, 62]⟩⟩, ⟨2, 3, ⟨#[66, 49]⟩⟩], -1) := by kernel_rfl
theorem exB_fin : fin exB 0 [] = ([], ((1 : Nat) : Int)) := by kernel_rfl

set_option maxHeartbeats 2000000 in
theorem up_any (w : World) (hg : ErrT w) : Calls Tryd.prog 5 #[] w fun e w' => e = .returned (.bool true) ∧ Below w.heap.size w w' := by
  go_enter Tryd.func5, Tryd.ntmps5
  go_wp2_with fail
  refine (tokens_yes exA _ _ (by decide) exA_fin).mono ?_; rintro e w1 ⟨A, c, rfl, -, hr, hb1⟩
  go_wp2_with fail
  refine (tokens_no exB 1 _ (by decide) exB_fin).mono ?_; rintro e w2 ⟨b, rfl, h1, h2, h3, h4, hb2⟩
  have hr2 := hr.below hb2
  obtain ⟨g, rfl, -, a0, a1, a2⟩ := hr2 1 _ rfl
  obtain ⟨g', eg, -, b0, b1, b2⟩ := hr2 2 _ rfl
  obtain rfl : g = g' := by simpa using eg
  have HR := Lib.hid hr
  have HR2 := Lib.hid hr2
  clear hr hr2 eg b1 b2
  have hbb := below_over hb1 hb2
  have ht := hg.on hbb
  clear hb1 hb2
  go_wp2_with fail
  refine (isSpot_any b 1 2 _ ht h2 h3 h4).mono ?_; rintro e w3 ⟨rfl, hb3⟩
  go_wp2
  go_ret
  exact ⟨rfl, below_over hbb hb3⟩

end Go.Proofs.YthlpiiakpneiiaaDoor
