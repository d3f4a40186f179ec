/-
  The library's Itoa at this translation, and the table that it reads.
-/
import Derived.Test.YtnnppdlhmcobcaaDoorDig
import Derived.Test.YtnnppdlhmcobcaaDoorShelf
namespace Go.Proofs.YtnnppdlhmcobcaaDoor
open Go.RowKit

/-- The library's table of powers of ten lies as the program's text lays it. -/
def Pow (w : World) : Prop := Lib.TabIs Tryd.prog w "internal/strconv.uint64pow10" .u64 Lib.pow10Tab
theorem Pow.on {w w' : World} (h : Pow w) (hb : Below w.heap.size w w') : Pow w' := Lib.tabBelow_of_tabIs h w' hb

theorem itoa_any (n : Int) (w : World) (h0 : 0 ≤ n) (h1 : n ≤ 9223372036854775807) (hp : Pow w) :
    Calls Tryd.prog 34 #[.int .i64 n] w fun e w' => e = .returned (.string (dec n)) ∧ Below w.heap.size w w' :=
  (Tryd.strconv_Itoa n (by omega) h1 w hp).mono fun e w' ⟨he, k, os, hw⟩ => by
    subst hw
    refine ⟨?_, ⟨rfl, rfl, rfl, Lib.size_grow _ _ _, ?_⟩⟩
    · rw [he]; unfold Lib.itoa dec; rw [if_neg (by omega)]
    · intro j hj
      exact Lib.heap_grow_old w k os j hj

end Go.Proofs.YtnnppdlhmcobcaaDoor
