/-
  The walk of the document's example, which stands at the head of every statement of layer 4: it answers true.
-/
import Derived.Test.YtnnppdlhmcobcaaDoorKdX
import Derived.Test.YtnnppdlhmcobcaaDoorKdE
import Derived.Test.YtnnppdlhmcobcaaDoorErrLaw
namespace Go.Proofs.YtnnppdlhmcobcaaDoor
open Go.RowKit
open M

theorem code_comparable : (Tryd.prog.info? 33).map (·.comparable) = some true := by kernel_rfl
/-- '==' between two errors of package api. -/
theorem eqErr (a b : Int) (w : World) : (binOp .eql 29 (.iface 33 (.int .i64 a)) (.iface 33 (.int .i64 b))).run Tryd.prog w = .ok (.bool (a == b)) w := by
  obtain ⟨i, hi, hc⟩ := Option.map_eq_some_iff.1 code_comparable
  exact run_eql_iface_int w a b Tryd.underlying29 Tryd.underlying33 hi hc

def leafT (k : Int) : Ty := .mk k ⟨#[]⟩ 0 ⟨#[]⟩ ⟨#[]⟩ [] []
def leafC (k : Int) : List Value := [.int .i64 k, .string ⟨#[]⟩, .int .i64 0, .string ⟨#[]⟩, .string ⟨#[]⟩, .slice none 0 0, .slice none 0 0]
theorem leaf_at (w : World) (k : Int) : TyAt w (leafC k) (leafT k) :=
  .mk k ⟨#[]⟩ 0 ⟨#[]⟩ ⟨#[]⟩ [] [] none 0 none 0 (fun _ => leafC 0) (by decide) (by decide) (by decide) (by decide) (by decide) (by decide) (fun i s h => by simp at h) (fun _ => rfl) (fun i t h => by simp at h) (fun i t h => by simp at h)
/-- The document's example: a function of Int and Bool. -/
def exT : Ty := .mk 7 ⟨#[]⟩ 0 ⟨#[]⟩ ⟨#[]⟩ [] [leafT 1, leafT 3]
theorem ex_may : mayT exT = true := by decide +kernel
theorem ex_many : many exT = 3 := by decide +kernel
theorem ex_size : sizeT exT = 3 := by unfold sizeT; rw [if_pos ex_may, ex_many]
theorem ex_plain : plainT exT = true := by decide +kernel
theorem ex_text : tB exT = ⟨#[40, 73, 110, 116, 41, 32, 45, 62, 32, 66, 111, 111, 108]⟩ := by decide +kernel
theorem no_may : mayT (leafT 0) = false := by decide +kernel

theorem ex_tree (w : World) (g : Nat) (hc : w.heap[g]? = some (.cells (leafC 1 ++ leafC 3).toArray 25 (0, 0))) :
    TyV w (.agg #[.int .i64 7, .string ⟨#[]⟩, .int .i64 0, .string ⟨#[]⟩, .string ⟨#[]⟩, .slice none 0 0, .slice (some ⟨g, 0, none⟩) 2 2]) exT := by
  refine ⟨_, rfl, .mk 7 ⟨#[]⟩ 0 ⟨#[]⟩ ⟨#[]⟩ [] [leafT 1, leafT 3] none 0 (some ⟨g, 0, none⟩) 2 (fun i => if i = 0 then leafC 1 else leafC 3) (by decide) (by decide) (by decide) (by decide) (by decide) (by decide) (fun i s h => by simp at h) (fun i => by split <;> rfl) (fun i t h => ?_) (fun i t h => ?_)⟩
  · refine ⟨g, 0, rfl, (Array.getElem?_eq_some_iff.1 hc).1, fun j v hv => ?_⟩
    rw [Lib.cell_of_heap hc]
    match i, h with
    | 0, _ =>
      have hj : j < 7 := (List.getElem?_eq_some_iff.1 hv).1
      simp only [if_true] at hv
      rw [List.getElem?_toArray, List.getElem?_append_left (by simpa [leafC] using hj)]
      simpa using hv
    | 1, _ =>
      have hj : j < 7 := (List.getElem?_eq_some_iff.1 hv).1
      simp only [Nat.succ_ne_zero, if_false] at hv
      rw [List.getElem?_toArray, List.getElem?_append_right (by simp [leafC])]
      have e : 0 + 1 * 7 + j - (leafC 1).length = j := by simp [leafC]
      rw [e]
      simpa using hv
    | i + 2, h => simp at h
  · match i, h with
    | 0, h => simp at h; subst h; exact leaf_at w 1
    | 1, h => simp at h; subst h; exact leaf_at w 3
    | i + 2, h => simp at h

set_option maxRecDepth 100000 in
set_option maxHeartbeats 4000000 in
theorem up_any (w : World) (hP : Pow w) : Calls Tryd.prog 6 #[] w fun e w' => e = .returned (.bool true) ∧ Below w.heap.size w w' := by
  have HP := Lib.hid hP
  clear hP
  obtain ⟨w1, hw1⟩ : ∃ w1, w1 = w.alloc (.cells #[.int .i64 1, .string ⟨#[]⟩, .int .i64 0, .string ⟨#[]⟩, .string ⟨#[]⟩, .slice none 0 0, .slice none 0 0, .int .i64 3, .string ⟨#[]⟩, .int .i64 0, .string ⟨#[]⟩, .string ⟨#[]⟩, .slice none 0 0, .slice none 0 0] 25) := ⟨_, rfl⟩
  obtain ⟨w2, hw2⟩ : ∃ w2, w2 = w1.alloc (.cells #[.int .i64 7, .string ⟨#[]⟩, .int .i64 0, .string ⟨#[]⟩, .string ⟨#[]⟩, .slice none 0 0, .slice (some ⟨w.heap.size, 0, none⟩) 2 2] 25) := ⟨_, rfl⟩
  have hz1 : w1.heap.size = w.heap.size + 1 := by rw [hw1]; simp
  have HB1 : Hid (Below w.heap.size w w1) := Lib.hid (by rw [hw1]; exact below_new (Below.refl _ _) _)
  have HB12 : Hid (Below w1.heap.size w1 w2) := Lib.hid (by rw [hw2]; exact below_new (Below.refl _ _) _)
  have HB2 : Hid (Below w.heap.size w w2) := Lib.hid (below_over HB1.out HB12.out)
  have HT : Hid (TyV w2 (.agg #[.int .i64 7, .string ⟨#[]⟩, .int .i64 0, .string ⟨#[]⟩, .string ⟨#[]⟩, .slice none 0 0, .slice (some ⟨w.heap.size, 0, none⟩) 2 2]) exT) := Lib.hid ((ex_tree w1 w.heap.size (by rw [hw1]; exact heap_alloc_new w _)).below HB12.out)
  have HX : Hid (∀ w', Below w2.heap.size w2 w' → ∀ i v, (#[.int .i64 7, .string ⟨#[]⟩, .int .i64 0, .string ⟨#[]⟩, .string ⟨#[]⟩, .slice none 0 0, .slice (some ⟨w.heap.size, 0, none⟩) 2 2] : Array Value)[i]? = some v → w'.cell? ⟨w.heap.size + 1, i, none⟩ = some v) := Lib.hid (fun w' hb i v hv => by
    have h1 : w2.heap[w1.heap.size]? = some (.cells #[.int .i64 7, .string ⟨#[]⟩, .int .i64 0, .string ⟨#[]⟩, .string ⟨#[]⟩, .slice none 0 0, .slice (some ⟨w.heap.size, 0, none⟩) 2 2] 25 (0, 0)) := by rw [hw2]; exact heap_alloc_new w1 _
    rw [← hz1, (bcell hb).1 _ _ (Array.getElem?_eq_some_iff.1 h1).1, Lib.cell_of_heap h1]; exact hv)
  have HW2 : Hid ((w.alloc (.cells #[.int .i64 1, .string ⟨#[]⟩, .int .i64 0, .string ⟨#[]⟩, .string ⟨#[]⟩, .slice none 0 0, .slice none 0 0, .int .i64 3, .string ⟨#[]⟩, .int .i64 0, .string ⟨#[]⟩, .string ⟨#[]⟩, .slice none 0 0, .slice none 0 0] 25)).alloc (.cells #[.int .i64 7, .string ⟨#[]⟩, .int .i64 0, .string ⟨#[]⟩, .string ⟨#[]⟩, .slice none 0 0, .slice (some ⟨w.heap.size, 0, none⟩) 2 2] 25) = w2) := Lib.hid (by rw [hw2, hw1])
  clear hw1 hw2 hz1 HB1 HB12
  go_enter Tryd.func6, Tryd.ntmps6
  go_wp2_with fail
  rw [HW2.out]
  refine (printK_yes exT ex_may (by rw [ex_many]; omega) _ _ HT.out (HP.out.on HB2.out)).mono ?_; rintro e w3 ⟨rfl, hb3⟩
  rw [ex_text]
  go_wp2_with fail
  refine (printK_no (leafT 0) no_may _ _ ⟨_, rfl, leaf_at _ 0⟩).mono ?_; rintro e w4 ⟨rfl, hb4⟩
  have HB4 := Lib.hid (below_over hb3 hb4)
  have x0 := HX.out w4 HB4.out 0 _ rfl
  have x1 := HX.out w4 HB4.out 1 _ rfl
  have x2 := HX.out w4 HB4.out 2 _ rfl
  have x3 := HX.out w4 HB4.out 3 _ rfl
  have x4 := HX.out w4 HB4.out 4 _ rfl
  have x5 := HX.out w4 HB4.out 5 _ rfl
  have x6 := HX.out w4 HB4.out 6 _ rfl
  clear hb3 hb4
  have he := eqErr 1 1
  go_wp2_with fail
  refine (size_any exT _ _ (HT.out.below HB4.out)).mono ?_; rintro e w5 ⟨rfl, hb5⟩
  rw [ex_size]
  have HB5 := Lib.hid (below_over HB4.out hb5)
  clear x0 x1 x2 x3 x4 x5 x6 hb5
  have x0 := HX.out w5 HB5.out 0 _ rfl
  have x1 := HX.out w5 HB5.out 1 _ rfl
  have x2 := HX.out w5 HB5.out 2 _ rfl
  have x3 := HX.out w5 HB5.out 3 _ rfl
  have x4 := HX.out w5 HB5.out 4 _ rfl
  have x5 := HX.out w5 HB5.out 5 _ rfl
  have x6 := HX.out w5 HB5.out 6 _ rfl
  go_wp2_with fail
  refine (plainK_any exT _ _ (HT.out.below HB5.out)).mono ?_; rintro e w6 ⟨rfl, hb6⟩
  rw [ex_may, ex_plain]
  go_wp2_with fail
  go_ret
  exact ⟨rfl, below_over HB2.out (below_over HB5.out hb6)⟩

end Go.Proofs.YtnnppdlhmcobcaaDoor
