/-
  The walk of KindTells: whatever type is handed in.
-/
import Derived.Test.YtnnppdlhmcobcaaDoorKdY
import Derived.Test.YtnnppdlhmcobcaaDoorTyU
import Derived.Test.YtnnppdlhmcobcaaDoorTyB
import Derived.Test.YtnnppdlhmcobcaaDoorTyV
namespace Go.Proofs.YtnnppdlhmcobcaaDoor
open Go.RowKit
open Go.Sort
open M

theorem may_all {t : Ty} (h : mayT t = true) : allOk t = true := by
  unfold mayT at h
  simp only [Bool.and_eq_true] at h
  exact h.1.1
theorem size_yes {t : Ty} (h : mayT t = true) : sizeT t = many t := by unfold sizeT; rw [if_pos h]
theorem size_no {t : Ty} (h : mayT t = false) : sizeT t = 0 := by unfold sizeT; rw [if_neg (by rw [h]; exact Bool.false_ne_true)]

set_option maxRecDepth 100000 in
set_option maxHeartbeats 8000000 in
theorem tells_any (t : Ty) (v : Value) (w : World) (hv : TyV w v t) (hP : Pow w) :
    Calls Tryd.prog 3 #[v] w fun e w' => e = .returned (.bool true) ∧ Below w.heap.size w w' := by
  have HV := Lib.hid hv
  have HP := Lib.hid hP
  obtain ⟨lv, rfl, hT⟩ := hv
  obtain ⟨An, cn, As, cs, rfl, -, -, -, -, -, -, -⟩ := hT.parts
  clear hT hP
  obtain ⟨wb, hwb⟩ : ∃ wb, wb = w.alloc (.cells #[.int .i64 t.kind, .string t.pkg, .int .i64 t.major, .string t.mod, .string t.name, .slice An t.names.length cn, .slice As t.subs.length cs] 25) := ⟨_, rfl⟩
  have HB0 : Hid (Below w.heap.size w wb) := Lib.hid (by rw [hwb]; exact below_new (Below.refl _ _) _)
  have HX : Hid (∀ w', Below wb.heap.size wb w' → ∀ i v, (#[.int .i64 t.kind, .string t.pkg, .int .i64 t.major, .string t.mod, .string t.name, .slice An t.names.length cn, .slice As t.subs.length cs] : Array Value)[i]? = some v → w'.cell? ⟨w.heap.size, i, none⟩ = some v) := Lib.hid (fun w' hb i v hv => by
    have h1 : wb.heap[w.heap.size]? = some (.cells #[.int .i64 t.kind, .string t.pkg, .int .i64 t.major, .string t.mod, .string t.name, .slice An t.names.length cn, .slice As t.subs.length cs] 25 (0, 0)) := by rw [hwb]; exact heap_alloc_new w _
    rw [(bcell hb).1 _ _ (Array.getElem?_eq_some_iff.1 h1).1, Lib.cell_of_heap h1]; exact hv)
  have HV0 : Hid (∀ w', Below wb.heap.size wb w' → TyV w' (.agg #[.int .i64 t.kind, .string t.pkg, .int .i64 t.major, .string t.mod, .string t.name, .slice An t.names.length cn, .slice As t.subs.length cs]) t) := Lib.hid (fun w' hb => HV.out.below (below_over HB0.out hb))
  have HP0 : Hid (∀ w', Below wb.heap.size wb w' → Pow w') := Lib.hid (fun w' hb => HP.out.on (below_over HB0.out hb))
  have HWB := Lib.hid hwb
  clear hwb HV HP
  go_enter Tryd.func3, Tryd.ntmps3
  go_wp2_with fail
  rw [← HWB.out]
  refine (up_any _ (HP0.out _ (Below.refl _ _))).mono ?_; rintro e w1 ⟨rfl, hb1⟩
  have HB1 := Lib.hid hb1
  clear hb1
  have x0 := HX.out w1 HB1.out 0 _ rfl
  have x1 := HX.out w1 HB1.out 1 _ rfl
  have x2 := HX.out w1 HB1.out 2 _ rfl
  have x3 := HX.out w1 HB1.out 3 _ rfl
  have x4 := HX.out w1 HB1.out 4 _ rfl
  have x5 := HX.out w1 HB1.out 5 _ rfl
  have x6 := HX.out w1 HB1.out 6 _ rfl
  go_wp2_with fail
  refine (fewB_any t _ _ (HV0.out _ HB1.out)).mono ?_; rintro e w2 ⟨rfl, hb2⟩
  have HB2 := Lib.hid (below_over HB1.out hb2)
  clear x0 x1 x2 x3 x4 x5 x6
  clear hb2
  rcases hid_or (fewB t) with hf | hf
  · rw [hf.out]
    go_wp2_with fail
    go_ret
    exact ⟨rfl, below_over HB0.out HB2.out⟩
  have hM : many t ≤ 9000 := by have := few_small hf.out; omega
  have HM := Lib.hid hM
  rw [hf.out]
  have x0 := HX.out w2 HB2.out 0 _ rfl
  have x1 := HX.out w2 HB2.out 1 _ rfl
  have x2 := HX.out w2 HB2.out 2 _ rfl
  have x3 := HX.out w2 HB2.out 3 _ rfl
  have x4 := HX.out w2 HB2.out 4 _ rfl
  have x5 := HX.out w2 HB2.out 5 _ rfl
  have x6 := HX.out w2 HB2.out 6 _ rfl
  go_wp2_with fail
  refine (may_any t _ _ HM.out (HV0.out _ HB2.out)).mono ?_; rintro e w3 ⟨rfl, hb3⟩
  have HB3 := Lib.hid (below_over HB2.out hb3)
  clear x0 x1 x2 x3 x4 x5 x6
  clear hb3
  have x0 := HX.out w3 HB3.out 0 _ rfl
  have x1 := HX.out w3 HB3.out 1 _ rfl
  have x2 := HX.out w3 HB3.out 2 _ rfl
  have x3 := HX.out w3 HB3.out 3 _ rfl
  have x4 := HX.out w3 HB3.out 4 _ rfl
  have x5 := HX.out w3 HB3.out 5 _ rfl
  have x6 := HX.out w3 HB3.out 6 _ rfl
  rcases hid_or (mayT t) with hm | hm
  · rw [hm.out]
    go_wp2_with fail
    refine (printK_no t hm.out _ _ (HV0.out _ HB3.out)).mono ?_; rintro e w4 ⟨rfl, hb4⟩
    have HB4 := Lib.hid (below_over HB3.out hb4)
    clear x0 x1 x2 x3 x4 x5 x6
    clear hb4
    have x0 := HX.out w4 HB4.out 0 _ rfl
    have x1 := HX.out w4 HB4.out 1 _ rfl
    have x2 := HX.out w4 HB4.out 2 _ rfl
    have x3 := HX.out w4 HB4.out 3 _ rfl
    have x4 := HX.out w4 HB4.out 4 _ rfl
    have x5 := HX.out w4 HB4.out 5 _ rfl
    have x6 := HX.out w4 HB4.out 6 _ rfl
    have he := eqErr 1 1
    go_wp2_with fail
    refine (mayK_any t _ _ (HV0.out _ HB4.out)).mono ?_; rintro e w5 ⟨rfl, hb5⟩; rw [hm.out]
    have HB5 := Lib.hid (below_over HB4.out hb5)
    clear x0 x1 x2 x3 x4 x5 x6
    clear hb5
    have x0 := HX.out w5 HB5.out 0 _ rfl
    have x1 := HX.out w5 HB5.out 1 _ rfl
    have x2 := HX.out w5 HB5.out 2 _ rfl
    have x3 := HX.out w5 HB5.out 3 _ rfl
    have x4 := HX.out w5 HB5.out 4 _ rfl
    have x5 := HX.out w5 HB5.out 5 _ rfl
    have x6 := HX.out w5 HB5.out 6 _ rfl
    go_wp2_with fail
    refine (size_any t _ _ (HV0.out _ HB5.out)).mono ?_; rintro e w6 ⟨rfl, hb6⟩; rw [size_no hm.out]
    have HB6 := Lib.hid (below_over HB5.out hb6)
    clear x0 x1 x2 x3 x4 x5 x6
    clear hb6
    have x0 := HX.out w6 HB6.out 0 _ rfl
    have x1 := HX.out w6 HB6.out 1 _ rfl
    have x2 := HX.out w6 HB6.out 2 _ rfl
    have x3 := HX.out w6 HB6.out 3 _ rfl
    have x4 := HX.out w6 HB6.out 4 _ rfl
    have x5 := HX.out w6 HB6.out 5 _ rfl
    have x6 := HX.out w6 HB6.out 6 _ rfl
    go_wp2_with fail
    refine (plainK_any t _ _ (HV0.out _ HB6.out)).mono ?_; rintro e w7 ⟨rfl, hb7⟩; rw [hm.out]
    have HB7 := Lib.hid (below_over HB6.out hb7)
    clear x0 x1 x2 x3 x4 x5 x6
    clear hb7
    go_wp2_with fail
    go_ret
    exact ⟨rfl, below_over HB0.out HB7.out⟩
  · rw [hm.out]
    go_wp2_with fail
    refine (printK_yes t hm.out HM.out _ _ (HV0.out _ HB3.out) (HP0.out _ HB3.out)).mono ?_; rintro e w4 ⟨rfl, hb4⟩
    have HB4 := Lib.hid (below_over HB3.out hb4)
    clear x0 x1 x2 x3 x4 x5 x6
    clear hb4
    have x0 := HX.out w4 HB4.out 0 _ rfl
    have x1 := HX.out w4 HB4.out 1 _ rfl
    have x2 := HX.out w4 HB4.out 2 _ rfl
    have x3 := HX.out w4 HB4.out 3 _ rfl
    have x4 := HX.out w4 HB4.out 4 _ rfl
    have x5 := HX.out w4 HB4.out 5 _ rfl
    have x6 := HX.out w4 HB4.out 6 _ rfl
    have R : ∀ dd os, Below wb.heap.size wb (Sort.grow (redrawn w4 dd) os) := fun dd os => below_over HB4.out (below_regrown w4 dd os)
    have cA : ∀ dd os, Calls Tryd.prog 10 #[.agg #[.int .i64 t.kind, .string t.pkg, .int .i64 t.major, .string t.mod, .string t.name, .slice An t.names.length cn, .slice As t.subs.length cs]] (Sort.grow (redrawn w4 dd) os) fun e w'' => e = .returned (.bool true) ∧ ∃ pp : Regrown, w'' = Sort.grow (redrawn w4 pp.d) pp.os := fun dd os => Calls.regrown_of (by have h := mayK_any t _ _ (HV0.out _ (R dd os)); rw [hm.out] at h; exact h)
    have cB : ∀ dd os, Calls Tryd.prog 11 #[.agg #[.int .i64 t.kind, .string t.pkg, .int .i64 t.major, .string t.mod, .string t.name, .slice An t.names.length cn, .slice As t.subs.length cs]] (Sort.grow (redrawn w4 dd) os) fun e w'' => e = .returned (.int .i64 (many t : Nat)) ∧ ∃ pp : Regrown, w'' = Sort.grow (redrawn w4 pp.d) pp.os := fun dd os => Calls.regrown_of (by have h := size_any t _ _ (HV0.out _ (R dd os)); rw [size_yes hm.out] at h; exact h)
    have cC : ∀ dd os, Calls Tryd.prog 13 #[.agg #[.int .i64 t.kind, .string t.pkg, .int .i64 t.major, .string t.mod, .string t.name, .slice An t.names.length cn, .slice As t.subs.length cs]] (Sort.grow (redrawn w4 dd) os) fun e w'' => e = .returned (.int .i64 (many t : Nat)) ∧ ∃ pp : Regrown, w'' = Sort.grow (redrawn w4 pp.d) pp.os := fun dd os => Calls.regrown_of (many_any _ t (Nat.le_refl _) HM.out _ _ (HV0.out _ (R dd os)))
    have cD : ∀ dd os, Calls Tryd.prog 12 #[.agg #[.int .i64 t.kind, .string t.pkg, .int .i64 t.major, .string t.mod, .string t.name, .slice An t.names.length cn, .slice As t.subs.length cs]] (Sort.grow (redrawn w4 dd) os) fun e w'' => e = .returned (.bool (plainT t)) ∧ ∃ pp : Regrown, w'' = Sort.grow (redrawn w4 pp.d) pp.os := fun dd os => Calls.regrown_of (by have h := plainK_any t _ _ (HV0.out _ (R dd os)); rw [hm.out, Bool.true_and] at h; exact h)
    have cE : ∀ dd os, Calls Tryd.prog 14 #[.agg #[.int .i64 t.kind, .string t.pkg, .int .i64 t.major, .string t.mod, .string t.name, .slice An t.names.length cn, .slice As t.subs.length cs]] (Sort.grow (redrawn w4 dd) os) fun e w'' => e = .returned (.bool (plainT t)) ∧ ∃ pp : Regrown, w'' = Sort.grow (redrawn w4 pp.d) pp.os := fun dd os => Calls.regrown_of (plain_any _ t (Nat.le_refl _) _ _ (HV0.out _ (R dd os)))
    have cF : ∀ dd os, Calls Tryd.prog 15 #[.agg #[.int .i64 t.kind, .string t.pkg, .int .i64 t.major, .string t.mod, .string t.name, .slice An t.names.length cn, .slice As t.subs.length cs]] (Sort.grow (redrawn w4 dd) os) fun e w'' => e = .returned (.string (tB t)) ∧ ∃ pp : Regrown, w'' = Sort.grow (redrawn w4 pp.d) pp.os := fun dd os => Calls.regrown_of (print_any _ t (Nat.le_refl _) HM.out (may_all hm.out) _ _ (HV0.out _ (R dd os)))
    have p0 := cell_regrown x0
    have p1 := cell_regrown x1
    have p2 := cell_regrown x2
    have p3 := cell_regrown x3
    have p4 := cell_regrown x4
    have p5 := cell_regrown x5
    have p6 := cell_regrown x6
    clear x0 x1 x2 x3 x4 x5 x6
    clear R hM
    go_wp2_with fail
    refine wp_region_quiet_below (by kernel_rfl) (by kernel_rfl) ?_
    repeat (any_goals (first | go_big_quiet_step (first | (with_reducible exact cA _ _) | (with_reducible exact cB _ _) | (with_reducible exact cC _ _) | (with_reducible exact cD _ _) | (with_reducible exact cE _ _) | (with_reducible exact cF _ _)) | quiet_step (first | (with_reducible exact cA _ _) | (with_reducible exact cB _ _) | (with_reducible exact cC _ _) | (with_reducible exact cD _ _) | (with_reducible exact cE _ _) | (with_reducible exact cF _ _))))
    refine wpQuiet_nil ?_
    intro _ hw'
    obtain ⟨⟨dq, osq⟩, hw''⟩ := hw'
    subst hw''
    have hb5 := below_regrown w4 dq osq
    go_wp2_with fail
    go_ret
    exact ⟨rfl, below_over HB0.out (below_over HB4.out hb5)⟩

end Go.Proofs.YtnnppdlhmcobcaaDoor
