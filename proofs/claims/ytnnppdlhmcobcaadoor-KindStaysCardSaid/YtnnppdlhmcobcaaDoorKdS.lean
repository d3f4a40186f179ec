/-
  The walk of KindStays: whatever type is handed in.
-/
import Derived.Test.YtnnppdlhmcobcaaDoorKdT
import Derived.Test.YtnnppdlhmcobcaaDoorKdJ
import Derived.Test.YtnnppdlhmcobcaaDoorTyS
namespace Go.Proofs.YtnnppdlhmcobcaaDoor
open Go.RowKit
open Go.Sort
open M

theorem strike_ty {S : Nat → Prop} {w : World} {l : List Value} {t : Ty} (h : TyAt (strike S w) l t) : TyAt w l t :=
  h.cells (by rw [strike_size]; exact Nat.le_refl _) (fun b o x hx => (strike_cell.1 hx).2)

set_option maxRecDepth 100000 in
set_option maxHeartbeats 8000000 in
theorem stays_any (t : Ty) (v : Value) (w : World) (hv : TyV w v t) (hP : Pow w) :
    Calls Tryd.prog 5 #[v] w fun e w' => e = .returned (.bool true) ∧ Below w.heap.size w w' := by
  have HV := Lib.hid hv
  have HP := Lib.hid hP
  obtain ⟨lv, rfl, hT⟩ := hv
  obtain ⟨An, cn, As, cs, rfl, -, -, -, -, -, -, -⟩ := hT.parts
  clear hT hP
  obtain ⟨wb, hwb⟩ : ∃ wb, wb = w.alloc (.cells #[.int .i64 t.kind, .string t.pkg, .int .i64 t.major, .string t.mod, .string t.name, .slice An t.names.length cn, .slice As t.subs.length cs] 25) := ⟨_, rfl⟩
  have HB0 : Hid (Below w.heap.size w wb) := Lib.hid (by rw [hwb]; exact below_new (Below.refl _ _) _)
  have HX : Hid (∀ w', Below wb.heap.size wb w' → ∀ i v, (#[.int .i64 t.kind, .string t.pkg, .int .i64 t.major, .string t.mod, .string t.name, .slice An t.names.length cn, .slice As t.subs.length cs] : Array Value)[i]? = some v → w'.cell? ⟨w.heap.size, i, none⟩ = some v) := Lib.hid (fun w' hb i v hv => by
    have h1 : wb.heap[w.heap.size]? = some (.cells #[.int .i64 t.kind, .string t.pkg, .int .i64 t.major, .string t.mod, .string t.name, .slice An t.names.length cn, .slice As t.subs.length cs] 25 (0, 0)) := by rw [hwb]; exact heap_alloc_new w _
    rw [(bcell hb).1 _ _ (Array.getElem?_eq_some_iff.1 h1).1, Lib.cell_of_heap h1]; exact hv)
  have HV0 : Hid (∀ w', Below wb.heap.size wb w' → TyV w' (.agg #[.int .i64 t.kind, .string t.pkg, .int .i64 t.major, .string t.mod, .string t.name, .slice An t.names.length cn, .slice As t.subs.length cs]) t) := Lib.hid (fun w' hb => HV.out.below (below_over HB0.out hb))
  have HP0 : Hid (∀ w', Below wb.heap.size wb w' → Pow w') := Lib.hid (fun w' hb => HP.out.on (below_over HB0.out hb))
  have HWB := Lib.hid hwb
  clear hwb HV HP
  go_enter Tryd.func5, Tryd.ntmps5
  go_wp2_with fail
  rw [← HWB.out]
  refine (up_any _ (HP0.out _ (Below.refl _ _))).mono ?_; rintro e w1 ⟨rfl, hb1⟩
  have HB1 := Lib.hid hb1
  clear hb1
  have x0 := HX.out w1 HB1.out 0 _ rfl
  have x1 := HX.out w1 HB1.out 1 _ rfl
  have x2 := HX.out w1 HB1.out 2 _ rfl
  have x3 := HX.out w1 HB1.out 3 _ rfl
  have x4 := HX.out w1 HB1.out 4 _ rfl
  have x5 := HX.out w1 HB1.out 5 _ rfl
  have x6 := HX.out w1 HB1.out 6 _ rfl
  go_wp2_with fail
  refine (fewB_any t _ _ (HV0.out _ HB1.out)).mono ?_; rintro e w2 ⟨rfl, hb2⟩
  have HB2 := Lib.hid (below_over HB1.out hb2)
  clear x0 x1 x2 x3 x4 x5 x6
  clear hb2
  rcases hid_or (fewB t) with hf | hf
  · rw [hf.out]
    go_wp2_with fail
    go_ret
    exact ⟨rfl, below_over HB0.out HB2.out⟩
  have hM : many t ≤ 9000 := by have := few_small hf.out; omega
  have HM := Lib.hid hM
  have HSH : Hid (shortT t) := Lib.hid (few_short t 3000 (by have := hf.out; simpa [fewB] using this))
  clear hM
  rw [hf.out]
  have x0 := HX.out w2 HB2.out 0 _ rfl
  have x1 := HX.out w2 HB2.out 1 _ rfl
  have x2 := HX.out w2 HB2.out 2 _ rfl
  have x3 := HX.out w2 HB2.out 3 _ rfl
  have x4 := HX.out w2 HB2.out 4 _ rfl
  have x5 := HX.out w2 HB2.out 5 _ rfl
  have x6 := HX.out w2 HB2.out 6 _ rfl
  go_wp2_with fail
  refine (copy_any _ t (Nat.le_refl _) HM.out HSH.out _ _ (HV0.out _ HB2.out)).mono ?_; rintro e w3 ⟨l3, rfl, hT3, hb3⟩
  have HB3 := Lib.hid (below_over HB2.out hb3)
  obtain ⟨Cn, dn, Cs, ds, rfl, -⟩ := hT3.parts
  have HT3 := Lib.hid (strike_ty hT3)
  clear x0 x1 x2 x3 x4 x5 x6
  clear hb3 hT3
  obtain ⟨wc, hwc⟩ : ∃ wc, wc = w3.alloc (.cells #[.int .i64 t.kind, .string t.pkg, .int .i64 t.major, .string t.mod, .string t.name, .slice Cn t.names.length dn, .slice Cs t.subs.length ds] 25) := ⟨_, rfl⟩
  have HB4 : Hid (Below wb.heap.size wb wc) := Lib.hid (by rw [hwc]; exact below_new HB3.out _)
  have HB34 : Hid (Below w3.heap.size w3 wc) := Lib.hid (by rw [hwc]; exact below_new (Below.refl _ _) _)
  have HY : Hid (∀ w', Below wc.heap.size wc w' → ∀ i v, (#[.int .i64 t.kind, .string t.pkg, .int .i64 t.major, .string t.mod, .string t.name, .slice Cn t.names.length dn, .slice Cs t.subs.length ds] : Array Value)[i]? = some v → w'.cell? ⟨w3.heap.size, i, none⟩ = some v) := Lib.hid (fun w' hb i v hv => by
    have h1 : wc.heap[w3.heap.size]? = some (.cells #[.int .i64 t.kind, .string t.pkg, .int .i64 t.major, .string t.mod, .string t.name, .slice Cn t.names.length dn, .slice Cs t.subs.length ds] 25 (0, 0)) := by rw [hwc]; exact heap_alloc_new w3 _
    rw [(bcell hb).1 _ _ (Array.getElem?_eq_some_iff.1 h1).1, Lib.cell_of_heap h1]; exact hv)
  have HO : Hid (∀ w', Below wc.heap.size wc w' → TyV w' (.agg #[.int .i64 t.kind, .string t.pkg, .int .i64 t.major, .string t.mod, .string t.name, .slice Cn t.names.length dn, .slice Cs t.subs.length ds]) t) := Lib.hid (fun w' hb => ⟨_, rfl, HT3.out.keep (below_over HB34.out hb)⟩)
  have HWC := Lib.hid hwc
  clear hwc HT3 HB34 HB3
  rcases hid_or (mayT t) with hm | hm
  · skip
    go_wp2_with fail
    rw [← HWC.out]
    refine (printK_no t hm.out _ _ (HO.out _ (Below.refl _ _))).mono ?_; rintro e w5 ⟨rfl, hb5⟩
    have HB5 := Lib.hid hb5
    have y0 := HY.out w5 HB5.out 0 _ rfl
    have y1 := HY.out w5 HB5.out 1 _ rfl
    have y2 := HY.out w5 HB5.out 2 _ rfl
    have y3 := HY.out w5 HB5.out 3 _ rfl
    have y4 := HY.out w5 HB5.out 4 _ rfl
    have y5 := HY.out w5 HB5.out 5 _ rfl
    have y6 := HY.out w5 HB5.out 6 _ rfl
    clear hb5
    go_wp2_with fail
    refine (plainK_any t _ _ (HO.out _ HB5.out)).mono ?_; rintro e w6 ⟨rfl, hb6⟩
    have HB6 := Lib.hid (below_over HB5.out hb6)
    clear y0 y1 y2 y3 y4 y5 y6
    have y0 := HY.out w6 HB6.out 0 _ rfl
    have y1 := HY.out w6 HB6.out 1 _ rfl
    have y2 := HY.out w6 HB6.out 2 _ rfl
    have y3 := HY.out w6 HB6.out 3 _ rfl
    have y4 := HY.out w6 HB6.out 4 _ rfl
    have y5 := HY.out w6 HB6.out 5 _ rfl
    have y6 := HY.out w6 HB6.out 6 _ rfl
    clear hb6
    go_wp2_with fail
    refine (sameK_any t t _ _ _ (HO.out _ HB6.out) (HO.out _ HB6.out)).mono ?_; rintro e w7 ⟨rfl, hb7⟩
    have HB7 := Lib.hid (below_over HB6.out hb7)
    clear y0 y1 y2 y3 y4 y5 y6
    have y0 := HY.out w7 HB7.out 0 _ rfl
    have y1 := HY.out w7 HB7.out 1 _ rfl
    have y2 := HY.out w7 HB7.out 2 _ rfl
    have y3 := HY.out w7 HB7.out 3 _ rfl
    have y4 := HY.out w7 HB7.out 4 _ rfl
    have y5 := HY.out w7 HB7.out 5 _ rfl
    have y6 := HY.out w7 HB7.out 6 _ rfl
    have z0 := HX.out w7 (below_over HB4.out HB7.out) 0 _ rfl
    have z1 := HX.out w7 (below_over HB4.out HB7.out) 1 _ rfl
    have z2 := HX.out w7 (below_over HB4.out HB7.out) 2 _ rfl
    have z3 := HX.out w7 (below_over HB4.out HB7.out) 3 _ rfl
    have z4 := HX.out w7 (below_over HB4.out HB7.out) 4 _ rfl
    have z5 := HX.out w7 (below_over HB4.out HB7.out) 5 _ rfl
    have z6 := HX.out w7 (below_over HB4.out HB7.out) 6 _ rfl
    clear hb7
    go_wp2_with fail
    refine (same_any _ t t (Nat.le_refl _) _ _ _ (HO.out _ HB7.out) (HV0.out _ (below_over HB4.out HB7.out))).mono ?_; rintro e w8 ⟨rfl, hb8⟩
    rw [(sameT_iff t t).2 rfl]
    go_wp2_with fail
    go_ret
    exact ⟨rfl, below_over HB0.out (below_over HB4.out (below_over HB7.out hb8))⟩
  · skip
    go_wp2_with fail
    rw [← HWC.out]
    refine (printK_yes t hm.out HM.out _ _ (HO.out _ (Below.refl _ _)) (HP0.out _ HB4.out)).mono ?_; rintro e w5 ⟨rfl, hb5⟩
    have HB5 := Lib.hid hb5
    have y0 := HY.out w5 HB5.out 0 _ rfl
    have y1 := HY.out w5 HB5.out 1 _ rfl
    have y2 := HY.out w5 HB5.out 2 _ rfl
    have y3 := HY.out w5 HB5.out 3 _ rfl
    have y4 := HY.out w5 HB5.out 4 _ rfl
    have y5 := HY.out w5 HB5.out 5 _ rfl
    have y6 := HY.out w5 HB5.out 6 _ rfl
    clear hb5
    go_wp2_with fail
    refine (plainK_any t _ _ (HO.out _ HB5.out)).mono ?_; rintro e w6 ⟨rfl, hb6⟩
    have HB6 := Lib.hid (below_over HB5.out hb6)
    clear y0 y1 y2 y3 y4 y5 y6
    have y0 := HY.out w6 HB6.out 0 _ rfl
    have y1 := HY.out w6 HB6.out 1 _ rfl
    have y2 := HY.out w6 HB6.out 2 _ rfl
    have y3 := HY.out w6 HB6.out 3 _ rfl
    have y4 := HY.out w6 HB6.out 4 _ rfl
    have y5 := HY.out w6 HB6.out 5 _ rfl
    have y6 := HY.out w6 HB6.out 6 _ rfl
    clear hb6
    go_wp2_with fail
    refine (sameK_any t t _ _ _ (HO.out _ HB6.out) (HO.out _ HB6.out)).mono ?_; rintro e w7 ⟨rfl, hb7⟩
    have HB7 := Lib.hid (below_over HB6.out hb7)
    clear y0 y1 y2 y3 y4 y5 y6
    have y0 := HY.out w7 HB7.out 0 _ rfl
    have y1 := HY.out w7 HB7.out 1 _ rfl
    have y2 := HY.out w7 HB7.out 2 _ rfl
    have y3 := HY.out w7 HB7.out 3 _ rfl
    have y4 := HY.out w7 HB7.out 4 _ rfl
    have y5 := HY.out w7 HB7.out 5 _ rfl
    have y6 := HY.out w7 HB7.out 6 _ rfl
    have z0 := HX.out w7 (below_over HB4.out HB7.out) 0 _ rfl
    have z1 := HX.out w7 (below_over HB4.out HB7.out) 1 _ rfl
    have z2 := HX.out w7 (below_over HB4.out HB7.out) 2 _ rfl
    have z3 := HX.out w7 (below_over HB4.out HB7.out) 3 _ rfl
    have z4 := HX.out w7 (below_over HB4.out HB7.out) 4 _ rfl
    have z5 := HX.out w7 (below_over HB4.out HB7.out) 5 _ rfl
    have z6 := HX.out w7 (below_over HB4.out HB7.out) 6 _ rfl
    clear hb7
    go_wp2_with fail
    refine (same_any _ t t (Nat.le_refl _) _ _ _ (HO.out _ HB7.out) (HV0.out _ (below_over HB4.out HB7.out))).mono ?_; rintro e w8 ⟨rfl, hb8⟩
    rw [(sameT_iff t t).2 rfl]
    go_wp2_with fail
    go_ret
    exact ⟨rfl, below_over HB0.out (below_over HB4.out (below_over HB7.out hb8))⟩

end Go.Proofs.YtnnppdlhmcobcaaDoor
