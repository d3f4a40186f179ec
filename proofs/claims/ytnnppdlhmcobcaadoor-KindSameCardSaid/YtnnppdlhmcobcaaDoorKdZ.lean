/-
  The walk of KindSame: whatever two types are handed in.
-/
import Derived.Test.YtnnppdlhmcobcaaDoorKdT
import Derived.Test.YtnnppdlhmcobcaaDoorTyK
import Derived.Test.YtnnppdlhmcobcaaDoorTyS
namespace Go.Proofs.YtnnppdlhmcobcaaDoor
open Go.RowKit
open Go.Sort
open M

theorem same_symm (a b : Ty) : sameT b a = sameT a b := by
  rw [Bool.eq_iff_iff, sameT_iff, sameT_iff]
  exact ⟨fun h => h.symm, fun h => h.symm⟩
theorem text_same {a b : Ty} (ha : mayT a = true) (hb : mayT b = true) : ((tB a).toList == (tB b).toList) = sameT a b := by
  rw [Lib.toList_data, Lib.toList_data, Bool.eq_iff_iff, sameT_iff, beq_iff_eq]
  constructor
  · intro h
    exact text_inj (may_all ha) (may_all hb) (by simpa [tB] using h)
  · rintro rfl; rfl

set_option maxRecDepth 100000 in
set_option maxHeartbeats 8000000 in
theorem kindSame_any (a b : Ty) (v v' : Value) (w : World) (hv : TyV w v a) (hv' : TyV w v' b) (hP : Pow w) :
    Calls Tryd.prog 4 #[v, v'] w fun e w' => e = .returned (.bool true) ∧ Below w.heap.size w w' := by
  have HV := Lib.hid hv
  have HV' := Lib.hid hv'
  have HP := Lib.hid hP
  obtain ⟨lv, rfl, hT⟩ := hv
  obtain ⟨An, cn, As, cs, rfl, -, -, -, -, -, -, -⟩ := hT.parts
  obtain ⟨lv', rfl, hT'⟩ := hv'
  obtain ⟨Bn, cn', Bs, cs', rfl, -, -, -, -, -, -, -⟩ := hT'.parts
  clear hT hT' hP
  obtain ⟨wa, hwa⟩ : ∃ wa, wa = w.alloc (.cells #[.int .i64 a.kind, .string a.pkg, .int .i64 a.major, .string a.mod, .string a.name, .slice An a.names.length cn, .slice As a.subs.length cs] 25) := ⟨_, rfl⟩
  obtain ⟨w0, hw0⟩ : ∃ w0, w0 = wa.alloc (.cells #[.int .i64 b.kind, .string b.pkg, .int .i64 b.major, .string b.mod, .string b.name, .slice Bn b.names.length cn', .slice Bs b.subs.length cs'] 25) := ⟨_, rfl⟩
  have hz1 : wa.heap.size = w.heap.size + 1 := by rw [hwa]; simp
  have HBw : Hid (Below w.heap.size w w0) := Lib.hid (by rw [hw0, hwa]; exact below_new (below_new (Below.refl _ _) _) _)
  have HXA : Hid (∀ w', Below w0.heap.size w0 w' → ∀ i v, (#[.int .i64 a.kind, .string a.pkg, .int .i64 a.major, .string a.mod, .string a.name, .slice An a.names.length cn, .slice As a.subs.length cs] : Array Value)[i]? = some v → w'.cell? ⟨w.heap.size, i, none⟩ = some v) := Lib.hid (fun w' hb i v hv => by
    have h1 : w0.heap[w.heap.size]? = some (.cells #[.int .i64 a.kind, .string a.pkg, .int .i64 a.major, .string a.mod, .string a.name, .slice An a.names.length cn, .slice As a.subs.length cs] 25 (0, 0)) := by
      rw [hw0, Lib.alloc_old _ _ _ (by omega), hwa]; exact heap_alloc_new w _
    rw [(bcell hb).1 _ _ (Array.getElem?_eq_some_iff.1 h1).1, Lib.cell_of_heap h1]; exact hv)
  have HXB : Hid (∀ w', Below w0.heap.size w0 w' → ∀ i v, (#[.int .i64 b.kind, .string b.pkg, .int .i64 b.major, .string b.mod, .string b.name, .slice Bn b.names.length cn', .slice Bs b.subs.length cs'] : Array Value)[i]? = some v → w'.cell? ⟨w.heap.size + 1, i, none⟩ = some v) := Lib.hid (fun w' hb i v hv => by
    have h1 : w0.heap[wa.heap.size]? = some (.cells #[.int .i64 b.kind, .string b.pkg, .int .i64 b.major, .string b.mod, .string b.name, .slice Bn b.names.length cn', .slice Bs b.subs.length cs'] 25 (0, 0)) := by rw [hw0]; exact heap_alloc_new wa _
    rw [← hz1, (bcell hb).1 _ _ (Array.getElem?_eq_some_iff.1 h1).1, Lib.cell_of_heap h1]; exact hv)
  have HVA : Hid (∀ w', Below w0.heap.size w0 w' → TyV w' (.agg #[.int .i64 a.kind, .string a.pkg, .int .i64 a.major, .string a.mod, .string a.name, .slice An a.names.length cn, .slice As a.subs.length cs]) a) := Lib.hid (fun w' hb => HV.out.below (below_over HBw.out hb))
  have HVB : Hid (∀ w', Below w0.heap.size w0 w' → TyV w' (.agg #[.int .i64 b.kind, .string b.pkg, .int .i64 b.major, .string b.mod, .string b.name, .slice Bn b.names.length cn', .slice Bs b.subs.length cs']) b) := Lib.hid (fun w' hb => HV'.out.below (below_over HBw.out hb))
  have HP0 : Hid (∀ w', Below w0.heap.size w0 w' → Pow w') := Lib.hid (fun w' hb => HP.out.on (below_over HBw.out hb))
  have HW0 : Hid ((w.alloc (.cells #[.int .i64 a.kind, .string a.pkg, .int .i64 a.major, .string a.mod, .string a.name, .slice An a.names.length cn, .slice As a.subs.length cs] 25)).alloc (.cells #[.int .i64 b.kind, .string b.pkg, .int .i64 b.major, .string b.mod, .string b.name, .slice Bn b.names.length cn', .slice Bs b.subs.length cs'] 25) = w0) := Lib.hid (by rw [hw0, hwa])
  clear hwa hw0 hz1 HV HV' HP
  go_enter Tryd.func4, Tryd.ntmps4
  go_wp2_with fail
  rw [HW0.out]
  have HB0 : Hid (Below w0.heap.size w0 w0) := Lib.hid (Below.refl _ _)
  have x0 := HXA.out w0 HB0.out 0 _ rfl
  have x1 := HXA.out w0 HB0.out 1 _ rfl
  have x2 := HXA.out w0 HB0.out 2 _ rfl
  have x3 := HXA.out w0 HB0.out 3 _ rfl
  have x4 := HXA.out w0 HB0.out 4 _ rfl
  have x5 := HXA.out w0 HB0.out 5 _ rfl
  have x6 := HXA.out w0 HB0.out 6 _ rfl
  have y0 := HXB.out w0 HB0.out 0 _ rfl
  have y1 := HXB.out w0 HB0.out 1 _ rfl
  have y2 := HXB.out w0 HB0.out 2 _ rfl
  have y3 := HXB.out w0 HB0.out 3 _ rfl
  have y4 := HXB.out w0 HB0.out 4 _ rfl
  have y5 := HXB.out w0 HB0.out 5 _ rfl
  have y6 := HXB.out w0 HB0.out 6 _ rfl
  refine (up_any _ (HP0.out _ HB0.out)).mono ?_; rintro e w1 ⟨rfl, hb1⟩
  have HB1 := Lib.hid (below_over HB0.out hb1)
  clear x0 x1 x2 x3 x4 x5 x6 y0 y1 y2 y3 y4 y5 y6
  clear hb1
  have x0 := HXA.out w1 HB1.out 0 _ rfl
  have x1 := HXA.out w1 HB1.out 1 _ rfl
  have x2 := HXA.out w1 HB1.out 2 _ rfl
  have x3 := HXA.out w1 HB1.out 3 _ rfl
  have x4 := HXA.out w1 HB1.out 4 _ rfl
  have x5 := HXA.out w1 HB1.out 5 _ rfl
  have x6 := HXA.out w1 HB1.out 6 _ rfl
  have y0 := HXB.out w1 HB1.out 0 _ rfl
  have y1 := HXB.out w1 HB1.out 1 _ rfl
  have y2 := HXB.out w1 HB1.out 2 _ rfl
  have y3 := HXB.out w1 HB1.out 3 _ rfl
  have y4 := HXB.out w1 HB1.out 4 _ rfl
  have y5 := HXB.out w1 HB1.out 5 _ rfl
  have y6 := HXB.out w1 HB1.out 6 _ rfl
  go_wp2_with fail
  refine (fewB_any a _ _ (HVA.out _ HB1.out)).mono ?_; rintro e w2 ⟨rfl, hb2⟩
  have HB2 := Lib.hid (below_over HB1.out hb2)
  clear x0 x1 x2 x3 x4 x5 x6 y0 y1 y2 y3 y4 y5 y6
  clear hb2
  have x0 := HXA.out w2 HB2.out 0 _ rfl
  have x1 := HXA.out w2 HB2.out 1 _ rfl
  have x2 := HXA.out w2 HB2.out 2 _ rfl
  have x3 := HXA.out w2 HB2.out 3 _ rfl
  have x4 := HXA.out w2 HB2.out 4 _ rfl
  have x5 := HXA.out w2 HB2.out 5 _ rfl
  have x6 := HXA.out w2 HB2.out 6 _ rfl
  have y0 := HXB.out w2 HB2.out 0 _ rfl
  have y1 := HXB.out w2 HB2.out 1 _ rfl
  have y2 := HXB.out w2 HB2.out 2 _ rfl
  have y3 := HXB.out w2 HB2.out 3 _ rfl
  have y4 := HXB.out w2 HB2.out 4 _ rfl
  have y5 := HXB.out w2 HB2.out 5 _ rfl
  have y6 := HXB.out w2 HB2.out 6 _ rfl
  go_wp2_with fail
  refine (fewB_any b _ _ (HVB.out _ HB2.out)).mono ?_; rintro e w3 ⟨rfl, hb3⟩
  have HB3 := Lib.hid (below_over HB2.out hb3)
  clear x0 x1 x2 x3 x4 x5 x6 y0 y1 y2 y3 y4 y5 y6
  clear hb3
  have x0 := HXA.out w3 HB3.out 0 _ rfl
  have x1 := HXA.out w3 HB3.out 1 _ rfl
  have x2 := HXA.out w3 HB3.out 2 _ rfl
  have x3 := HXA.out w3 HB3.out 3 _ rfl
  have x4 := HXA.out w3 HB3.out 4 _ rfl
  have x5 := HXA.out w3 HB3.out 5 _ rfl
  have x6 := HXA.out w3 HB3.out 6 _ rfl
  have y0 := HXB.out w3 HB3.out 0 _ rfl
  have y1 := HXB.out w3 HB3.out 1 _ rfl
  have y2 := HXB.out w3 HB3.out 2 _ rfl
  have y3 := HXB.out w3 HB3.out 3 _ rfl
  have y4 := HXB.out w3 HB3.out 4 _ rfl
  have y5 := HXB.out w3 HB3.out 5 _ rfl
  have y6 := HXB.out w3 HB3.out 6 _ rfl
  rcases hid_or (fewB a) with fa | fa
  · rw [fa.out]
    go_wp2_with fail
    go_ret
    exact ⟨rfl, below_over HBw.out HB3.out⟩
  rcases hid_or (fewB b) with fb | fb
  · rw [fa.out, fb.out]
    go_wp2_with fail
    go_ret
    exact ⟨rfl, below_over HBw.out HB3.out⟩
  have MA : Hid (many a ≤ 9000) := Lib.hid (by have := few_small fa.out; omega)
  have MB : Hid (many b ≤ 9000) := Lib.hid (by have := few_small fb.out; omega)
  rw [fa.out, fb.out]
  clear fa fb
  go_wp2_with fail
  refine (may_any a _ _ MA.out (HVA.out _ HB3.out)).mono ?_; rintro e w4 ⟨rfl, hb4⟩
  have HB4 := Lib.hid (below_over HB3.out hb4)
  clear x0 x1 x2 x3 x4 x5 x6 y0 y1 y2 y3 y4 y5 y6
  clear hb4
  have x0 := HXA.out w4 HB4.out 0 _ rfl
  have x1 := HXA.out w4 HB4.out 1 _ rfl
  have x2 := HXA.out w4 HB4.out 2 _ rfl
  have x3 := HXA.out w4 HB4.out 3 _ rfl
  have x4 := HXA.out w4 HB4.out 4 _ rfl
  have x5 := HXA.out w4 HB4.out 5 _ rfl
  have x6 := HXA.out w4 HB4.out 6 _ rfl
  have y0 := HXB.out w4 HB4.out 0 _ rfl
  have y1 := HXB.out w4 HB4.out 1 _ rfl
  have y2 := HXB.out w4 HB4.out 2 _ rfl
  have y3 := HXB.out w4 HB4.out 3 _ rfl
  have y4 := HXB.out w4 HB4.out 4 _ rfl
  have y5 := HXB.out w4 HB4.out 5 _ rfl
  have y6 := HXB.out w4 HB4.out 6 _ rfl
  go_wp2_with fail
  refine (may_any b _ _ MB.out (HVB.out _ HB4.out)).mono ?_; rintro e w5 ⟨rfl, hb5⟩
  have HB5 := Lib.hid (below_over HB4.out hb5)
  clear x0 x1 x2 x3 x4 x5 x6 y0 y1 y2 y3 y4 y5 y6
  clear hb5
  have x0 := HXA.out w5 HB5.out 0 _ rfl
  have x1 := HXA.out w5 HB5.out 1 _ rfl
  have x2 := HXA.out w5 HB5.out 2 _ rfl
  have x3 := HXA.out w5 HB5.out 3 _ rfl
  have x4 := HXA.out w5 HB5.out 4 _ rfl
  have x5 := HXA.out w5 HB5.out 5 _ rfl
  have x6 := HXA.out w5 HB5.out 6 _ rfl
  have y0 := HXB.out w5 HB5.out 0 _ rfl
  have y1 := HXB.out w5 HB5.out 1 _ rfl
  have y2 := HXB.out w5 HB5.out 2 _ rfl
  have y3 := HXB.out w5 HB5.out 3 _ rfl
  have y4 := HXB.out w5 HB5.out 4 _ rfl
  have y5 := HXB.out w5 HB5.out 5 _ rfl
  have y6 := HXB.out w5 HB5.out 6 _ rfl
  rcases hid_or (mayT a) with ha | ha
  · rw [ha.out]
    have SM : Hid ((mayT a && mayT b && sameT a b) = false) := Lib.hid (by rw [ha.out]; rfl)
    have SM' : Hid ((mayT b && mayT a && sameT b a) = false) := Lib.hid (by rw [same_symm, Bool.and_comm (mayT b) (mayT a)]; exact SM.out)
    have cS : ∀ w', Below w0.heap.size w0 w' → Calls Tryd.prog 17 #[.agg #[.int .i64 a.kind, .string a.pkg, .int .i64 a.major, .string a.mod, .string a.name, .slice An a.names.length cn, .slice As a.subs.length cs], .agg #[.int .i64 b.kind, .string b.pkg, .int .i64 b.major, .string b.mod, .string b.name, .slice Bn b.names.length cn', .slice Bs b.subs.length cs']] w' fun e w'' => e = .returned (.bool false) ∧ Below w'.heap.size w' w'' := fun w' hb => by have h := sameK_any a b _ _ _ (HVA.out _ hb) (HVB.out _ hb); rw [SM.out] at h; exact h
    have cT : ∀ w', Below w0.heap.size w0 w' → Calls Tryd.prog 17 #[.agg #[.int .i64 b.kind, .string b.pkg, .int .i64 b.major, .string b.mod, .string b.name, .slice Bn b.names.length cn', .slice Bs b.subs.length cs'], .agg #[.int .i64 a.kind, .string a.pkg, .int .i64 a.major, .string a.mod, .string a.name, .slice An a.names.length cn, .slice As a.subs.length cs]] w' fun e w'' => e = .returned (.bool false) ∧ Below w'.heap.size w' w'' := fun w' hb => by have h := sameK_any b a _ _ _ (HVB.out _ hb) (HVA.out _ hb); rw [SM'.out] at h; exact h
    go_wp2_with fail
    refine (cS _ HB5.out).mono ?_; rintro e w6 ⟨rfl, hb6⟩
    have HB6 := Lib.hid (below_over HB5.out hb6)
    clear x0 x1 x2 x3 x4 x5 x6 y0 y1 y2 y3 y4 y5 y6
    clear hb6
    have x0 := HXA.out w6 HB6.out 0 _ rfl
    have x1 := HXA.out w6 HB6.out 1 _ rfl
    have x2 := HXA.out w6 HB6.out 2 _ rfl
    have x3 := HXA.out w6 HB6.out 3 _ rfl
    have x4 := HXA.out w6 HB6.out 4 _ rfl
    have x5 := HXA.out w6 HB6.out 5 _ rfl
    have x6 := HXA.out w6 HB6.out 6 _ rfl
    have y0 := HXB.out w6 HB6.out 0 _ rfl
    have y1 := HXB.out w6 HB6.out 1 _ rfl
    have y2 := HXB.out w6 HB6.out 2 _ rfl
    have y3 := HXB.out w6 HB6.out 3 _ rfl
    have y4 := HXB.out w6 HB6.out 4 _ rfl
    have y5 := HXB.out w6 HB6.out 5 _ rfl
    have y6 := HXB.out w6 HB6.out 6 _ rfl
    go_wp2_with fail
    refine (cT _ HB6.out).mono ?_; rintro e w7 ⟨rfl, hb7⟩
    have HB7 := Lib.hid (below_over HB6.out hb7)
    clear x0 x1 x2 x3 x4 x5 x6 y0 y1 y2 y3 y4 y5 y6
    clear hb7
    have x0 := HXA.out w7 HB7.out 0 _ rfl
    have x1 := HXA.out w7 HB7.out 1 _ rfl
    have x2 := HXA.out w7 HB7.out 2 _ rfl
    have x3 := HXA.out w7 HB7.out 3 _ rfl
    have x4 := HXA.out w7 HB7.out 4 _ rfl
    have x5 := HXA.out w7 HB7.out 5 _ rfl
    have x6 := HXA.out w7 HB7.out 6 _ rfl
    have y0 := HXB.out w7 HB7.out 0 _ rfl
    have y1 := HXB.out w7 HB7.out 1 _ rfl
    have y2 := HXB.out w7 HB7.out 2 _ rfl
    have y3 := HXB.out w7 HB7.out 3 _ rfl
    have y4 := HXB.out w7 HB7.out 4 _ rfl
    have y5 := HXB.out w7 HB7.out 5 _ rfl
    have y6 := HXB.out w7 HB7.out 6 _ rfl
    go_wp2_with fail
    refine (printK_no a ha.out _ _ (HVA.out _ HB7.out)).mono ?_; rintro e w8 ⟨rfl, hb8⟩
    have HB8 := Lib.hid (below_over HB7.out hb8)
    clear x0 x1 x2 x3 x4 x5 x6 y0 y1 y2 y3 y4 y5 y6
    clear hb8
    have x0 := HXA.out w8 HB8.out 0 _ rfl
    have x1 := HXA.out w8 HB8.out 1 _ rfl
    have x2 := HXA.out w8 HB8.out 2 _ rfl
    have x3 := HXA.out w8 HB8.out 3 _ rfl
    have x4 := HXA.out w8 HB8.out 4 _ rfl
    have x5 := HXA.out w8 HB8.out 5 _ rfl
    have x6 := HXA.out w8 HB8.out 6 _ rfl
    have y0 := HXB.out w8 HB8.out 0 _ rfl
    have y1 := HXB.out w8 HB8.out 1 _ rfl
    have y2 := HXB.out w8 HB8.out 2 _ rfl
    have y3 := HXB.out w8 HB8.out 3 _ rfl
    have y4 := HXB.out w8 HB8.out 4 _ rfl
    have y5 := HXB.out w8 HB8.out 5 _ rfl
    have y6 := HXB.out w8 HB8.out 6 _ rfl
    go_wp2_with fail
    rcases hid_or (mayT b) with hb' | hb'
    · skip
      refine (printK_no b hb'.out _ _ (HVB.out _ HB8.out)).mono ?_; rintro e w9 ⟨rfl, hb9⟩
      have HB9 := Lib.hid (below_over HB8.out hb9)
      clear x0 x1 x2 x3 x4 x5 x6 y0 y1 y2 y3 y4 y5 y6
      clear hb9
      have x0 := HXA.out w9 HB9.out 0 _ rfl
      have x1 := HXA.out w9 HB9.out 1 _ rfl
      have x2 := HXA.out w9 HB9.out 2 _ rfl
      have x3 := HXA.out w9 HB9.out 3 _ rfl
      have x4 := HXA.out w9 HB9.out 4 _ rfl
      have x5 := HXA.out w9 HB9.out 5 _ rfl
      have x6 := HXA.out w9 HB9.out 6 _ rfl
      have y0 := HXB.out w9 HB9.out 0 _ rfl
      have y1 := HXB.out w9 HB9.out 1 _ rfl
      have y2 := HXB.out w9 HB9.out 2 _ rfl
      have y3 := HXB.out w9 HB9.out 3 _ rfl
      have y4 := HXB.out w9 HB9.out 4 _ rfl
      have y5 := HXB.out w9 HB9.out 5 _ rfl
      have y6 := HXB.out w9 HB9.out 6 _ rfl
      go_wp2_with fail
      go_ret
      exact ⟨rfl, below_over HBw.out HB9.out⟩
    · skip
      refine (printK_yes b hb'.out MB.out _ _ (HVB.out _ HB8.out) (HP0.out _ HB8.out)).mono ?_; rintro e w9 ⟨rfl, hb9⟩
      have HB9 := Lib.hid (below_over HB8.out hb9)
      clear x0 x1 x2 x3 x4 x5 x6 y0 y1 y2 y3 y4 y5 y6
      clear hb9
      have x0 := HXA.out w9 HB9.out 0 _ rfl
      have x1 := HXA.out w9 HB9.out 1 _ rfl
      have x2 := HXA.out w9 HB9.out 2 _ rfl
      have x3 := HXA.out w9 HB9.out 3 _ rfl
      have x4 := HXA.out w9 HB9.out 4 _ rfl
      have x5 := HXA.out w9 HB9.out 5 _ rfl
      have x6 := HXA.out w9 HB9.out 6 _ rfl
      have y0 := HXB.out w9 HB9.out 0 _ rfl
      have y1 := HXB.out w9 HB9.out 1 _ rfl
      have y2 := HXB.out w9 HB9.out 2 _ rfl
      have y3 := HXB.out w9 HB9.out 3 _ rfl
      have y4 := HXB.out w9 HB9.out 4 _ rfl
      have y5 := HXB.out w9 HB9.out 5 _ rfl
      have y6 := HXB.out w9 HB9.out 6 _ rfl
      go_wp2_with fail
      go_ret
      exact ⟨rfl, below_over HBw.out HB9.out⟩
  rcases hid_or (mayT b) with hb | hb
  · rw [ha.out, hb.out]
    have SM : Hid ((mayT a && mayT b && sameT a b) = false) := Lib.hid (by rw [ha.out, hb.out]; rfl)
    have SM' : Hid ((mayT b && mayT a && sameT b a) = false) := Lib.hid (by rw [same_symm, Bool.and_comm (mayT b) (mayT a)]; exact SM.out)
    have cS : ∀ w', Below w0.heap.size w0 w' → Calls Tryd.prog 17 #[.agg #[.int .i64 a.kind, .string a.pkg, .int .i64 a.major, .string a.mod, .string a.name, .slice An a.names.length cn, .slice As a.subs.length cs], .agg #[.int .i64 b.kind, .string b.pkg, .int .i64 b.major, .string b.mod, .string b.name, .slice Bn b.names.length cn', .slice Bs b.subs.length cs']] w' fun e w'' => e = .returned (.bool false) ∧ Below w'.heap.size w' w'' := fun w' hb => by have h := sameK_any a b _ _ _ (HVA.out _ hb) (HVB.out _ hb); rw [SM.out] at h; exact h
    have cT : ∀ w', Below w0.heap.size w0 w' → Calls Tryd.prog 17 #[.agg #[.int .i64 b.kind, .string b.pkg, .int .i64 b.major, .string b.mod, .string b.name, .slice Bn b.names.length cn', .slice Bs b.subs.length cs'], .agg #[.int .i64 a.kind, .string a.pkg, .int .i64 a.major, .string a.mod, .string a.name, .slice An a.names.length cn, .slice As a.subs.length cs]] w' fun e w'' => e = .returned (.bool false) ∧ Below w'.heap.size w' w'' := fun w' hb => by have h := sameK_any b a _ _ _ (HVB.out _ hb) (HVA.out _ hb); rw [SM'.out] at h; exact h
    go_wp2_with fail
    refine (cS _ HB5.out).mono ?_; rintro e w6 ⟨rfl, hb6⟩
    have HB6 := Lib.hid (below_over HB5.out hb6)
    clear x0 x1 x2 x3 x4 x5 x6 y0 y1 y2 y3 y4 y5 y6
    clear hb6
    have x0 := HXA.out w6 HB6.out 0 _ rfl
    have x1 := HXA.out w6 HB6.out 1 _ rfl
    have x2 := HXA.out w6 HB6.out 2 _ rfl
    have x3 := HXA.out w6 HB6.out 3 _ rfl
    have x4 := HXA.out w6 HB6.out 4 _ rfl
    have x5 := HXA.out w6 HB6.out 5 _ rfl
    have x6 := HXA.out w6 HB6.out 6 _ rfl
    have y0 := HXB.out w6 HB6.out 0 _ rfl
    have y1 := HXB.out w6 HB6.out 1 _ rfl
    have y2 := HXB.out w6 HB6.out 2 _ rfl
    have y3 := HXB.out w6 HB6.out 3 _ rfl
    have y4 := HXB.out w6 HB6.out 4 _ rfl
    have y5 := HXB.out w6 HB6.out 5 _ rfl
    have y6 := HXB.out w6 HB6.out 6 _ rfl
    go_wp2_with fail
    refine (cT _ HB6.out).mono ?_; rintro e w7 ⟨rfl, hb7⟩
    have HB7 := Lib.hid (below_over HB6.out hb7)
    clear x0 x1 x2 x3 x4 x5 x6 y0 y1 y2 y3 y4 y5 y6
    clear hb7
    have x0 := HXA.out w7 HB7.out 0 _ rfl
    have x1 := HXA.out w7 HB7.out 1 _ rfl
    have x2 := HXA.out w7 HB7.out 2 _ rfl
    have x3 := HXA.out w7 HB7.out 3 _ rfl
    have x4 := HXA.out w7 HB7.out 4 _ rfl
    have x5 := HXA.out w7 HB7.out 5 _ rfl
    have x6 := HXA.out w7 HB7.out 6 _ rfl
    have y0 := HXB.out w7 HB7.out 0 _ rfl
    have y1 := HXB.out w7 HB7.out 1 _ rfl
    have y2 := HXB.out w7 HB7.out 2 _ rfl
    have y3 := HXB.out w7 HB7.out 3 _ rfl
    have y4 := HXB.out w7 HB7.out 4 _ rfl
    have y5 := HXB.out w7 HB7.out 5 _ rfl
    have y6 := HXB.out w7 HB7.out 6 _ rfl
    go_wp2_with fail
    refine (printK_yes a ha.out MA.out _ _ (HVA.out _ HB7.out) (HP0.out _ HB7.out)).mono ?_; rintro e w8 ⟨rfl, hb8⟩
    have HB8 := Lib.hid (below_over HB7.out hb8)
    clear x0 x1 x2 x3 x4 x5 x6 y0 y1 y2 y3 y4 y5 y6
    clear hb8
    have x0 := HXA.out w8 HB8.out 0 _ rfl
    have x1 := HXA.out w8 HB8.out 1 _ rfl
    have x2 := HXA.out w8 HB8.out 2 _ rfl
    have x3 := HXA.out w8 HB8.out 3 _ rfl
    have x4 := HXA.out w8 HB8.out 4 _ rfl
    have x5 := HXA.out w8 HB8.out 5 _ rfl
    have x6 := HXA.out w8 HB8.out 6 _ rfl
    have y0 := HXB.out w8 HB8.out 0 _ rfl
    have y1 := HXB.out w8 HB8.out 1 _ rfl
    have y2 := HXB.out w8 HB8.out 2 _ rfl
    have y3 := HXB.out w8 HB8.out 3 _ rfl
    have y4 := HXB.out w8 HB8.out 4 _ rfl
    have y5 := HXB.out w8 HB8.out 5 _ rfl
    have y6 := HXB.out w8 HB8.out 6 _ rfl
    go_wp2_with fail
    refine (printK_no b hb.out _ _ (HVB.out _ HB8.out)).mono ?_; rintro e w9 ⟨rfl, hb9⟩
    have HB9 := Lib.hid (below_over HB8.out hb9)
    clear x0 x1 x2 x3 x4 x5 x6 y0 y1 y2 y3 y4 y5 y6
    clear hb9
    have x0 := HXA.out w9 HB9.out 0 _ rfl
    have x1 := HXA.out w9 HB9.out 1 _ rfl
    have x2 := HXA.out w9 HB9.out 2 _ rfl
    have x3 := HXA.out w9 HB9.out 3 _ rfl
    have x4 := HXA.out w9 HB9.out 4 _ rfl
    have x5 := HXA.out w9 HB9.out 5 _ rfl
    have x6 := HXA.out w9 HB9.out 6 _ rfl
    have y0 := HXB.out w9 HB9.out 0 _ rfl
    have y1 := HXB.out w9 HB9.out 1 _ rfl
    have y2 := HXB.out w9 HB9.out 2 _ rfl
    have y3 := HXB.out w9 HB9.out 3 _ rfl
    have y4 := HXB.out w9 HB9.out 4 _ rfl
    have y5 := HXB.out w9 HB9.out 5 _ rfl
    have y6 := HXB.out w9 HB9.out 6 _ rfl
    go_wp2_with fail
    go_ret
    exact ⟨rfl, below_over HBw.out HB9.out⟩
  rw [ha.out, hb.out]
  go_wp2_with fail
  refine (same_any _ a b (Nat.le_refl _) _ _ _ (HVA.out _ HB5.out) (HVB.out _ HB5.out)).mono ?_; rintro e w6 ⟨rfl, hb6⟩
  have HB6 := Lib.hid (below_over HB5.out hb6)
  clear x0 x1 x2 x3 x4 x5 x6 y0 y1 y2 y3 y4 y5 y6
  clear hb6
  have x0 := HXA.out w6 HB6.out 0 _ rfl
  have x1 := HXA.out w6 HB6.out 1 _ rfl
  have x2 := HXA.out w6 HB6.out 2 _ rfl
  have x3 := HXA.out w6 HB6.out 3 _ rfl
  have x4 := HXA.out w6 HB6.out 4 _ rfl
  have x5 := HXA.out w6 HB6.out 5 _ rfl
  have x6 := HXA.out w6 HB6.out 6 _ rfl
  have y0 := HXB.out w6 HB6.out 0 _ rfl
  have y1 := HXB.out w6 HB6.out 1 _ rfl
  have y2 := HXB.out w6 HB6.out 2 _ rfl
  have y3 := HXB.out w6 HB6.out 3 _ rfl
  have y4 := HXB.out w6 HB6.out 4 _ rfl
  have y5 := HXB.out w6 HB6.out 5 _ rfl
  have y6 := HXB.out w6 HB6.out 6 _ rfl
  rcases hid_or (sameT a b) with hs | hs
  · rw [hs.out]
    have SM : Hid ((mayT a && mayT b && sameT a b) = false) := Lib.hid (by rw [ha.out, hb.out, hs.out]; rfl)
    have SM' : Hid ((mayT b && mayT a && sameT b a) = false) := Lib.hid (by rw [same_symm, Bool.and_comm (mayT b) (mayT a)]; exact SM.out)
    have cS : ∀ w', Below w0.heap.size w0 w' → Calls Tryd.prog 17 #[.agg #[.int .i64 a.kind, .string a.pkg, .int .i64 a.major, .string a.mod, .string a.name, .slice An a.names.length cn, .slice As a.subs.length cs], .agg #[.int .i64 b.kind, .string b.pkg, .int .i64 b.major, .string b.mod, .string b.name, .slice Bn b.names.length cn', .slice Bs b.subs.length cs']] w' fun e w'' => e = .returned (.bool false) ∧ Below w'.heap.size w' w'' := fun w' hb => by have h := sameK_any a b _ _ _ (HVA.out _ hb) (HVB.out _ hb); rw [SM.out] at h; exact h
    have cT : ∀ w', Below w0.heap.size w0 w' → Calls Tryd.prog 17 #[.agg #[.int .i64 b.kind, .string b.pkg, .int .i64 b.major, .string b.mod, .string b.name, .slice Bn b.names.length cn', .slice Bs b.subs.length cs'], .agg #[.int .i64 a.kind, .string a.pkg, .int .i64 a.major, .string a.mod, .string a.name, .slice An a.names.length cn, .slice As a.subs.length cs]] w' fun e w'' => e = .returned (.bool false) ∧ Below w'.heap.size w' w'' := fun w' hb => by have h := sameK_any b a _ _ _ (HVB.out _ hb) (HVA.out _ hb); rw [SM'.out] at h; exact h
    go_wp2_with fail
    refine (cS _ HB6.out).mono ?_; rintro e w7 ⟨rfl, hb7⟩
    have HB7 := Lib.hid (below_over HB6.out hb7)
    clear x0 x1 x2 x3 x4 x5 x6 y0 y1 y2 y3 y4 y5 y6
    clear hb7
    have x0 := HXA.out w7 HB7.out 0 _ rfl
    have x1 := HXA.out w7 HB7.out 1 _ rfl
    have x2 := HXA.out w7 HB7.out 2 _ rfl
    have x3 := HXA.out w7 HB7.out 3 _ rfl
    have x4 := HXA.out w7 HB7.out 4 _ rfl
    have x5 := HXA.out w7 HB7.out 5 _ rfl
    have x6 := HXA.out w7 HB7.out 6 _ rfl
    have y0 := HXB.out w7 HB7.out 0 _ rfl
    have y1 := HXB.out w7 HB7.out 1 _ rfl
    have y2 := HXB.out w7 HB7.out 2 _ rfl
    have y3 := HXB.out w7 HB7.out 3 _ rfl
    have y4 := HXB.out w7 HB7.out 4 _ rfl
    have y5 := HXB.out w7 HB7.out 5 _ rfl
    have y6 := HXB.out w7 HB7.out 6 _ rfl
    go_wp2_with fail
    refine (cT _ HB7.out).mono ?_; rintro e w8 ⟨rfl, hb8⟩
    have HB8 := Lib.hid (below_over HB7.out hb8)
    clear x0 x1 x2 x3 x4 x5 x6 y0 y1 y2 y3 y4 y5 y6
    clear hb8
    have x0 := HXA.out w8 HB8.out 0 _ rfl
    have x1 := HXA.out w8 HB8.out 1 _ rfl
    have x2 := HXA.out w8 HB8.out 2 _ rfl
    have x3 := HXA.out w8 HB8.out 3 _ rfl
    have x4 := HXA.out w8 HB8.out 4 _ rfl
    have x5 := HXA.out w8 HB8.out 5 _ rfl
    have x6 := HXA.out w8 HB8.out 6 _ rfl
    have y0 := HXB.out w8 HB8.out 0 _ rfl
    have y1 := HXB.out w8 HB8.out 1 _ rfl
    have y2 := HXB.out w8 HB8.out 2 _ rfl
    have y3 := HXB.out w8 HB8.out 3 _ rfl
    have y4 := HXB.out w8 HB8.out 4 _ rfl
    have y5 := HXB.out w8 HB8.out 5 _ rfl
    have y6 := HXB.out w8 HB8.out 6 _ rfl
    go_wp2_with fail
    refine (printK_yes a ha.out MA.out _ _ (HVA.out _ HB8.out) (HP0.out _ HB8.out)).mono ?_; rintro e w9 ⟨rfl, hb9⟩
    have HB9 := Lib.hid (below_over HB8.out hb9)
    clear x0 x1 x2 x3 x4 x5 x6 y0 y1 y2 y3 y4 y5 y6
    clear hb9
    have x0 := HXA.out w9 HB9.out 0 _ rfl
    have x1 := HXA.out w9 HB9.out 1 _ rfl
    have x2 := HXA.out w9 HB9.out 2 _ rfl
    have x3 := HXA.out w9 HB9.out 3 _ rfl
    have x4 := HXA.out w9 HB9.out 4 _ rfl
    have x5 := HXA.out w9 HB9.out 5 _ rfl
    have x6 := HXA.out w9 HB9.out 6 _ rfl
    have y0 := HXB.out w9 HB9.out 0 _ rfl
    have y1 := HXB.out w9 HB9.out 1 _ rfl
    have y2 := HXB.out w9 HB9.out 2 _ rfl
    have y3 := HXB.out w9 HB9.out 3 _ rfl
    have y4 := HXB.out w9 HB9.out 4 _ rfl
    have y5 := HXB.out w9 HB9.out 5 _ rfl
    have y6 := HXB.out w9 HB9.out 6 _ rfl
    go_wp2_with fail
    refine (printK_yes b hb.out MB.out _ _ (HVB.out _ HB9.out) (HP0.out _ HB9.out)).mono ?_; rintro e w10 ⟨rfl, hb10⟩
    have HB10 := Lib.hid (below_over HB9.out hb10)
    clear x0 x1 x2 x3 x4 x5 x6 y0 y1 y2 y3 y4 y5 y6
    clear hb10
    have x0 := HXA.out w10 HB10.out 0 _ rfl
    have x1 := HXA.out w10 HB10.out 1 _ rfl
    have x2 := HXA.out w10 HB10.out 2 _ rfl
    have x3 := HXA.out w10 HB10.out 3 _ rfl
    have x4 := HXA.out w10 HB10.out 4 _ rfl
    have x5 := HXA.out w10 HB10.out 5 _ rfl
    have x6 := HXA.out w10 HB10.out 6 _ rfl
    have y0 := HXB.out w10 HB10.out 0 _ rfl
    have y1 := HXB.out w10 HB10.out 1 _ rfl
    have y2 := HXB.out w10 HB10.out 2 _ rfl
    have y3 := HXB.out w10 HB10.out 3 _ rfl
    have y4 := HXB.out w10 HB10.out 4 _ rfl
    have y5 := HXB.out w10 HB10.out 5 _ rfl
    have y6 := HXB.out w10 HB10.out 6 _ rfl
    have T : ((tB a).toList == (tB b).toList) = false := by rw [text_same ha.out hb.out]; exact hs.out
    have T2 : ¬ (tB a).toList = (tB b).toList := by simpa using T
    go_wp2_with fail
    go_ret
    exact ⟨rfl, below_over HBw.out HB10.out⟩
  · rw [hs.out]
    have SM : Hid ((mayT a && mayT b && sameT a b) = true) := Lib.hid (by rw [ha.out, hb.out, hs.out]; rfl)
    have SM' : Hid ((mayT b && mayT a && sameT b a) = true) := Lib.hid (by rw [same_symm, Bool.and_comm (mayT b) (mayT a)]; exact SM.out)
    have cS : ∀ w', Below w0.heap.size w0 w' → Calls Tryd.prog 17 #[.agg #[.int .i64 a.kind, .string a.pkg, .int .i64 a.major, .string a.mod, .string a.name, .slice An a.names.length cn, .slice As a.subs.length cs], .agg #[.int .i64 b.kind, .string b.pkg, .int .i64 b.major, .string b.mod, .string b.name, .slice Bn b.names.length cn', .slice Bs b.subs.length cs']] w' fun e w'' => e = .returned (.bool true) ∧ Below w'.heap.size w' w'' := fun w' hb => by have h := sameK_any a b _ _ _ (HVA.out _ hb) (HVB.out _ hb); rw [SM.out] at h; exact h
    have cT : ∀ w', Below w0.heap.size w0 w' → Calls Tryd.prog 17 #[.agg #[.int .i64 b.kind, .string b.pkg, .int .i64 b.major, .string b.mod, .string b.name, .slice Bn b.names.length cn', .slice Bs b.subs.length cs'], .agg #[.int .i64 a.kind, .string a.pkg, .int .i64 a.major, .string a.mod, .string a.name, .slice An a.names.length cn, .slice As a.subs.length cs]] w' fun e w'' => e = .returned (.bool true) ∧ Below w'.heap.size w' w'' := fun w' hb => by have h := sameK_any b a _ _ _ (HVB.out _ hb) (HVA.out _ hb); rw [SM'.out] at h; exact h
    go_wp2_with fail
    refine (cS _ HB6.out).mono ?_; rintro e w7 ⟨rfl, hb7⟩
    have HB7 := Lib.hid (below_over HB6.out hb7)
    clear x0 x1 x2 x3 x4 x5 x6 y0 y1 y2 y3 y4 y5 y6
    clear hb7
    have x0 := HXA.out w7 HB7.out 0 _ rfl
    have x1 := HXA.out w7 HB7.out 1 _ rfl
    have x2 := HXA.out w7 HB7.out 2 _ rfl
    have x3 := HXA.out w7 HB7.out 3 _ rfl
    have x4 := HXA.out w7 HB7.out 4 _ rfl
    have x5 := HXA.out w7 HB7.out 5 _ rfl
    have x6 := HXA.out w7 HB7.out 6 _ rfl
    have y0 := HXB.out w7 HB7.out 0 _ rfl
    have y1 := HXB.out w7 HB7.out 1 _ rfl
    have y2 := HXB.out w7 HB7.out 2 _ rfl
    have y3 := HXB.out w7 HB7.out 3 _ rfl
    have y4 := HXB.out w7 HB7.out 4 _ rfl
    have y5 := HXB.out w7 HB7.out 5 _ rfl
    have y6 := HXB.out w7 HB7.out 6 _ rfl
    go_wp2_with fail
    refine (cT _ HB7.out).mono ?_; rintro e w8 ⟨rfl, hb8⟩
    have HB8 := Lib.hid (below_over HB7.out hb8)
    clear x0 x1 x2 x3 x4 x5 x6 y0 y1 y2 y3 y4 y5 y6
    clear hb8
    have x0 := HXA.out w8 HB8.out 0 _ rfl
    have x1 := HXA.out w8 HB8.out 1 _ rfl
    have x2 := HXA.out w8 HB8.out 2 _ rfl
    have x3 := HXA.out w8 HB8.out 3 _ rfl
    have x4 := HXA.out w8 HB8.out 4 _ rfl
    have x5 := HXA.out w8 HB8.out 5 _ rfl
    have x6 := HXA.out w8 HB8.out 6 _ rfl
    have y0 := HXB.out w8 HB8.out 0 _ rfl
    have y1 := HXB.out w8 HB8.out 1 _ rfl
    have y2 := HXB.out w8 HB8.out 2 _ rfl
    have y3 := HXB.out w8 HB8.out 3 _ rfl
    have y4 := HXB.out w8 HB8.out 4 _ rfl
    have y5 := HXB.out w8 HB8.out 5 _ rfl
    have y6 := HXB.out w8 HB8.out 6 _ rfl
    go_wp2_with fail
    refine (printK_yes a ha.out MA.out _ _ (HVA.out _ HB8.out) (HP0.out _ HB8.out)).mono ?_; rintro e w9 ⟨rfl, hb9⟩
    have HB9 := Lib.hid (below_over HB8.out hb9)
    clear x0 x1 x2 x3 x4 x5 x6 y0 y1 y2 y3 y4 y5 y6
    clear hb9
    have x0 := HXA.out w9 HB9.out 0 _ rfl
    have x1 := HXA.out w9 HB9.out 1 _ rfl
    have x2 := HXA.out w9 HB9.out 2 _ rfl
    have x3 := HXA.out w9 HB9.out 3 _ rfl
    have x4 := HXA.out w9 HB9.out 4 _ rfl
    have x5 := HXA.out w9 HB9.out 5 _ rfl
    have x6 := HXA.out w9 HB9.out 6 _ rfl
    have y0 := HXB.out w9 HB9.out 0 _ rfl
    have y1 := HXB.out w9 HB9.out 1 _ rfl
    have y2 := HXB.out w9 HB9.out 2 _ rfl
    have y3 := HXB.out w9 HB9.out 3 _ rfl
    have y4 := HXB.out w9 HB9.out 4 _ rfl
    have y5 := HXB.out w9 HB9.out 5 _ rfl
    have y6 := HXB.out w9 HB9.out 6 _ rfl
    go_wp2_with fail
    refine (printK_yes b hb.out MB.out _ _ (HVB.out _ HB9.out) (HP0.out _ HB9.out)).mono ?_; rintro e w10 ⟨rfl, hb10⟩
    have HB10 := Lib.hid (below_over HB9.out hb10)
    clear x0 x1 x2 x3 x4 x5 x6 y0 y1 y2 y3 y4 y5 y6
    clear hb10
    have x0 := HXA.out w10 HB10.out 0 _ rfl
    have x1 := HXA.out w10 HB10.out 1 _ rfl
    have x2 := HXA.out w10 HB10.out 2 _ rfl
    have x3 := HXA.out w10 HB10.out 3 _ rfl
    have x4 := HXA.out w10 HB10.out 4 _ rfl
    have x5 := HXA.out w10 HB10.out 5 _ rfl
    have x6 := HXA.out w10 HB10.out 6 _ rfl
    have y0 := HXB.out w10 HB10.out 0 _ rfl
    have y1 := HXB.out w10 HB10.out 1 _ rfl
    have y2 := HXB.out w10 HB10.out 2 _ rfl
    have y3 := HXB.out w10 HB10.out 3 _ rfl
    have y4 := HXB.out w10 HB10.out 4 _ rfl
    have y5 := HXB.out w10 HB10.out 5 _ rfl
    have y6 := HXB.out w10 HB10.out 6 _ rfl
    have T : ((tB a).toList == (tB b).toList) = true := by rw [text_same ha.out hb.out]; exact hs.out
    have T2 : (tB a).toList = (tB b).toList := by simpa using T
    go_wp2_with fail
    go_ret
    exact ⟨rfl, below_over HBw.out HB10.out⟩

end Go.Proofs.YtnnppdlhmcobcaaDoor
