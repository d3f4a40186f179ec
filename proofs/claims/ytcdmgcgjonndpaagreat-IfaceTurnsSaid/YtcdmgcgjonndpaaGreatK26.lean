/-
  Several texts in one:  ·  ·  ·  · 
-/
import Derived.Test.YtcdmgcgjonndpaaGreatK21
import Derived.Test.YtcdmgcgjonndpaaGreatK25
import Derived.Test.YtcdmgcgjonndpaaGreatK19
import Derived.Test.YtcdmgcgjonndpaaGreatK12
import Derived.Test.YtcdmgcgjonndpaaGreatK04
import Derived.Below
import Derived.Carry
import Derived.ChangeSame
import Derived.WideKeyArgs
import Derived.ProofKit
import Derived.Test.YtcdmgcgjonndpaaGreatRows
import Derived.Lib.SmallJoins
import Derived.OpenShut
import Derived.Test.YtcdmgcgjonndpaaGreatK13
/-  -/
namespace Go.Proofs.YtcdmgcgjonndpaaGreat
open Go Go.RowKit Go.Shelf
open Go.Sort Go.Maps
open M
theorem ev_two {c j : Int} {v : Value} {w : World} (h : EvIs c j v w) : (c = 0 ∧ v = .nilIface) ∨ (c ≠ 0 ∧ ∃ T y, v = .iface T y) := by
 rcases h with h | ⟨h, -, e⟩ | ⟨g, i, b, h, -, -, e, -⟩
 ·exact .inl h
 ·exact .inr ⟨h, _, _, e⟩
 ·exact .inr ⟨h, _, _, e⟩
set_option maxRecDepth 100000 in
set_option maxHeartbeats 32000000 in
theorem ifaceTurns_any (m : Mo) (l : List Value) (pkg : ByteArray) (major : Int) (env : List If) (Ae : Option Addr) (ce : Nat) (a : Int) (w : World) (hv : MoAt w l m) (hcap : CapsAt l m) (hpk : pkg.size ≤ 9223372036854775807) (hE : RowIn ifR w Ae env) (hel : env.length ≤ 9223372036854775807) (ha1 : -9223372036854775808 ≤ a) (ha2 : a ≤ 9223372036854775807) :
  Calls Tryz.prog 4 #[.agg l.toArray, .string pkg, .int .i64 major, .slice Ae env.length ce, .int .i64 a] w fun e w' => e = .returned (.bool true) ∧ Below w.heap.size w w' := by
 have HV := Lib.hid hv
 have HCP := Lib.hid hcap
 have HE := Lib.hid hE
 obtain ⟨Ai, ci, Ad, cd, rfl, -, -, -, -, -⟩ := hv
 clear hcap hE
 obtain ⟨nd, hnd⟩ : ∃ nd, nd = m.decs.length := ⟨_, rfl⟩
 have HND := Lib.hid hnd
 obtain ⟨ne, hne⟩ : ∃ ne, ne = env.length := ⟨_, rfl⟩
 have HNE := Lib.hid hne
 rw [← hnd, ← hne]
 obtain ⟨w0, hw0⟩ : ∃ w0, w0 = w.alloc (.cells #[.string m.name, .slice Ai m.imps.length ci, .slice Ad nd cd] 33) := ⟨_, rfl⟩
 have HB0 : Hid (Below w.heap.size w w0) := Lib.hid (by rw [hw0]; exact below_new (Below.refl _ _) _)
 have HX00 : Hid (∀ w', Below w0.heap.size w0 w' → ∀ i v, (#[.string m.name, .slice Ai m.imps.length ci, .slice Ad nd cd] : Array Value)[i]? = some v → w'.cell? ⟨w.heap.size, i, none⟩ = some v) := Lib.hid (fun w' hb i v hv => by
  have h1 : w0.heap[w.heap.size]? = some (.cells #[.string m.name, .slice Ai m.imps.length ci, .slice Ad nd cd] 33 (0, 0)) := by rw [hw0]; exact heap_alloc_new w _
  rw [(bcell hb).1 _ _ (Array.getElem?_eq_some_iff.1 h1).1, Lib.cell_of_heap h1]; exact hv)
 have HV00 : Hid (∀ w', Below w0.heap.size w0 w' → MoAt w' [.string m.name, .slice Ai m.imps.length ci, .slice Ad nd cd] m) := Lib.hid (fun w' hb => by rw [hnd]; exact HV.out.below (below_over HB0.out hb))
 have HE00 : Hid (∀ w', Below w0.heap.size w0 w' → RowIn ifR w' Ae env) := Lib.hid (fun w' hb => HE.out.below (below_over HB0.out hb))
 have HWB := Lib.hid hw0
 clear hw0 HV HE HCP hnd hne
 go_enter Tryz.func4, Tryz.ntmps4
 go_wp2_with fail
 rw [← HWB.out]
 refine (up10_any _).mono ?_; rintro e w1 ⟨rfl, hb1⟩
 have HB1 := Lib.hid hb1
 clear hb1
 have x0 := HX00.out w1 HB1.out 0 _ rfl
 have x1 := HX00.out w1 HB1.out 1 _ rfl
 have x2 := HX00.out w1 HB1.out 2 _ rfl
 go_wp2_with fail
 refine (rfew6_any m _ _ (HV00.out _ HB1.out)).mono ?_; rintro e w2 ⟨rfl, hb2⟩
 have HB2 := Lib.hid (below_over HB1.out hb2)
 clear x0 x1 x2 hb2
 obtain ⟨qe, hqe⟩ : ∃ q, q = fewE env := ⟨_, rfl⟩
 have CF0 := rfew8_any Ae ce env w2 (HE00.out _ HB2.out) hel
 rw [← hqe, ← HNE.out] at CF0
 have CF := Lib.hid CF0
 clear CF0 hqe
 obtain ⟨qf, hqf⟩ : ∃ q, q = fewM m := ⟨_, rfl⟩
 rw [← hqf]
 have HQF := Lib.hid hqf
 clear hqf
 go_wp2_with fail
 refine CF.out.mono ?_; rintro e w3 ⟨rfl, hb3⟩
 have HB3 := Lib.hid (below_over HB2.out hb3)
 clear hb3 CF
 have x2 := HX00.out w3 HB3.out 2 _ rfl
 cases qf with
 | false =>
  go_wp2_with fail
  go_ret
  exact ⟨rfl, below_over HB0.out HB3.out⟩
 | true =>
 cases qe with
 | false =>
  go_wp2_with fail
  go_ret
  exact ⟨rfl, below_over HB0.out HB3.out⟩
 | true =>
 by_cases h500 : pkg.size ≤ 500
 rotate_left
 ·have hg1 : decide ((500 : Int) < (pkg.size : Int)) = true := by simp; omega
  go_wp2_with fail
  go_ret
  exact ⟨rfl, below_over HB0.out HB3.out⟩
 have hg1 : decide ((500 : Int) < (pkg.size : Int)) = false := by simp; omega
 by_cases hne : nd = 0
 ·have he0 : ((nd : Int) == 0) = true := by rw [hne]; rfl
  clear hne
  go_wp2_with fail
  go_ret
  exact ⟨rfl, below_over HB0.out HB3.out⟩
 have he0 : ((nd : Int) == 0) = false := by simp; exact hne
 have HD := Lib.hid (few7 HQF.out.symm).2.2
 have hI100 := (few7 HQF.out.symm).1
 have hD100 := (few7 HQF.out.symm).2.1
 have hnd100 : nd ≤ 100 := by rw [HND.out]; exact hD100
 go_upto_region 6 with fail
 clear x2 he0 hg1
 have x0 := HX00.out w3 HB3.out 0 _ rfl
 have x1 := HX00.out w3 HB3.out 1 _ rfl
 have x2 := HX00.out w3 HB3.out 2 _ rfl
 go_wp2_with fail
 refine (copy7_any m _ _ (HV00.out _ HB3.out) (by omega) (by omega) HD.out).mono ?_; rintro e w4 ⟨lw, rfl, hO, hOc, hb4⟩
 have HB4 := Lib.hid (below_over HB3.out hb4)
 have HO := Lib.hid hO
 clear x0 x1 x2 hb4
 obtain ⟨Qi, qi, Qd, qd, rfl, -⟩ := hO
 obtain ⟨w5, hw5⟩ : ∃ w5, w5 = w4.alloc (.cells #[.string m.name, .slice Qi m.imps.length qi, .slice Qd m.decs.length qd] 33) := ⟨_, rfl⟩
 have B5 : Below w4.heap.size w4 w5 := by rw [hw5]; exact below_new (Below.refl _ _) _
 have Y5 : w5.heap[w4.heap.size]? = some (.cells #[.string m.name, .slice Qi m.imps.length qi, .slice Qd m.decs.length qd] 33 (0, 0)) := by rw [hw5]; exact heap_alloc_new w4 _
 have s5 : w4.heap.size < w5.heap.size := by rw [hw5]; simp
 have HB5 := Lib.hid (below_over HB4.out B5)
 have HY5 : Hid (∀ wx, Below w5.heap.size w5 wx → wx.heap[w4.heap.size]? = some (.cells #[.string m.name, .slice Qi m.imps.length qi, .slice Qd m.decs.length qd] 33 (0, 0))) := Lib.hid (fun wx hb => (hb.block _ s5).trans Y5)
 have HO5 : Hid (∀ wx, Below w5.heap.size w5 wx → MoAt wx [.string m.name, .slice Qi m.imps.length qi, .slice Qd m.decs.length qd] m) := Lib.hid (fun wx hb => HO.out.below (below_over B5 hb))
 have BC0 := build10_any m pkg major env Qi qi Qd qd Ae ce w5 (HO5.out w5 (Below.refl _ _)) hOc hpk (HE00.out w5 HB5.out) hel (fun d hd => (HD.out d hd).1)
 rw [← HNE.out] at BC0
 have BC := Lib.hid BC0
 have HW5 := Lib.hid hw5
 have y0 := Lib.cell_of_heap Y5 0
 have y1 := Lib.cell_of_heap Y5 1
 have y2 := Lib.cell_of_heap Y5 2
 simp at y0 y1 y2
 clear hw5 B5 Y5 s5 hOc BC0
 go_upto_region 7 with fail
 rw [← HW5.out]
 clear HW5
 go_wp2_with fail
 refine BC.out.mono ?_; rintro e w6 ⟨c, j, x, lx, v, hbd, rfl, hev, hif, hb6⟩
 have HBD := Lib.hid hbd
 have HEV := Lib.hid (ev_two hev)
 have HIF := Lib.hid hif
 obtain ⟨Xt, xt, Xv, xv, rfl, -⟩ := hif
 have HB6 := Lib.hid hb6
 obtain ⟨W6, hW6⟩ : ∃ W6, W6 = w6.alloc (.cells #[.string x.pkg, .int .i64 x.major, .string x.mod, .slice Xt x.types.length xt, .slice Xv x.vals.length xv] 24) := ⟨_, rfl⟩
 have B6 : Below w6.heap.size w6 W6 := by rw [hW6]; exact below_new (Below.refl _ _) _
 have Z6 : W6.heap[w6.heap.size]? = some (.cells #[.string x.pkg, .int .i64 x.major, .string x.mod, .slice Xt x.types.length xt, .slice Xv x.vals.length xv] 24 (0, 0)) := by rw [hW6]; exact heap_alloc_new w6 _
 have s6 : w6.heap.size < W6.heap.size := by rw [hW6]; simp
 have HB56 := Lib.hid (below_over hb6 B6)
 have HB06 := Lib.hid (below_over HB5.out HB56.out)
 have HBB := Lib.hid (below_over HB0.out HB06.out)
 have HZX : Hid (∀ wx, Below W6.heap.size W6 wx → wx.heap[w6.heap.size]? = some (.cells #[.string x.pkg, .int .i64 x.major, .string x.mod, .slice Xt x.types.length xt, .slice Xv x.vals.length xv] 24 (0, 0))) := Lib.hid (fun wx hb => (hb.block _ s6).trans Z6)
 have HIX : Hid (∀ wx, Below W6.heap.size W6 wx → ifE wx [.string x.pkg, .int .i64 x.major, .string x.mod, .slice Xt x.types.length xt, .slice Xv x.vals.length xv] x) := Lib.hid (fun wx hb => ifR.keep _ _ _ _ HIF.out (below_over B6 hb))
 have HX : Hid (∀ w', Below W6.heap.size W6 w' → ∀ i v, (#[.string m.name, .slice Ai m.imps.length ci, .slice Ad nd cd] : Array Value)[i]? = some v → w'.cell? ⟨w.heap.size, i, none⟩ = some v) := Lib.hid (fun w' hb => HX00.out w' (below_over HB06.out hb))
 have HV0 : Hid (∀ w', Below W6.heap.size W6 w' → MoAt w' [.string m.name, .slice Ai m.imps.length ci, .slice Ad nd cd] m) := Lib.hid (fun w' hb => HV00.out w' (below_over HB06.out hb))
 have HE0 : Hid (∀ w', Below W6.heap.size W6 w' → RowIn ifR w' Ae env) := Lib.hid (fun w' hb => HE00.out w' (below_over HB06.out hb))
 have SM := Lib.hid (same6_any m _ _ W6 (HO5.out W6 HB56.out) (HV0.out W6 (Below.refl _ _)))
 have Q6 := HY5.out W6 HB56.out
 have HW6 := Lib.hid hW6
 clear y0 y1 y2 hbd hev hb6 B6 Z6 s6 hW6 BC
 go_upto_region 8 with fail
 rw [← HW6.out]
 clear HW6
 have y0 := Lib.cell_of_heap Q6 0
 have y1 := Lib.cell_of_heap Q6 1
 have y2 := Lib.cell_of_heap Q6 2
 simp at y0 y1 y2
 have x0 := HX.out W6 (Below.refl _ _) 0 _ rfl
 have x1 := HX.out W6 (Below.refl _ _) 1 _ rfl
 have x2 := HX.out W6 (Below.refl _ _) 2 _ rfl
 clear Q6
 go_wp2_with fail
 refine SM.out.mono ?_; rintro e wq ⟨rfl, hbq⟩
 have HBQ := Lib.hid hbq
 clear y0 y1 y2 x0 x1 x2 hbq SM
 go_upto_region 10 with fail
 by_cases ha : a < 0
 ·obtain ⟨z, hz⟩ : ∃ z : Nat, -(a + 1) = (z : Int) := ⟨(-(a + 1)).toNat, by omega⟩
  have hw1 : IntKind.i64.wrap (a + 1) = a + 1 := IntWalk.i64_in _ (by omega)
  have hw2 : IntKind.i64.wrap (-(a + 1)) = (z : Int) := by rw [hz]; exact IntWalk.i64_in _ (by omega)
  obtain ⟨k, hk⟩ : ∃ k, z % nd = k := ⟨_, rfl⟩
  have hkn : k < nd := by rw [← hk]; exact Nat.mod_lt _ (by omega)
  go_upto_region 12 with fail
  clear hw1 hw2 ha
  have hrem : (z : Int).tmod (nd : Int) = (k : Int) := by rw [← Int.ofNat_tmod, hk]
  have hn0 : ¬ nd = 0 := hne
  have hz0 : ¬ (z : Int) < 0 := by omega
  have x0 := HX.out wq HBQ.out 0 _ rfl
  have x1 := HX.out wq HBQ.out 1 _ rfl
  have x2 := HX.out wq HBQ.out 2 _ rfl
  go_upto_region 13 with fail
  go_wp2_with fail
  refine (copy7_any m _ _ (HV0.out _ HBQ.out) (by omega) (by omega) HD.out).mono ?_; rintro e u3 ⟨lo, rfl, hO, hOc, hb3⟩
  have HB3 := Lib.hid (below_over HBQ.out hb3)
  clear x0 x1 x2 hb3 hrem hn0 hz0
  obtain ⟨Oi, oi, Od, od, rfl, zO1, zO2, zO3, hOI, hOD⟩ := hO
  rw [← HND.out]
  obtain ⟨g, o, rfl⟩ : ∃ g o, Od = some ⟨g, o, none⟩ := by
   obtain ⟨d, hd⟩ : ∃ d, m.decs[0]? = some d := ⟨_, List.getElem?_eq_getElem (by rw [← HND.out]; omega)⟩
   obtain ⟨g, o, l, e, -⟩ := hOD 0 d hd
   exact ⟨g, o, e⟩
  obtain ⟨C, hCl, hC9, hCE, hCc⟩ := hOD.lists (by decide)
  obtain ⟨g0, hg0⟩ : ∃ g0, g0 = u3.heap.size := ⟨_, rfl⟩
  have hgl : g < g0 := by
   obtain ⟨d, hd⟩ : ∃ d, m.decs[0]? = some d := ⟨_, List.getElem?_eq_getElem (by rw [← HND.out]; omega)⟩
   obtain ⟨g', o', l, e, hg, -⟩ := hOD 0 d hd
   cases e
   rw [hg0]; exact hg
  have hcaps := hOc Oi oi (some ⟨g, o, none⟩) od rfl
  have hod : nd ≤ od := by rw [HND.out]; exact hcaps.2
  have HCI : Hid (m.imps.length ≤ oi) := Lib.hid hcaps.1
  obtain ⟨u4, hw4⟩ : ∃ u4, u4 = u3.alloc (.cells #[.string m.name, .slice Oi m.imps.length oi, .slice (some ⟨g, o, none⟩) nd od] 33) := ⟨_, rfl⟩
  have hb4 : Below u3.heap.size u3 u4 := by rw [hw4]; exact below_new (Below.refl _ _) _
  have X4 : u4.heap[g0]? = some (.cells #[.string m.name, .slice Oi m.imps.length oi, .slice (some ⟨g, o, none⟩) nd od] 33 (0, 0)) := by rw [hw4, hg0]; exact heap_alloc_new u3 _
  have s4 : u4.heap.size = g0 + 1 := by rw [hw4, hg0]; simp
  have HY4 := Lib.hid X4
  have HB4 : Hid (Below u3.heap.size u3 u4) := Lib.hid hb4
  have HW4 := Lib.hid hw4
  have HOI := Lib.hid hOI
  have HG0' := Lib.hid hg0
  have HCE := Lib.hid hCE
  have HCc := Lib.hid hCc
  have HC9 := Lib.hid hC9
  have HCl := Lib.hid hCl
  have HS4 := Lib.hid s4
  have hk1 : (k : Int) ≤ nd := by omega
  have hk2 : (0 : Int) ≤ k := by omega
  have hk3 : (nd : Int) ≤ od := by omega
  have hk4 : k ≤ nd := by omega
  have hk5 : k ≤ od := by omega
  have hk6 : ¬ od = k := by omega
  clear hw4 hb4 X4 s4 hOI hOD hOc hcaps hg0 hCE hCc hC9 hCl
  go_upto_region 14 with fail
  rw [← HW4.out]
  have hl4 : g0 < u4.heap.size := by rw [HS4.out]; exact Nat.lt_succ_self _
  rw [← HG0'.out]
  have KEEP : Hid (∀ wx : World, Below u4.heap.size u4 wx → wx.cell? ⟨g0, 2, none⟩ = some (.slice (some ⟨g, o, none⟩) nd od)) := Lib.hid (fun wx hb => (hb.cell (p := ⟨g0, 2, none⟩) hl4).trans (Lib.cell_of_heap HY4.out 2))
  have hH0 := KEEP.out u4.drew (Below.drew (Below.refl _ _))
  refine AnyX.start (fun wx => wx.cell? ⟨g0, 2, none⟩ = some (.slice (some ⟨g, o, none⟩) nd od)) (fun k => decide (10 ≤ k)) (by kernel_rfl) ?_
  refine AnyX.move (i := 1) (v := ?_) rfl (by kernel_rfl) (by kernel_rfl) (by kernel_rfl) (by kernel_rfl) (fun _ _ _ h => h) (Or.inl ⟨by rfl, ?_⟩) ?_
  rotate_left
  ·(intro wS _; go_simp; try with_reducible rfl)
  simp only [List.getElem_toArray, List.getElem_cons_succ, List.getElem_cons_zero]
  simp only [Act.put, List.setIfInBounds_toArray]
  simp only [List.set_cons_zero, List.set_cons_succ]
  refine AnyX.take (i := 2) (v := ?_) rfl (by kernel_rfl) (by kernel_rfl) (by kernel_rfl) (by kernel_rfl) (by kernel_rfl) (fun _ _ _ h => h) hH0 (Or.inl ⟨by rfl, ?_⟩) ?_
  rotate_left
  ·(intro wS hS; (try obtain c0 := hS); go_simp; try with_reducible rfl)
  simp only [List.getElem_toArray, List.getElem_cons_succ, List.getElem_cons_zero]
  simp only [Act.put, List.setIfInBounds_toArray]
  simp only [List.set_cons_zero, List.set_cons_succ]
  refine AnyX.move (i := 3) (v := ?_) rfl (by kernel_rfl) (by kernel_rfl) (by kernel_rfl) (by kernel_rfl) (fun _ _ _ h => h) (Or.inl ⟨by rfl, ?_⟩) ?_
  rotate_left
  ·(intro wS _; go_simp; try with_reducible rfl)
  simp only [List.getElem_toArray, List.getElem_cons_succ, List.getElem_cons_zero]
  simp only [Act.put, List.setIfInBounds_toArray]
  simp only [List.set_cons_zero, List.set_cons_succ]
  refine AnyX.move (i := 4) (v := ?_) rfl (by kernel_rfl) (by kernel_rfl) (by kernel_rfl) (by kernel_rfl) (fun _ _ _ h => h) (Or.inl ⟨by rfl, ?_⟩) ?_
  rotate_left
  ·(intro wS _; go_simp; try with_reducible rfl)
  simp only [List.getElem_toArray, List.getElem_cons_succ, List.getElem_cons_zero]
  simp only [Act.put, List.setIfInBounds_toArray]
  simp only [List.set_cons_zero, List.set_cons_succ]
  refine AnyX.move (i := 6) (v := ?_) rfl (by kernel_rfl) (by kernel_rfl) (by kernel_rfl) (by kernel_rfl) (fun _ _ _ h => h) (Or.inl ⟨by rfl, ?_⟩) ?_
  rotate_left
  ·(intro wS _; go_simp; try with_reducible rfl)
  simp only [List.getElem_toArray, List.getElem_cons_succ, List.getElem_cons_zero]
  simp only [Act.put, List.setIfInBounds_toArray]
  simp only [List.set_cons_zero, List.set_cons_succ]
  refine AnyX.take (i := 7) (v := ?_) rfl (by kernel_rfl) (by kernel_rfl) (by kernel_rfl) (by kernel_rfl) (by kernel_rfl) (fun _ _ _ h => h) hH0 (Or.inl ⟨by rfl, ?_⟩) ?_
  rotate_left
  ·(intro wS hS; (try obtain c0 := hS); go_simp; try with_reducible rfl)
  simp only [List.getElem_toArray, List.getElem_cons_succ, List.getElem_cons_zero]
  simp only [Act.put, List.setIfInBounds_toArray]
  simp only [List.set_cons_zero, List.set_cons_succ]
  refine AnyX.move (i := 8) (v := ?_) rfl (by kernel_rfl) (by kernel_rfl) (by kernel_rfl) (by kernel_rfl) (fun _ _ _ h => h) (Or.inl ⟨by rfl, ?_⟩) ?_
  rotate_left
  ·(intro wS _; go_simp; try with_reducible rfl)
  simp only [List.getElem_toArray, List.getElem_cons_succ, List.getElem_cons_zero]
  simp only [Act.put, List.setIfInBounds_toArray]
  simp only [List.set_cons_zero, List.set_cons_succ]
  refine AnyX.move (i := 9) (v := ?_) rfl (by kernel_rfl) (by kernel_rfl) (by kernel_rfl) (by kernel_rfl) (fun _ _ _ h => h) (Or.inl ⟨by rfl, ?_⟩) ?_
  rotate_left
  ·(intro wS _; go_simp; try with_reducible rfl)
  simp only [List.getElem_toArray, List.getElem_cons_succ, List.getElem_cons_zero]
  simp only [Act.put, List.setIfInBounds_toArray]
  simp only [List.set_cons_zero, List.set_cons_succ]
  clear hH0
  obtain ⟨inf, hi1, hy0, hy1, hy2⟩ := info_parts dec_info
  have own0 : (u4.drew.alloc (.cells #[] 47)).ownsRow u4.heap.size 47 9 (.slice (some ⟨u4.heap.size, 0, none⟩) 0 0) 0 [] := World.ownsRow_lit (base := u4.heap.size) (e := 47) (size := 9) u4.drew #[] 0 (Nat.le_refl _) (by decide) rfl
  have hlCd : (C.drop k).flatten.length = (nd - k) * 9 := by rw [flatC_len _ (fun l hl => HC9.out l (List.mem_of_mem_drop hl)), List.length_drop, HCl.out, ← HND.out]; rfl
  have hlCt : (C.take k).flatten.length = k * 9 := by rw [flatC_len _ (fun l hl => HC9.out l (List.mem_of_mem_take hl)), List.length_take, HCl.out, ← HND.out, Nat.min_eq_left hk4]; rfl
  have hcell : ∀ wx : World, Below u4.heap.size u4 wx → ∀ j u, C.flatten[j]? = some u → wx.cell? ⟨g, o + j, none⟩ = some u := fun wx hb j u hu => by
   have h3 := HCc.out j u hu
   have hb' : Below u3.heap.size u3 wx := below_over HB4.out hb
   exact (hb'.cell (p := ⟨g, o + j, none⟩) (by rw [← HG0'.out]; exact hgl)).trans h3
  have hone : ∀ u ∈ C.flatten, u.oneCell' = true := fun u hu => by
   obtain ⟨l, hl, hu⟩ := List.mem_flatten.1 hu
   obtain ⟨i, hi⟩ := List.mem_iff_getElem?.1 hl
   have hil := (List.getElem?_eq_some_iff.1 hi).1
   rw [HCl.out] at hil
   exact de_one (HCE.out i l _ hi (List.getElem?_eq_getElem hil)) u hu
  refine AnyX.go 0 (by kernel_rfl) rfl rfl (fun K hK => ?_)
  simp only [List.getElem_toArray, List.getElem_cons_succ, List.getElem_cons_zero]
  go_simp
  refine hK.out _ _ (fun hoff _ => KEEP.out _ (below_new (Below.drew (Below.refl _ _)) _)) ?_
  clear hK
  try simp only [Act.put, List.setIfInBounds_toArray]
  try simp only [List.set_cons_zero, List.set_cons_succ]
  refine AnyX.go 5 (by kernel_rfl) rfl rfl (fun K hK => ?_)
  simp only [List.getElem_toArray, List.getElem_cons_succ, List.getElem_cons_zero]
  refine wp_append_own _ (.tmp 70) (.tmp 74) 31 rfl u4.heap.size 47 inf _ 9 136 Tryz.underlying31 hi1 hy0 hy1 hy2 (by rfl) (Nat.zero_lt_succ 8) (.slice (some ⟨u4.heap.size, 0, none⟩) 0 0) 0 [] rfl own0 _ (nd - k) _ (C.drop k).flatten rfl hlCd (fun j u hu => ?_) (fun u hu => ?_) ?_ ?_ ?_ ?_
  ·rw [flat_drop (k := 9) HC9.out k (by rw [HCl.out, ← HND.out]; exact hk4)] at hu
   have := hcell _ (below_new (Below.drew (Below.refl _ _)) (.cells #[] 47)) _ _ hu
   rw [← Nat.add_assoc] at this
   rw [WideShapes.add_plain]
   exact this
  ·obtain ⟨l, hl, hu⟩ := List.mem_flatten.1 hu
   exact hone u (List.mem_flatten.2 ⟨l, List.mem_of_mem_drop hl, hu⟩)
  ·unfold maxLen; omega
  ·omega
  ·simp
  intro v5 u5 hown5 hgrow5 hat5
  rw [Nat.zero_add, List.nil_append] at hown5
  have hb5 : Below u4.heap.size u4 u5 := (below_new (Below.drew (Below.refl _ _)) (.cells #[] 47)).trans ⟨hgrow5.os, hgrow5.tape, hgrow5.output, hgrow5.size, fun b hb => hgrow5.block b (by simp; omega) (by simp [Value.ownBlock]; omega)⟩
  have HB5 := Lib.hid hb5
  have hlow5 : ∀ b, v5.ownBlock = some b → u4.heap.size ≤ b := fun b e => (hown5.lt b e).1
  clear hgrow5 hat5 own0 hb5
  refine hK.out _ _ (fun hoff _ => KEEP.out _ HB5.out) ?_
  clear hK
  try simp only [Act.put, List.setIfInBounds_toArray]
  try simp only [List.set_cons_zero, List.set_cons_succ]
  refine AnyX.go 10 (by kernel_rfl) rfl rfl (fun K hK => ?_)
  simp only [List.getElem_toArray, List.getElem_cons_succ, List.getElem_cons_zero]
  refine wp_append_own _ (.tmp 75) (.tmp 79) 31 rfl u4.heap.size 47 inf _ 9 136 Tryz.underlying31 hi1 hy0 hy1 hy2 (by rfl) (Nat.zero_lt_succ 8) v5 (nd - k) _ rfl hown5 _ k _ (C.take k).flatten rfl hlCt (fun j u hu => ?_) (fun u hu => ?_) ?_ ?_ ?_ ?_
  ·have := hcell _ HB5.out _ _ (flat_take k j u hu)
   rw [WideShapes.add_plain]
   exact this
  ·obtain ⟨l, hl, hu⟩ := List.mem_flatten.1 hu
   exact hone u (List.mem_flatten.2 ⟨l, List.mem_of_mem_take hl, hu⟩)
  ·unfold maxLen; omega
  ·omega
  ·exact HB5.out.size
  intro v6 u6 hown6 hgrow6 hat6
  rw [show nd - k + k = nd by omega, ← List.flatten_append] at hown6
  have HB6 : Hid (Below u4.heap.size u4 u6) := Lib.hid (HB5.out.trans ⟨hgrow6.os, hgrow6.tape, hgrow6.output, hgrow6.size, fun b hb => hgrow6.block b (by have := HB5.out.size; omega) (fun e => by have := hlow5 b e.symm; omega)⟩)
  have HO6 := Lib.hid hown6
  clear hgrow6 hat6 hown5 hown6 hlow5 hone hcell hlCd hlCt hi1 hy0 hy1 hy2
  obtain ⟨A6, c6, rfl⟩ := own_slice HO6.out
  refine hK.out _ _ (fun hoff _ => absurd hoff (by decide)) ?_
  clear hK
  try simp only [Act.put, List.setIfInBounds_toArray]
  try simp only [List.set_cons_zero, List.set_cons_succ]
  have X6 := (HB6.out.block _ hl4).trans HY4.out
  have z6 := Lib.cell_of_heap X6 2
  have y6 := Lib.frozen_of_heap X6 2
  simp at z6
  refine AnyX.move (i := 11) (v := ?_) rfl (by kernel_rfl) (by kernel_rfl) (by kernel_rfl) (by kernel_rfl) (fun _ _ _ h => h) (Or.inl ⟨by rfl, ?_⟩) ?_
  rotate_left
  ·(intro wS _; go_simp; try with_reducible rfl)
  simp only [List.getElem_toArray, List.getElem_cons_succ, List.getElem_cons_zero]
  simp only [Act.put, List.setIfInBounds_toArray]
  simp only [List.set_cons_zero, List.set_cons_succ]
  refine AnyX.go 12 (by kernel_rfl) rfl rfl (fun K hK => ?_)
  simp only [List.getElem_toArray, List.getElem_cons_succ, List.getElem_cons_zero]
  go_simp
  obtain ⟨u7, hw7⟩ : ∃ u7, u7 = u6.setCell ⟨g0, 2, none⟩ (.slice A6 nd c6) := ⟨_, rfl⟩
  have ot : ∀ b, b ≠ g0 → u7.heap[b]? = u6.heap[b]? := fun b hb => by rw [hw7]; exact Below.heap_setCell _ _ _ _ (by show b ≠ g0; exact hb)
  have HB7 : Hid (Below u3.heap.size u3 u7) := Lib.hid (by rw [hw7]; exact (below_over HB4.out HB6.out).setCell (by show u3.heap.size ≤ g0; rw [HG0'.out]; exact Nat.le_refl _) _)
  have HY7 : Hid (u7.heap[g0]? = some (.cells #[.string m.name, .slice Oi m.imps.length oi, .slice A6 nd c6] 33 (0, 0))) := Lib.hid (by
   have := Joins.block_setCell (i := 2) X6 (.slice A6 nd c6)
   rw [hw7]; simpa using this)
  have HNM : Hid (MoAt u7 [.string m.name, .slice Oi m.imps.length oi, .slice A6 nd c6] (turned m k)) := Lib.hid (by
   have hlt : (turned m k).decs.length = nd := by rw [turned_len m k (by rw [← HND.out]; exact hk4), ← HND.out]
   have own7 : u7.ownsRow u4.heap.size 47 9 (.slice A6 nd c6) nd (C.drop k ++ C.take k).flatten := own_from HO6.out (fun b hb _ => ot b (by have := HS4.out; omega))
   refine ⟨Oi, oi, A6, c6, by rw [hlt]; rfl, zO1, zO2, by rw [hlt]; omega, HOI.out.below HB7.out, ?_⟩
   have := RowIn.of_own (R := deR) (xs := (turned m k).decs) (c := c6) (A := A6) (C := C.drop k ++ C.take k) (by rw [hlt]; exact own7) (by rw [hlt, List.length_append, List.length_drop, List.length_take, HCl.out, ← HND.out]; omega)
    (fun l hl => by rcases List.mem_append.1 hl with h | h; exact HC9.out l (List.mem_of_mem_drop h); exact HC9.out l (List.mem_of_mem_take h)) (fun i l x hl hx => deR.keep _ _ _ _ (pairs_turn HCl.out HCE.out k i l x hl hx) HB7.out)
   exact this)
  have HNC : Hid (CapsAt [.string m.name, .slice Oi m.imps.length oi, .slice A6 nd c6] (turned m k)) := Lib.hid (by
   have hlt : (turned m k).decs.length = nd := by rw [turned_len m k (by rw [← HND.out]; exact hk4), ← HND.out]
   exact CapsAt.of (m := turned m k) HCI.out (by rw [hlt]; exact own_cap HO6.out) hlt.symm)
  rw [← hw7]
  have HB37 : Hid (Below W6.heap.size W6 u7) := Lib.hid (below_over HB3.out HB7.out)
  clear hw7 ot X6 z6 y6 HO6 HB6 HB5 HY4 KEEP
  refine hK.out _ _ (fun hoff _ => absurd hoff (by decide)) ?_
  clear hK
  try simp only [Act.put, List.setIfInBounds_toArray]
  try simp only [List.set_cons_zero, List.set_cons_succ]
  refine AnyX.done (by kernel_rfl) ?_ _
  have hlt : (turned m k).decs.length = nd := by rw [turned_len m k (by rw [← HND.out]; exact hk4), ← HND.out]
  have HTD : ∀ d ∈ (turned m k).decs, many d.typ ≤ 9000 := fun d hd => by
   refine (HD.out d ?_).1
   rcases List.mem_append.1 hd with h | h
   ·exact List.mem_of_mem_drop h
   ·exact List.mem_of_mem_take h
  have BT0 := build10_any (turned m k) pkg major env Oi oi A6 c6 Ae ce u7 (by rw [hlt]; exact HNM.out) (by rw [hlt]; exact HNC.out) hpk (HE0.out u7 HB37.out) hel HTD
  rw [hlt, ← HNE.out] at BT0
  have BT := Lib.hid BT0
  have hl7 : g0 < u7.heap.size := (Array.getElem?_eq_some_iff.1 HY7.out).1
  have y0 := Lib.cell_of_heap HY7.out 0
  have y1 := Lib.cell_of_heap HY7.out 1
  have y2 := Lib.cell_of_heap HY7.out 2
  simp at y0 y1 y2
  have hkd : k < m.decs.length := by rw [← HND.out]; exact hkn
  clear HB7 HB4 HW4 HCE HCc HC9 HCl HS4 HOI HCI BT0 HTD
  go_wp2_with fail
  refine BT.out.mono ?_; rintro e u8 ⟨c2, j2, x2', lx2, v2, hbd2, rfl, hev2, hif2, hb8⟩
  have HB8 := Lib.hid (below_over HB37.out hb8)
  have HBD2 := Lib.hid hbd2
  have HEV2 := Lib.hid (ev_two hev2)
  have HIF2 := Lib.hid hif2
  obtain ⟨Bt, bt, Bv, bv, rfl, -⟩ := hif2
  obtain ⟨u9, hu9⟩ : ∃ u9, u9 = u8.alloc (.cells #[.string x2'.pkg, .int .i64 x2'.major, .string x2'.mod, .slice Bt x2'.types.length bt, .slice Bv x2'.vals.length bv] 24) := ⟨_, rfl⟩
  have B9 : Below u8.heap.size u8 u9 := by rw [hu9]; exact below_new (Below.refl _ _) _
  have Z9 : u9.heap[u8.heap.size]? = some (.cells #[.string x2'.pkg, .int .i64 x2'.major, .string x2'.mod, .slice Bt x2'.types.length bt, .slice Bv x2'.vals.length bv] 24 (0, 0)) := by rw [hu9]; exact heap_alloc_new u8 _
  have s9 : u8.heap.size < u9.heap.size := by rw [hu9]; simp
  have HB9 := Lib.hid (below_over HB8.out B9)
  have HZ9 : Hid (∀ wx, Below u9.heap.size u9 wx → wx.heap[u8.heap.size]? = some (.cells #[.string x2'.pkg, .int .i64 x2'.major, .string x2'.mod, .slice Bt x2'.types.length bt, .slice Bv x2'.vals.length bv] 24 (0, 0))) := Lib.hid (fun wx hb => (hb.block _ s9).trans Z9)
  have HI9 : Hid (∀ wx, Below u9.heap.size u9 wx → ifE wx [.string x2'.pkg, .int .i64 x2'.major, .string x2'.mod, .slice Bt x2'.types.length bt, .slice Bv x2'.vals.length bv] x2') := Lib.hid (fun wx hb => ifR.keep _ _ _ _ HIF2.out (below_over B9 hb))
  have HU9 := Lib.hid hu9
  have HKD := Lib.hid hkd
  clear y0 y1 y2 hbd2 hev2 hb8 B9 Z9 s9 hu9 hkd BT hlt HNM HNC hl7
  go_upto_region 16 with fail
  rw [← HU9.out]
  clear HU9
  rcases HEV.out with ⟨hc0, rfl⟩ | ⟨hc0, T1, y1, rfl⟩
  ·subst hc0
   rcases HEV2.out with ⟨hc2, rfl⟩ | ⟨hc2, T2, y2, rfl⟩
   rotate_left
   ·exact absurd (bd_turn HKD.out HBD.out HBD2.out).1 hc2
   subst hc2
   obtain rfl := (bd_turn HKD.out HBD.out HBD2.out).2
   have MC := Lib.hid (may10_any x _ u9 (HIX.out u9 HB9.out))
   rw [bd_may HBD.out] at MC
   have RS := Lib.hid (fun (wx : World) (hb : Below u9.heap.size u9 wx) => rsame10_any x x _ _ wx (HIX.out wx (below_over HB9.out hb)) (HI9.out wx hb))
   rw [sameIf_iff.2 (rfl : x = x)] at RS
   have X6 := HZX.out u9 HB9.out
   have x0 := Lib.cell_of_heap X6 0
   have x1 := Lib.cell_of_heap X6 1
   have x2 := Lib.cell_of_heap X6 2
   have x3 := Lib.cell_of_heap X6 3
   have x4 := Lib.cell_of_heap X6 4
   simp at x0 x1 x2 x3 x4
   clear X6
   go_wp2_with fail
   refine MC.out.mono ?_; rintro e u10 ⟨rfl, hb10⟩
   have HB10 := Lib.hid hb10
   have HBA := Lib.hid (below_over HB9.out hb10)
   clear x0 x1 x2 x3 x4 hb10
   have X6 := HZX.out u10 HBA.out
   have Y6 := HZ9.out u10 HB10.out
   have x0 := Lib.cell_of_heap X6 0
   have x1 := Lib.cell_of_heap X6 1
   have x2 := Lib.cell_of_heap X6 2
   have x3 := Lib.cell_of_heap X6 3
   have x4 := Lib.cell_of_heap X6 4
   have y0 := Lib.cell_of_heap Y6 0
   have y1 := Lib.cell_of_heap Y6 1
   have y2 := Lib.cell_of_heap Y6 2
   have y3 := Lib.cell_of_heap Y6 3
   have y4 := Lib.cell_of_heap Y6 4
   simp at x0 x1 x2 x3 x4 y0 y1 y2 y3 y4
   clear X6 Y6
   go_wp2_with fail
   refine (RS.out u10 HB10.out).mono ?_; rintro e u11 ⟨rfl, hb11⟩
   have FIN := Lib.hid (below_over HBB.out (below_over HBA.out hb11))
   clear x0 x1 x2 x3 x4 y0 y1 y2 y3 y4 hb11
   go_wp2_with fail
   go_ret
   exact ⟨rfl, FIN.out⟩
  ·rcases HEV2.out with ⟨hc2, rfl⟩ | ⟨hc2, T2, y2, rfl⟩
   ·subst hc2
    exact absurd (bd_turn_no HKD.out HBD.out HBD2.out) hc0
   have FIN := Lib.hid (below_over HBB.out HB9.out)
   go_wp2_with fail
   go_ret
   exact ⟨rfl, FIN.out⟩
 ·obtain ⟨z, hz⟩ : ∃ z : Nat, a = (z : Int) := ⟨a.toNat, by omega⟩
  subst hz
  obtain ⟨k, hk⟩ : ∃ k, z % nd = k := ⟨_, rfl⟩
  have hkn : k < nd := by rw [← hk]; exact Nat.mod_lt _ (by omega)
  go_upto_region 12 with fail
  clear ha
  have hrem : (z : Int).tmod (nd : Int) = (k : Int) := by rw [← Int.ofNat_tmod, hk]
  have hn0 : ¬ nd = 0 := hne
  have hz0 : ¬ (z : Int) < 0 := by omega
  have x0 := HX.out wq HBQ.out 0 _ rfl
  have x1 := HX.out wq HBQ.out 1 _ rfl
  have x2 := HX.out wq HBQ.out 2 _ rfl
  go_upto_region 13 with fail
  go_wp2_with fail
  refine (copy7_any m _ _ (HV0.out _ HBQ.out) (by omega) (by omega) HD.out).mono ?_; rintro e u3 ⟨lo, rfl, hO, hOc, hb3⟩
  have HB3 := Lib.hid (below_over HBQ.out hb3)
  clear x0 x1 x2 hb3 hrem hn0 hz0
  obtain ⟨Oi, oi, Od, od, rfl, zO1, zO2, zO3, hOI, hOD⟩ := hO
  rw [← HND.out]
  obtain ⟨g, o, rfl⟩ : ∃ g o, Od = some ⟨g, o, none⟩ := by
   obtain ⟨d, hd⟩ : ∃ d, m.decs[0]? = some d := ⟨_, List.getElem?_eq_getElem (by rw [← HND.out]; omega)⟩
   obtain ⟨g, o, l, e, -⟩ := hOD 0 d hd
   exact ⟨g, o, e⟩
  obtain ⟨C, hCl, hC9, hCE, hCc⟩ := hOD.lists (by decide)
  obtain ⟨g0, hg0⟩ : ∃ g0, g0 = u3.heap.size := ⟨_, rfl⟩
  have hgl : g < g0 := by
   obtain ⟨d, hd⟩ : ∃ d, m.decs[0]? = some d := ⟨_, List.getElem?_eq_getElem (by rw [← HND.out]; omega)⟩
   obtain ⟨g', o', l, e, hg, -⟩ := hOD 0 d hd
   cases e
   rw [hg0]; exact hg
  have hcaps := hOc Oi oi (some ⟨g, o, none⟩) od rfl
  have hod : nd ≤ od := by rw [HND.out]; exact hcaps.2
  have HCI : Hid (m.imps.length ≤ oi) := Lib.hid hcaps.1
  obtain ⟨u4, hw4⟩ : ∃ u4, u4 = u3.alloc (.cells #[.string m.name, .slice Oi m.imps.length oi, .slice (some ⟨g, o, none⟩) nd od] 33) := ⟨_, rfl⟩
  have hb4 : Below u3.heap.size u3 u4 := by rw [hw4]; exact below_new (Below.refl _ _) _
  have X4 : u4.heap[g0]? = some (.cells #[.string m.name, .slice Oi m.imps.length oi, .slice (some ⟨g, o, none⟩) nd od] 33 (0, 0)) := by rw [hw4, hg0]; exact heap_alloc_new u3 _
  have s4 : u4.heap.size = g0 + 1 := by rw [hw4, hg0]; simp
  have HY4 := Lib.hid X4
  have HB4 : Hid (Below u3.heap.size u3 u4) := Lib.hid hb4
  have HW4 := Lib.hid hw4
  have HOI := Lib.hid hOI
  have HG0' := Lib.hid hg0
  have HCE := Lib.hid hCE
  have HCc := Lib.hid hCc
  have HC9 := Lib.hid hC9
  have HCl := Lib.hid hCl
  have HS4 := Lib.hid s4
  have hk1 : (k : Int) ≤ nd := by omega
  have hk2 : (0 : Int) ≤ k := by omega
  have hk3 : (nd : Int) ≤ od := by omega
  have hk4 : k ≤ nd := by omega
  have hk5 : k ≤ od := by omega
  have hk6 : ¬ od = k := by omega
  clear hw4 hb4 X4 s4 hOI hOD hOc hcaps hg0 hCE hCc hC9 hCl
  go_upto_region 14 with fail
  rw [← HW4.out]
  have hl4 : g0 < u4.heap.size := by rw [HS4.out]; exact Nat.lt_succ_self _
  rw [← HG0'.out]
  have KEEP : Hid (∀ wx : World, Below u4.heap.size u4 wx → wx.cell? ⟨g0, 2, none⟩ = some (.slice (some ⟨g, o, none⟩) nd od)) := Lib.hid (fun wx hb => (hb.cell (p := ⟨g0, 2, none⟩) hl4).trans (Lib.cell_of_heap HY4.out 2))
  have hH0 := KEEP.out u4.drew (Below.drew (Below.refl _ _))
  refine AnyX.start (fun wx => wx.cell? ⟨g0, 2, none⟩ = some (.slice (some ⟨g, o, none⟩) nd od)) (fun k => decide (10 ≤ k)) (by kernel_rfl) ?_
  refine AnyX.move (i := 1) (v := ?_) rfl (by kernel_rfl) (by kernel_rfl) (by kernel_rfl) (by kernel_rfl) (fun _ _ _ h => h) (Or.inl ⟨by rfl, ?_⟩) ?_
  rotate_left
  ·(intro wS _; go_simp; try with_reducible rfl)
  simp only [List.getElem_toArray, List.getElem_cons_succ, List.getElem_cons_zero]
  simp only [Act.put, List.setIfInBounds_toArray]
  simp only [List.set_cons_zero, List.set_cons_succ]
  refine AnyX.take (i := 2) (v := ?_) rfl (by kernel_rfl) (by kernel_rfl) (by kernel_rfl) (by kernel_rfl) (by kernel_rfl) (fun _ _ _ h => h) hH0 (Or.inl ⟨by rfl, ?_⟩) ?_
  rotate_left
  ·(intro wS hS; (try obtain c0 := hS); go_simp; try with_reducible rfl)
  simp only [List.getElem_toArray, List.getElem_cons_succ, List.getElem_cons_zero]
  simp only [Act.put, List.setIfInBounds_toArray]
  simp only [List.set_cons_zero, List.set_cons_succ]
  refine AnyX.move (i := 3) (v := ?_) rfl (by kernel_rfl) (by kernel_rfl) (by kernel_rfl) (by kernel_rfl) (fun _ _ _ h => h) (Or.inl ⟨by rfl, ?_⟩) ?_
  rotate_left
  ·(intro wS _; go_simp; try with_reducible rfl)
  simp only [List.getElem_toArray, List.getElem_cons_succ, List.getElem_cons_zero]
  simp only [Act.put, List.setIfInBounds_toArray]
  simp only [List.set_cons_zero, List.set_cons_succ]
  refine AnyX.move (i := 4) (v := ?_) rfl (by kernel_rfl) (by kernel_rfl) (by kernel_rfl) (by kernel_rfl) (fun _ _ _ h => h) (Or.inl ⟨by rfl, ?_⟩) ?_
  rotate_left
  ·(intro wS _; go_simp; try with_reducible rfl)
  simp only [List.getElem_toArray, List.getElem_cons_succ, List.getElem_cons_zero]
  simp only [Act.put, List.setIfInBounds_toArray]
  simp only [List.set_cons_zero, List.set_cons_succ]
  refine AnyX.move (i := 6) (v := ?_) rfl (by kernel_rfl) (by kernel_rfl) (by kernel_rfl) (by kernel_rfl) (fun _ _ _ h => h) (Or.inl ⟨by rfl, ?_⟩) ?_
  rotate_left
  ·(intro wS _; go_simp; try with_reducible rfl)
  simp only [List.getElem_toArray, List.getElem_cons_succ, List.getElem_cons_zero]
  simp only [Act.put, List.setIfInBounds_toArray]
  simp only [List.set_cons_zero, List.set_cons_succ]
  refine AnyX.take (i := 7) (v := ?_) rfl (by kernel_rfl) (by kernel_rfl) (by kernel_rfl) (by kernel_rfl) (by kernel_rfl) (fun _ _ _ h => h) hH0 (Or.inl ⟨by rfl, ?_⟩) ?_
  rotate_left
  ·(intro wS hS; (try obtain c0 := hS); go_simp; try with_reducible rfl)
  simp only [List.getElem_toArray, List.getElem_cons_succ, List.getElem_cons_zero]
  simp only [Act.put, List.setIfInBounds_toArray]
  simp only [List.set_cons_zero, List.set_cons_succ]
  refine AnyX.move (i := 8) (v := ?_) rfl (by kernel_rfl) (by kernel_rfl) (by kernel_rfl) (by kernel_rfl) (fun _ _ _ h => h) (Or.inl ⟨by rfl, ?_⟩) ?_
  rotate_left
  ·(intro wS _; go_simp; try with_reducible rfl)
  simp only [List.getElem_toArray, List.getElem_cons_succ, List.getElem_cons_zero]
  simp only [Act.put, List.setIfInBounds_toArray]
  simp only [List.set_cons_zero, List.set_cons_succ]
  refine AnyX.move (i := 9) (v := ?_) rfl (by kernel_rfl) (by kernel_rfl) (by kernel_rfl) (by kernel_rfl) (fun _ _ _ h => h) (Or.inl ⟨by rfl, ?_⟩) ?_
  rotate_left
  ·(intro wS _; go_simp; try with_reducible rfl)
  simp only [List.getElem_toArray, List.getElem_cons_succ, List.getElem_cons_zero]
  simp only [Act.put, List.setIfInBounds_toArray]
  simp only [List.set_cons_zero, List.set_cons_succ]
  clear hH0
  obtain ⟨inf, hi1, hy0, hy1, hy2⟩ := info_parts dec_info
  have own0 : (u4.drew.alloc (.cells #[] 47)).ownsRow u4.heap.size 47 9 (.slice (some ⟨u4.heap.size, 0, none⟩) 0 0) 0 [] := World.ownsRow_lit (base := u4.heap.size) (e := 47) (size := 9) u4.drew #[] 0 (Nat.le_refl _) (by decide) rfl
  have hlCd : (C.drop k).flatten.length = (nd - k) * 9 := by rw [flatC_len _ (fun l hl => HC9.out l (List.mem_of_mem_drop hl)), List.length_drop, HCl.out, ← HND.out]; rfl
  have hlCt : (C.take k).flatten.length = k * 9 := by rw [flatC_len _ (fun l hl => HC9.out l (List.mem_of_mem_take hl)), List.length_take, HCl.out, ← HND.out, Nat.min_eq_left hk4]; rfl
  have hcell : ∀ wx : World, Below u4.heap.size u4 wx → ∀ j u, C.flatten[j]? = some u → wx.cell? ⟨g, o + j, none⟩ = some u := fun wx hb j u hu => by
   have h3 := HCc.out j u hu
   have hb' : Below u3.heap.size u3 wx := below_over HB4.out hb
   exact (hb'.cell (p := ⟨g, o + j, none⟩) (by rw [← HG0'.out]; exact hgl)).trans h3
  have hone : ∀ u ∈ C.flatten, u.oneCell' = true := fun u hu => by
   obtain ⟨l, hl, hu⟩ := List.mem_flatten.1 hu
   obtain ⟨i, hi⟩ := List.mem_iff_getElem?.1 hl
   have hil := (List.getElem?_eq_some_iff.1 hi).1
   rw [HCl.out] at hil
   exact de_one (HCE.out i l _ hi (List.getElem?_eq_getElem hil)) u hu
  refine AnyX.go 0 (by kernel_rfl) rfl rfl (fun K hK => ?_)
  simp only [List.getElem_toArray, List.getElem_cons_succ, List.getElem_cons_zero]
  go_simp
  refine hK.out _ _ (fun hoff _ => KEEP.out _ (below_new (Below.drew (Below.refl _ _)) _)) ?_
  clear hK
  try simp only [Act.put, List.setIfInBounds_toArray]
  try simp only [List.set_cons_zero, List.set_cons_succ]
  refine AnyX.go 5 (by kernel_rfl) rfl rfl (fun K hK => ?_)
  simp only [List.getElem_toArray, List.getElem_cons_succ, List.getElem_cons_zero]
  refine wp_append_own _ (.tmp 70) (.tmp 74) 31 rfl u4.heap.size 47 inf _ 9 136 Tryz.underlying31 hi1 hy0 hy1 hy2 (by rfl) (Nat.zero_lt_succ 8) (.slice (some ⟨u4.heap.size, 0, none⟩) 0 0) 0 [] rfl own0 _ (nd - k) _ (C.drop k).flatten rfl hlCd (fun j u hu => ?_) (fun u hu => ?_) ?_ ?_ ?_ ?_
  ·rw [flat_drop (k := 9) HC9.out k (by rw [HCl.out, ← HND.out]; exact hk4)] at hu
   have := hcell _ (below_new (Below.drew (Below.refl _ _)) (.cells #[] 47)) _ _ hu
   rw [← Nat.add_assoc] at this
   rw [WideShapes.add_plain]
   exact this
  ·obtain ⟨l, hl, hu⟩ := List.mem_flatten.1 hu
   exact hone u (List.mem_flatten.2 ⟨l, List.mem_of_mem_drop hl, hu⟩)
  ·unfold maxLen; omega
  ·omega
  ·simp
  intro v5 u5 hown5 hgrow5 hat5
  rw [Nat.zero_add, List.nil_append] at hown5
  have hb5 : Below u4.heap.size u4 u5 := (below_new (Below.drew (Below.refl _ _)) (.cells #[] 47)).trans ⟨hgrow5.os, hgrow5.tape, hgrow5.output, hgrow5.size, fun b hb => hgrow5.block b (by simp; omega) (by simp [Value.ownBlock]; omega)⟩
  have HB5 := Lib.hid hb5
  have hlow5 : ∀ b, v5.ownBlock = some b → u4.heap.size ≤ b := fun b e => (hown5.lt b e).1
  clear hgrow5 hat5 own0 hb5
  refine hK.out _ _ (fun hoff _ => KEEP.out _ HB5.out) ?_
  clear hK
  try simp only [Act.put, List.setIfInBounds_toArray]
  try simp only [List.set_cons_zero, List.set_cons_succ]
  refine AnyX.go 10 (by kernel_rfl) rfl rfl (fun K hK => ?_)
  simp only [List.getElem_toArray, List.getElem_cons_succ, List.getElem_cons_zero]
  refine wp_append_own _ (.tmp 75) (.tmp 79) 31 rfl u4.heap.size 47 inf _ 9 136 Tryz.underlying31 hi1 hy0 hy1 hy2 (by rfl) (Nat.zero_lt_succ 8) v5 (nd - k) _ rfl hown5 _ k _ (C.take k).flatten rfl hlCt (fun j u hu => ?_) (fun u hu => ?_) ?_ ?_ ?_ ?_
  ·have := hcell _ HB5.out _ _ (flat_take k j u hu)
   rw [WideShapes.add_plain]
   exact this
  ·obtain ⟨l, hl, hu⟩ := List.mem_flatten.1 hu
   exact hone u (List.mem_flatten.2 ⟨l, List.mem_of_mem_take hl, hu⟩)
  ·unfold maxLen; omega
  ·omega
  ·exact HB5.out.size
  intro v6 u6 hown6 hgrow6 hat6
  rw [show nd - k + k = nd by omega, ← List.flatten_append] at hown6
  have HB6 : Hid (Below u4.heap.size u4 u6) := Lib.hid (HB5.out.trans ⟨hgrow6.os, hgrow6.tape, hgrow6.output, hgrow6.size, fun b hb => hgrow6.block b (by have := HB5.out.size; omega) (fun e => by have := hlow5 b e.symm; omega)⟩)
  have HO6 := Lib.hid hown6
  clear hgrow6 hat6 hown5 hown6 hlow5 hone hcell hlCd hlCt hi1 hy0 hy1 hy2
  obtain ⟨A6, c6, rfl⟩ := own_slice HO6.out
  refine hK.out _ _ (fun hoff _ => absurd hoff (by decide)) ?_
  clear hK
  try simp only [Act.put, List.setIfInBounds_toArray]
  try simp only [List.set_cons_zero, List.set_cons_succ]
  have X6 := (HB6.out.block _ hl4).trans HY4.out
  have z6 := Lib.cell_of_heap X6 2
  have y6 := Lib.frozen_of_heap X6 2
  simp at z6
  refine AnyX.move (i := 11) (v := ?_) rfl (by kernel_rfl) (by kernel_rfl) (by kernel_rfl) (by kernel_rfl) (fun _ _ _ h => h) (Or.inl ⟨by rfl, ?_⟩) ?_
  rotate_left
  ·(intro wS _; go_simp; try with_reducible rfl)
  simp only [List.getElem_toArray, List.getElem_cons_succ, List.getElem_cons_zero]
  simp only [Act.put, List.setIfInBounds_toArray]
  simp only [List.set_cons_zero, List.set_cons_succ]
  refine AnyX.go 12 (by kernel_rfl) rfl rfl (fun K hK => ?_)
  simp only [List.getElem_toArray, List.getElem_cons_succ, List.getElem_cons_zero]
  go_simp
  obtain ⟨u7, hw7⟩ : ∃ u7, u7 = u6.setCell ⟨g0, 2, none⟩ (.slice A6 nd c6) := ⟨_, rfl⟩
  have ot : ∀ b, b ≠ g0 → u7.heap[b]? = u6.heap[b]? := fun b hb => by rw [hw7]; exact Below.heap_setCell _ _ _ _ (by show b ≠ g0; exact hb)
  have HB7 : Hid (Below u3.heap.size u3 u7) := Lib.hid (by rw [hw7]; exact (below_over HB4.out HB6.out).setCell (by show u3.heap.size ≤ g0; rw [HG0'.out]; exact Nat.le_refl _) _)
  have HY7 : Hid (u7.heap[g0]? = some (.cells #[.string m.name, .slice Oi m.imps.length oi, .slice A6 nd c6] 33 (0, 0))) := Lib.hid (by
   have := Joins.block_setCell (i := 2) X6 (.slice A6 nd c6)
   rw [hw7]; simpa using this)
  have HNM : Hid (MoAt u7 [.string m.name, .slice Oi m.imps.length oi, .slice A6 nd c6] (turned m k)) := Lib.hid (by
   have hlt : (turned m k).decs.length = nd := by rw [turned_len m k (by rw [← HND.out]; exact hk4), ← HND.out]
   have own7 : u7.ownsRow u4.heap.size 47 9 (.slice A6 nd c6) nd (C.drop k ++ C.take k).flatten := own_from HO6.out (fun b hb _ => ot b (by have := HS4.out; omega))
   refine ⟨Oi, oi, A6, c6, by rw [hlt]; rfl, zO1, zO2, by rw [hlt]; omega, HOI.out.below HB7.out, ?_⟩
   have := RowIn.of_own (R := deR) (xs := (turned m k).decs) (c := c6) (A := A6) (C := C.drop k ++ C.take k) (by rw [hlt]; exact own7) (by rw [hlt, List.length_append, List.length_drop, List.length_take, HCl.out, ← HND.out]; omega)
    (fun l hl => by rcases List.mem_append.1 hl with h | h; exact HC9.out l (List.mem_of_mem_drop h); exact HC9.out l (List.mem_of_mem_take h)) (fun i l x hl hx => deR.keep _ _ _ _ (pairs_turn HCl.out HCE.out k i l x hl hx) HB7.out)
   exact this)
  have HNC : Hid (CapsAt [.string m.name, .slice Oi m.imps.length oi, .slice A6 nd c6] (turned m k)) := Lib.hid (by
   have hlt : (turned m k).decs.length = nd := by rw [turned_len m k (by rw [← HND.out]; exact hk4), ← HND.out]
   exact CapsAt.of (m := turned m k) HCI.out (by rw [hlt]; exact own_cap HO6.out) hlt.symm)
  rw [← hw7]
  have HB37 : Hid (Below W6.heap.size W6 u7) := Lib.hid (below_over HB3.out HB7.out)
  clear hw7 ot X6 z6 y6 HO6 HB6 HB5 HY4 KEEP
  refine hK.out _ _ (fun hoff _ => absurd hoff (by decide)) ?_
  clear hK
  try simp only [Act.put, List.setIfInBounds_toArray]
  try simp only [List.set_cons_zero, List.set_cons_succ]
  refine AnyX.done (by kernel_rfl) ?_ _
  have hlt : (turned m k).decs.length = nd := by rw [turned_len m k (by rw [← HND.out]; exact hk4), ← HND.out]
  have HTD : ∀ d ∈ (turned m k).decs, many d.typ ≤ 9000 := fun d hd => by
   refine (HD.out d ?_).1
   rcases List.mem_append.1 hd with h | h
   ·exact List.mem_of_mem_drop h
   ·exact List.mem_of_mem_take h
  have BT0 := build10_any (turned m k) pkg major env Oi oi A6 c6 Ae ce u7 (by rw [hlt]; exact HNM.out) (by rw [hlt]; exact HNC.out) hpk (HE0.out u7 HB37.out) hel HTD
  rw [hlt, ← HNE.out] at BT0
  have BT := Lib.hid BT0
  have hl7 : g0 < u7.heap.size := (Array.getElem?_eq_some_iff.1 HY7.out).1
  have y0 := Lib.cell_of_heap HY7.out 0
  have y1 := Lib.cell_of_heap HY7.out 1
  have y2 := Lib.cell_of_heap HY7.out 2
  simp at y0 y1 y2
  have hkd : k < m.decs.length := by rw [← HND.out]; exact hkn
  clear HB7 HB4 HW4 HCE HCc HC9 HCl HS4 HOI HCI BT0 HTD
  go_wp2_with fail
  refine BT.out.mono ?_; rintro e u8 ⟨c2, j2, x2', lx2, v2, hbd2, rfl, hev2, hif2, hb8⟩
  have HB8 := Lib.hid (below_over HB37.out hb8)
  have HBD2 := Lib.hid hbd2
  have HEV2 := Lib.hid (ev_two hev2)
  have HIF2 := Lib.hid hif2
  obtain ⟨Bt, bt, Bv, bv, rfl, -⟩ := hif2
  obtain ⟨u9, hu9⟩ : ∃ u9, u9 = u8.alloc (.cells #[.string x2'.pkg, .int .i64 x2'.major, .string x2'.mod, .slice Bt x2'.types.length bt, .slice Bv x2'.vals.length bv] 24) := ⟨_, rfl⟩
  have B9 : Below u8.heap.size u8 u9 := by rw [hu9]; exact below_new (Below.refl _ _) _
  have Z9 : u9.heap[u8.heap.size]? = some (.cells #[.string x2'.pkg, .int .i64 x2'.major, .string x2'.mod, .slice Bt x2'.types.length bt, .slice Bv x2'.vals.length bv] 24 (0, 0)) := by rw [hu9]; exact heap_alloc_new u8 _
  have s9 : u8.heap.size < u9.heap.size := by rw [hu9]; simp
  have HB9 := Lib.hid (below_over HB8.out B9)
  have HZ9 : Hid (∀ wx, Below u9.heap.size u9 wx → wx.heap[u8.heap.size]? = some (.cells #[.string x2'.pkg, .int .i64 x2'.major, .string x2'.mod, .slice Bt x2'.types.length bt, .slice Bv x2'.vals.length bv] 24 (0, 0))) := Lib.hid (fun wx hb => (hb.block _ s9).trans Z9)
  have HI9 : Hid (∀ wx, Below u9.heap.size u9 wx → ifE wx [.string x2'.pkg, .int .i64 x2'.major, .string x2'.mod, .slice Bt x2'.types.length bt, .slice Bv x2'.vals.length bv] x2') := Lib.hid (fun wx hb => ifR.keep _ _ _ _ HIF2.out (below_over B9 hb))
  have HU9 := Lib.hid hu9
  have HKD := Lib.hid hkd
  clear y0 y1 y2 hbd2 hev2 hb8 B9 Z9 s9 hu9 hkd BT hlt HNM HNC hl7
  go_upto_region 16 with fail
  rw [← HU9.out]
  clear HU9
  rcases HEV.out with ⟨hc0, rfl⟩ | ⟨hc0, T1, y1, rfl⟩
  ·subst hc0
   rcases HEV2.out with ⟨hc2, rfl⟩ | ⟨hc2, T2, y2, rfl⟩
   rotate_left
   ·exact absurd (bd_turn HKD.out HBD.out HBD2.out).1 hc2
   subst hc2
   obtain rfl := (bd_turn HKD.out HBD.out HBD2.out).2
   have MC := Lib.hid (may10_any x _ u9 (HIX.out u9 HB9.out))
   rw [bd_may HBD.out] at MC
   have RS := Lib.hid (fun (wx : World) (hb : Below u9.heap.size u9 wx) => rsame10_any x x _ _ wx (HIX.out wx (below_over HB9.out hb)) (HI9.out wx hb))
   rw [sameIf_iff.2 (rfl : x = x)] at RS
   have X6 := HZX.out u9 HB9.out
   have x0 := Lib.cell_of_heap X6 0
   have x1 := Lib.cell_of_heap X6 1
   have x2 := Lib.cell_of_heap X6 2
   have x3 := Lib.cell_of_heap X6 3
   have x4 := Lib.cell_of_heap X6 4
   simp at x0 x1 x2 x3 x4
   clear X6
   go_wp2_with fail
   refine MC.out.mono ?_; rintro e u10 ⟨rfl, hb10⟩
   have HB10 := Lib.hid hb10
   have HBA := Lib.hid (below_over HB9.out hb10)
   clear x0 x1 x2 x3 x4 hb10
   have X6 := HZX.out u10 HBA.out
   have Y6 := HZ9.out u10 HB10.out
   have x0 := Lib.cell_of_heap X6 0
   have x1 := Lib.cell_of_heap X6 1
   have x2 := Lib.cell_of_heap X6 2
   have x3 := Lib.cell_of_heap X6 3
   have x4 := Lib.cell_of_heap X6 4
   have y0 := Lib.cell_of_heap Y6 0
   have y1 := Lib.cell_of_heap Y6 1
   have y2 := Lib.cell_of_heap Y6 2
   have y3 := Lib.cell_of_heap Y6 3
   have y4 := Lib.cell_of_heap Y6 4
   simp at x0 x1 x2 x3 x4 y0 y1 y2 y3 y4
   clear X6 Y6
   go_wp2_with fail
   refine (RS.out u10 HB10.out).mono ?_; rintro e u11 ⟨rfl, hb11⟩
   have FIN := Lib.hid (below_over HBB.out (below_over HBA.out hb11))
   clear x0 x1 x2 x3 x4 y0 y1 y2 y3 y4 hb11
   go_wp2_with fail
   go_ret
   exact ⟨rfl, FIN.out⟩
  ·rcases HEV2.out with ⟨hc2, rfl⟩ | ⟨hc2, T2, y2, rfl⟩
   ·subst hc2
    exact absurd (bd_turn_no HKD.out HBD.out HBD2.out) hc0
   have FIN := Lib.hid (below_over HBB.out HB9.out)
   go_wp2_with fail
   go_ret
   exact ⟨rfl, FIN.out⟩
end Go.Proofs.YtcdmgcgjonndpaaGreat

/-  -/
namespace Go.Proofs.YtcdmgcgjonndpaaGreat
open Go Go.RowKit Go.WideShapes Go.ChangeShapes
section
variable {H : Type} {enc : TypeId × Value → H} {P : Program}
theorem post_of_below {f : Func} {s : ChangeSpec} {apart fresh handsOn again : Bool} {W W' : World} {args : Array Value} {v : Value} {ds gs : List (DataW H)} {before pa pv : List MemPlace}
    (hW : DataW.Whole enc P f.params.toList s.vars apart W args.toList ds gs before)
    (hres : ∀ (b : Nat) (sp : Nat → Bool) (hd : Bool), DataW.TrodAll enc P W' b sp hd f.resultTypes.toList (v.resultList f.resultTypes.size) (s.fn H (ds ++ gs)).results [])
    (hargs : ∀ sp : Nat → Bool, (∀ p ∈ before, sp p.block = true) → DataW.TrodAll enc P W' 0 sp true f.params.toList args.toList (s.fn H (ds ++ gs)).args pa)
    (hvars : ∀ sp : Nat → Bool, (∀ p ∈ before, sp p.block = true) → DataW.TrodVars enc P W' sp s.vars (s.fn H (ds ++ gs)).vars pv)
    (hps : before = pa ++ pv) (hb : Below W.heap.size W W')
    (hok : ∀ (j : Nat) (t : TypeId) (r : Value), f.resultTypes[j]? = some t → (v.resultList f.resultTypes.size)[j]? = some r → Value.okWide P W' .any 0 t r) :
    s.post enc P f apart fresh handsOn again W args v W' := by
  have hlt : ∀ p ∈ before, p.block < W.heap.size := fun p hp => hW.lt p hp
  have hold : ∀ p ∈ before, (fun b => decide (b < W.heap.size)) p.block = true := fun p hp => by simpa using hlt p hp
  refine ⟨ds, gs, before, [], pa, pv, hW, hres _ _ _, hargs _ hold, hvars _ hold, World.keptBut_mono (fun p hp => ⟨hp, ?_⟩) (hb.frame (· ∈ before)), fun _ => ?_⟩
  · rw [hps, List.mem_append] at hp
    exact Or.inr hp
  · obtain ⟨_, _, _, _, _, hz, hn⟩ := hW
    refine ⟨hok, _, _, ([] ++ pa) ++ pv, ⟨[] ++ pa, pv, trodAll_append (hargs _ (fun _ _ => rfl)) (hres _ _ _), hvars _ (fun _ _ => rfl), rfl, ?_, ?_⟩, ?_⟩
    · intro b off hp
      have hin : MemPlace.cell b off ∈ before := by rw [hps]; simpa using hp
      rw [hb.frozen (hlt _ hin)]
      exact hz b off hin
    · intro ha
      have := hn ha
      rw [hps] at this
      simpa using this
    · intro p hp _
      rw [hps]
      simpa using hp
theorem trodAll_stays (hl : laidOutB P = true) {W W' : World} {sp : Nat → Bool} (hb : Below W.heap.size W W') :
    ∀ (ts : List TypeId) (vs : List Value) (ds : List (DataW H)) (ps : List MemPlace), (∀ t ∈ ts, P.readableRec t = true ∧ t < P.types.size) →
      DataW.TrodAll enc P W 0 (fun _ => true) true ts vs ds ps → (∀ x ∈ ps, x.block < W.heap.size) → (∀ x ∈ ps, sp x.block = true) → DataW.TrodAll enc P W' 0 sp true ts vs ds ps
  | [], vs, ds, ps, _, h, _, _ => by
    obtain ⟨rfl, rfl, rfl⟩ := trodAll_nil h
    exact trodAll_mk0
  | t :: ts, vs, ds, ps, ht, h, hlt, hs => by
    obtain ⟨v, vs', d, ds', p, q, rfl, rfl, rfl, h0, h1⟩ := trodAll_cons h
    obtain ⟨hr, hrow⟩ := ht t (by simp)
    exact ⟨p, q, WideElems.Trod_stays hl hr hrow h0 (fun x hx => hb.same (hlt x (by simp [hx]))) (fun x hx => hs x (by simp [hx])),
      trodAll_stays hl hb ts vs' ds' q (fun u hu => ht u (by simp [hu])) h1 (fun x hx => hlt x (by simp [hx])) (fun x hx => hs x (by simp [hx])), rfl⟩
theorem law_post {f : Func} {s : ChangeSpec} {apart fresh handsOn again : Bool} {W W' : World} {args : Array Value} {ds gs : List (DataW H)} {before : List MemPlace} {tb : TypeId}
    (hl : laidOutB P = true) (hro : f.params.toList.all (fun t => P.readableRec t && decide (t < P.types.size)) = true) (hres : f.resultTypes = #[tb]) (hbool : P.underlying tb = some .bool) (hvars : s.vars = [])
    (hW : DataW.Whole enc P f.params.toList s.vars apart W args.toList ds gs before) (hb : Below W.heap.size W W')
    (hs : s.fn H (ds ++ gs) = { results := [.lit (.bool true)], args := ds }) :
    s.post enc P f apart fresh handsOn again W args (.bool true) W' := by
  have hW' := hW
  obtain ⟨p, q, hA, hV, hpq, _, _⟩ := hW
  rw [hvars] at hV
  obtain ⟨rfl, rfl⟩ := trodVars_none hV
  rw [List.append_nil] at hpq
  subst hpq
  have hlt : ∀ x ∈ before, x.block < W.heap.size := fun x hx => hW'.lt x hx
  have hro' : ∀ t ∈ f.params.toList, P.readableRec t = true ∧ t < P.types.size := fun t ht => by
    have := List.all_eq_true.1 hro t ht
    simpa using this
  refine post_of_below (pa := before) (pv := []) hW' ?_ ?_ ?_ (by simp) hb ?_
  · intro b sp hd
    rw [hs, hres]
    exact trodAll_mk1 (shut_bool hbool true)
  · intro sp hsp
    rw [hs]
    exact trodAll_stays hl hb _ _ _ _ hro' hA hlt hsp
  · intro sp _
    rw [hs, hvars]
    exact rfl
  · exact ok_one hres rfl (okWide_bool_mk hbool true)
end
end Go.Proofs.YtcdmgcgjonndpaaGreat

/-  -/
namespace Go.Proofs.YtcdmgcgjonndpaaGreat
open Go Go.ChangeShapes Go.WideShapes Go.ChangeAt Go.RowKit Go.Joins
theorem own : ownKnob Tryz.prog.godebug = none := by kernel_rfl
theorem laidOut : laidOutB Tryz.prog = true := by kernel_rfl
end Go.Proofs.YtcdmgcgjonndpaaGreat

/-  -/
namespace Go.Proofs.YtcdmgcgjonndpaaGreat
open Go Go.ChangeShapes Go.WideShapes Go.ChangeAt Go.RowKit Go.Joins Go.Deep
open M
section
variable {H : Type} {enc : TypeId × Value → H} {w : World} {base : Nat} {sp : Nat → Bool} {held : Bool}
end
end Go.Proofs.YtcdmgcgjonndpaaGreat

/-  -/
namespace Go.Proofs.YtcdmgcgjonndpaaGreat
open Go Go.RowKit
theorem wf_bd {n : Int} (h : (Lit.int .i64 n).wf = true) : -9223372036854775808 ≤ n ∧ n ≤ 9223372036854775807 := by
  simp [Lit.wf, IntKind.min, IntKind.max, IntKind.signed, IntKind.bits] at h
  omega
end Go.Proofs.YtcdmgcgjonndpaaGreat
