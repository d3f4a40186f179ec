/-
  Several texts in one:  ·  ·  · 
-/
import Derived.Test.YtkgmdbkcldojnaaGreatDoorK25
import Derived.Test.YtkgmdbkcldojnaaGreatDoorK06
import Derived.Test.YtkgmdbkcldojnaaGreatDoorK08
/-  -/
namespace Go.Proofs.YtkgmdbkcldojnaaGreatDoor
open Go Go.RowKit Go.Shelf
open Go.Sort Go.Maps
open M
theorem code_cell {w : World} {g : Nat} (h : w.heap[g]? = some (.cells #[.int .i64 5, .int .i64 4, .int .i64 6, .int .i64 10] 3 (0, 0))) (c : Nat) (hc : c < 4) : w.cell? ⟨g, c, none⟩ = some (.int .i64 (codeN c)) := by
 have h4 : c = 0 ∨ c = 1 ∨ c = 2 ∨ c = 3 := by omega
 rw [Lib.cell_of_heap h]
 rcases h4 with rfl | rfl | rfl | rfl <;> rfl
set_option maxRecDepth 100000 in
set_option maxHeartbeats 16000000 in
theorem rcheck_any (m : Mo) (l : List Value) (w : World) (h : MoAt w l m) (hM : ∀ d ∈ m.decs, many d.typ ≤ 9000) :
  Calls Tryz.prog 36 #[.agg l.toArray] w fun e w' => ∃ b p : Int, e = .returned (.tuple #[.int .i64 b, .int .i64 p]) ∧ RkOut m b p ∧ Below w.heap.size w w' := by
 have HM := Lib.hid hM
 have HV := Lib.hid h
 obtain ⟨Ai, ci, Ad, cd, rfl, z1, z2, z3, hIm, -⟩ := h
 have HIm := Lib.hid hIm
 obtain ⟨n, hn⟩ : ∃ n, n = m.decs.length := ⟨_, rfl⟩
 obtain ⟨ni, hni⟩ : ∃ ni, ni = m.imps.length := ⟨_, rfl⟩
 have HN := Lib.hid hn
 have HNI := Lib.hid hni
 rw [← hn, ← hni] at HV ⊢
 rw [← hni] at z2
 rw [← hn] at z3
 obtain ⟨w0, hw0⟩ : ∃ w0, w0 = w.alloc (.cells #[.string m.name, .slice Ai ni ci, .slice Ad n cd] 25) := ⟨_, rfl⟩
 have B0 : Below w.heap.size w w0 := by rw [hw0]; exact below_new (Below.refl _ _) _
 have O0 : w0.heap[w.heap.size]? = some (.cells #[.string m.name, .slice Ai ni ci, .slice Ad n cd] 25 (0, 0)) := by rw [hw0]; exact heap_alloc_new w _
 have hl0 : w.heap.size < w0.heap.size := by rw [hw0]; simp
 have HB0 := Lib.hid B0
 have HO0 := Lib.hid O0
 have HW0 := Lib.hid hw0
 have x0 := Lib.cell_of_heap O0 0
 have x1 := Lib.cell_of_heap O0 1
 have x2 := Lib.cell_of_heap O0 2
 simp at x0 x1 x2
 clear hM hIm hn hni hw0 B0 O0
 go_enter Tryz.func36, Tryz.ntmps36
 go_upto_region 1 with fail
 rw [← HW0.out]
 clear HW0
 go_wp2_with fail
 refine (rmay6_any m _ _ (HV.out.below HB0.out) HM.out).mono ?_; rintro e w1 ⟨rfl, hb1⟩
 have HB1 := Lib.hid (below_over HB0.out hb1)
 have HP : Hid (∀ wx, Below w1.heap.size w1 wx → wx.heap[w.heap.size]? = some (.cells #[.string m.name, .slice Ai ni ci, .slice Ad n cd] 25 (0, 0))) := Lib.hid (fun wx hb => (hb.block _ (Nat.lt_of_lt_of_le hl0 hb1.size)).trans ((hb1.block _ hl0).trans HO0.out))
 clear x0 x1 x2 hb1 HO0
 rcases hid_or (mayM m) with hm | hm
 ·rw [hm.out]
  have RES : Hid (RkOut m 1 (-1)) := Lib.hid (.inl ⟨hm.out, rfl, rfl⟩)
  go_wp2_with fail
  go_ret2
  exact ⟨_, _, rfl, RES.out, HB1.out⟩
 rw [hm.out]
 have hn60 : n ≤ 60 := by rw [HN.out]; exact (mayM_parts hm.out).2.1
 have hi20 : ni ≤ 20 := by rw [HNI.out]; exact (mayM_parts hm.out).1
 have BC : Hid (∀ wx, Below w1.heap.size w1 wx → ∀ i c : Nat, i < n → c < 4 → Calls Tryz.prog 74 #[.agg #[.string m.name, .slice Ai ni ci, .slice Ad n cd], .int .i64 i, .int .i64 (codeN c)] wx fun e w' => e = .returned (.bool (badN m i (codeN c))) ∧ Below wx.heap.size wx w') := Lib.hid (fun wx hb i c hi hc => rbad_any m _ i c wx (HV.out.below (below_over HB1.out hb)) hm.out HM.out (by rw [← HN.out]; exact hi) hc)
 go_wp2_with fail
 go_loopw [5] (fun s5 wr => ∃ i : Nat, i ≤ ni ∧ s5 = .int .i64 i ∧ Hid (∀ j, j < i → dupB (·.asn) m.imps j = false) ∧ Hid (Below w1.heap.size w1 wr)) (fun s5 _ => ni - (intOf s5).toNat)
 case atStart => exact ⟨0, by omega, rfl, Lib.hid (fun j h => by omega), Lib.hid (Below.refl _ _)⟩
 case round =>
  obtain ⟨i, hi, rfl, HNO, HBo⟩ := hrel
  obtain ⟨wo, rfl⟩ : ∃ wo : World, wo = wr := ⟨_, rfl⟩
  have X := HP.out wo HBo.out
  have x1 := Lib.cell_of_heap X 1
  simp at x1
  by_cases hlt : i < ni
  ·obtain ⟨x, hx⟩ : ∃ x, m.imps[i]? = some x := ⟨_, List.getElem?_eq_getElem (by rw [← HNI.out]; exact hlt)⟩
   have HX := Lib.hid hx
   have hi0 : (0 : Int) ≤ i := by omega
   have hi1 : (i : Int) < ni := by omega
   clear hx X
   go_wp2_with fail
   clear x1
   go_loopw [6] (fun s6 wr => ∃ k : Nat, k ≤ i ∧ s6 = .int .i64 k ∧ Hid (∀ y ∈ m.imps.take k, decide (y.asn = x.asn) = false) ∧ Hid (Below wo.heap.size wo wr)) (fun s6 _ => i - (intOf s6).toNat)
   case atStart => exact ⟨0, by omega, rfl, Lib.hid (by simp), Lib.hid (Below.refl _ _)⟩
   case round =>
    obtain ⟨k, hk, rfl, HNK, HBi⟩ := hrel
    obtain ⟨wi, rfl⟩ : ∃ wi : World, wi = wr := ⟨_, rfl⟩
    have HBiw : Hid (Below w1.heap.size w1 wi) := Lib.hid (below_over HBo.out HBi.out)
    by_cases hkl : k < i
    ·obtain ⟨y, hy⟩ : ∃ y, m.imps[k]? = some y := ⟨_, List.getElem?_eq_getElem (by rw [← HNI.out]; omega)⟩
     have HIi := HIm.out.below (below_over HB1.out HBiw.out)
     obtain ⟨g, o, rfl, -, a0, a1, a2, a3, -⟩ := HIi.im hy
     obtain ⟨g', o', hA, -, b0, b1, b2, b3, -⟩ := HIi.im HX.out
     cases hA
     have X := HP.out wi HBiw.out
     have x1 := Lib.cell_of_heap X 1
     simp at x1
     have hq := str_eq y.asn x.asn
     have HYY := Lib.hid hy
     have hk0 : (0 : Int) ≤ k := by omega
     have hk1 : (k : Int) < ni := by omega
     have hk2 : (k : Int) < i := by omega
     clear hy X HIi
     by_cases hs : y.asn = x.asn
     ·rw [decide_eq_true hs] at hq
      have RES : Hid (RkOut m 5 i) := Lib.hid (rk_imp hm.out (by rw [← HNI.out]; exact hlt) HNO.out (by
       rw [dupB_some HX.out, List.any_eq_true]
       exact ⟨y, List.mem_of_getElem? (i := k) (by rw [List.getElem?_take, if_pos hkl]; exact HYY.out), by simpa using hs⟩))
      clear hs
      go_wp2_with fail
      go_quiet (fail)
      go_wp2_with fail
      go_ret2
      exact ⟨_, _, rfl, RES.out, below_drewN (below_over HB1.out HBiw.out) _⟩
     ·rw [decide_eq_false hs] at hq
      have NX : Hid (∀ z ∈ m.imps.take (k + 1), decide (z.asn = x.asn) = false) := Lib.hid (fun z hz => by
       rw [List.take_add_one, HYY.out] at hz
       rcases List.mem_append.1 hz with h | h
       ·exact HNK.out z h
       ·simp at h; rw [h]; simpa using hs)
      clear hs
      go_wp2_with fail
      go_quiet (fail)
      go_wp2_with fail
      go_roundw
      case rel => exact ⟨k + 1, by omega, by go_num, NX, Lib.hid (below_drewN HBi.out _)⟩
      case measure => simp [intOf]; omega
    ·have hki : k = i := by omega
     have NX : Hid (∀ j, j < i + 1 → dupB (·.asn) m.imps j = false) := Lib.hid (fun j hj => by
      rcases Nat.lt_or_ge j i with h | h
      ·exact HNO.out j h
      ·obtain rfl : j = i := by omega
       rw [dupB_some HX.out, List.any_eq_false]
       intro z hz
       have := HNK.out z (by rw [hki]; exact hz)
       simpa using this)
     clear hki
     go_wp2_with fail
     go_roundw
     case rel => exact ⟨i + 1, by omega, by go_num, NX, HBiw⟩
     case measure => simp [intOf]; omega
  ·have hni' : i = ni := by omega
   have HNO' : Hid (∀ j, j < m.imps.length → dupB (·.asn) m.imps j = false) := Lib.hid (fun j hj => HNO.out j (by rw [hni', HNI.out]; exact hj))
   clear hni' HNO X
   obtain ⟨w2, hw2⟩ : ∃ w2, w2 = wo.alloc (.cells #[.int .i64 5, .int .i64 4, .int .i64 6, .int .i64 10] 3) := ⟨_, rfl⟩
   have B2 : Below wo.heap.size wo w2 := by rw [hw2]; exact below_new (Below.refl _ _) _
   have X2 : w2.heap[wo.heap.size]? = some (.cells #[.int .i64 5, .int .i64 4, .int .i64 6, .int .i64 10] 3 (0, 0)) := by rw [hw2]; exact heap_alloc_new wo _
   have hl2 : wo.heap.size < w2.heap.size := by rw [hw2]; simp
   have HB2 : Hid (Below w1.heap.size w1 w2) := Lib.hid (below_over HBo.out B2)
   have HX2 := Lib.hid X2
   have HW2 := Lib.hid hw2
   clear hw2 B2 X2
   go_upto_region 13 with fail
   rw [← HW2.out]
   clear x1
   go_wp2_with fail
   go_loopw [8] (fun s8 wr => ∃ c : Nat, c ≤ 4 ∧ s8 = .int .i64 c ∧ Hid (∀ c', c' < c → ∀ i, i < m.decs.length → badN m i (codeN c') = false) ∧ Hid (Below w2.heap.size w2 wr)) (fun s8 _ => 4 - (intOf s8).toNat)
   case atStart => exact ⟨0, by omega, rfl, Lib.hid (fun c h => by omega), Lib.hid (Below.refl _ _)⟩
   case round =>
    obtain ⟨c, hc, rfl, HNC, HBc⟩ := hrel
    obtain ⟨wc, rfl⟩ : ∃ wc : World, wc = wr := ⟨_, rfl⟩
    by_cases hc4 : c < 4
    ·have hc0 : (0 : Int) ≤ c := by omega
     have hc1 : (c : Int) < 4 := by omega
     go_wp2_with fail
     go_loopw [9] (fun s9 wr => ∃ i : Nat, i ≤ n ∧ s9 = .int .i64 i ∧ Hid (∀ j, j < i → badN m j (codeN c) = false) ∧ Hid (Below wc.heap.size wc wr)) (fun s9 _ => n - (intOf s9).toNat)
     case atStart => exact ⟨0, by omega, rfl, Lib.hid (fun j h => by omega), Lib.hid (Below.refl _ _)⟩
     case round =>
      obtain ⟨j, hj, rfl, HNJ, HBj⟩ := hrel
      obtain ⟨wj, rfl⟩ : ∃ wj : World, wj = wr := ⟨_, rfl⟩
      have HBj2 : Hid (Below w2.heap.size w2 wj) := Lib.hid (below_over HBc.out HBj.out)
      have HBj1 : Hid (Below w1.heap.size w1 wj) := Lib.hid (below_over HB2.out HBj2.out)
      have X := HP.out wj HBj1.out
      have x0 := Lib.cell_of_heap X 0
      have x1 := Lib.cell_of_heap X 1
      have x2 := Lib.cell_of_heap X 2
      simp at x0 x1 x2
      have hcc := code_cell ((HBj2.out.block _ hl2).trans HX2.out) c hc4
      by_cases hjl : j < n
      ·obtain ⟨q, hq⟩ : ∃ q, q = badN m j (codeN c) := ⟨_, rfl⟩
       have cB : ∀ dd os, Calls Tryz.prog 74 #[.agg #[.string m.name, .slice Ai ni ci, .slice Ad n cd], .int .i64 j, .int .i64 (codeN c)] (Sort.grow (redrawn wj dd) os) fun e w'' => e = .returned (.bool q) ∧ ∃ pp : Regrown, w'' = Sort.grow (redrawn wj pp.d) pp.os := fun dd os => Calls.regrown_of (by rw [hq]; exact BC.out _ (HBj1.out.trans ((below_regrown wj dd os).mono HBj1.out.size)) j c hjl hc4)
       have HQ := Lib.hid hq
       clear hq X
       go_upto_region 19 with fail
       have p0 := cell_regrown x0
       have p1 := cell_regrown x1
       have p2 := cell_regrown x2
       have pc := cell_regrown hcc
       clear x0 x1 x2 hcc
       refine wp_region_quiet_below (by kernel_rfl) (by kernel_rfl) ?_
       repeat (any_goals (first | go_big_quiet_step (with_reducible exact cB _ _) | quiet_step (with_reducible exact cB _ _)))
       refine wpQuiet_nil ?_
       intro w5 hw'
       have HB5 : Hid (Below wj.heap.size wj w5) := Lib.hid (by
        obtain ⟨⟨dq, osq⟩, hw''⟩ := hw'
        rw [hw'']
        exact below_regrown wj dq osq)
       clear hw' cB p0 p1 p2 pc
       have hcc5 := code_cell (((below_over HBj2.out HB5.out).block _ hl2).trans HX2.out) c hc4
       cases q with
       | true =>
        have RES : Hid (RkOut m (codeN c) j) := Lib.hid (rk_dec hm.out HNO'.out hc4 HNC.out (by rw [← HN.out]; exact hjl) HNJ.out HQ.out.symm)
        go_wp2_with fail
        go_ret2
        exact ⟨_, _, rfl, RES.out, below_over HB1.out (below_over HBj1.out HB5.out)⟩
       | false =>
        have NX : Hid (∀ j', j' < j + 1 → badN m j' (codeN c) = false) := Lib.hid (fun j' hj' => by
         rcases Nat.lt_or_ge j' j with h | h
         ·exact HNJ.out j' h
         ·obtain rfl : j' = j := by omega
          exact HQ.out.symm)
        clear hcc5
        go_wp2_with fail
        go_roundw
        case rel => exact ⟨j + 1, by omega, by go_num, NX, Lib.hid (below_over HBj.out HB5.out)⟩
        case measure => simp [intOf]; omega
      ·have hjn : j = n := by omega
       have NX : Hid (∀ c', c' < c + 1 → ∀ i, i < m.decs.length → badN m i (codeN c') = false) := Lib.hid (fun c' hc' i hi => by
        rcases Nat.lt_or_ge c' c with h | h
        ·exact HNC.out c' h i hi
        ·obtain rfl : c' = c := by omega
         exact HNJ.out i (by rw [hjn, HN.out]; exact hi))
       clear hjn X x0 x1 hcc
       go_wp2_with fail
       go_roundw
       case rel => exact ⟨c + 1, by omega, by go_num, NX, HBj2⟩
       case measure => simp [intOf]; omega
    ·have hc4' : c = 4 := by omega
     have RES : Hid (RkOut m 0 (-1)) := Lib.hid (rk_none hm.out HNO'.out (fun c' hc' i hi => HNC.out c' (by omega) i hi))
     have FB : Hid (Below w.heap.size w wc) := Lib.hid (below_over HB1.out (below_over HB2.out HBc.out))
     clear hc4'
     go_wp2_with fail
     go_ret2
     exact ⟨_, _, rfl, RES.out, FB.out⟩
end Go.Proofs.YtkgmdbkcldojnaaGreatDoor

/-  -/
namespace Go.Proofs.YtkgmdbkcldojnaaGreatDoor
open Go.RowKit
open Go.Sort
open M
set_option maxRecDepth 100000 in
set_option maxHeartbeats 4000000 in
theorem writeNamed_any (t : Ty) (IH : ∀ s, s ∈ t.subs → WriteOk s) (hln : t.names.length = t.subs.length) (hbn : ∀ i, i < t.names.length → (nameAt t.names i).size ≤ 20) (B b : Nat) (v : Value) (W w0 w : World) (l : List UInt8) (hv : TyV W v t) (hW : Below W.heap.size W w0) (hWB : W.heap.size ≤ B) (hP : Pow W) (hw : Wr B b w0 l w) (hl : l.length + (rowOf (textsT t.subs) t.names t.subs.length).length ≤ 4000000) :
  Calls Tryz.prog 93 #[.pointer (some ⟨b, 0, none⟩), v] w fun e w' => e = .returned (.tuple #[]) ∧ Wr B b w0 (l ++ rowOf (textsT t.subs) t.names t.subs.length) w' := by
 have HIH := Lib.hid IH
 have HBN := Lib.hid hbn
 have HL := Lib.hid hln
 have HP := Lib.hid hP
 have HROW := Lib.hid hl
 clear IH hbn hP hl hln
 have HV := Lib.hid hv
 obtain ⟨lv, rfl, hT⟩ := hv
 obtain ⟨An, cn, As, cs, rfl, zp, zm, za, hzn, hz, hNA, hS⟩ := hT.parts
 have HCAP := Lib.hid hT.cap
 have HS := Lib.hid hS
 have HNA := Lib.hid hNA
 have HLT := Lib.hid (textsT_len t.subs)
 have hbw := hw.lt
 obtain ⟨wb, hwb⟩ : ∃ wb, wb = w.alloc (.cells #[.int .i64 t.kind, .string t.pkg, .int .i64 t.major, .string t.mod, .string t.name, .slice An t.names.length cn, .slice As t.subs.length cs] 30) := ⟨_, rfl⟩
 have HA : Hid (Wr B b w0 l wb) := Lib.hid (by rw [hwb]; exact hw.alloc _)
 have H0 := Lib.hid HA.out.base
 have HK : Hid (wb.heap[w.heap.size]? = some (.cells #[.int .i64 t.kind, .string t.pkg, .int .i64 t.major, .string t.mod, .string t.name, .slice An t.names.length cn, .slice As t.subs.length cs] 30 (0, 0))) := Lib.hid (by rw [hwb]; exact heap_alloc_new w _)
 have hne : w.heap.size ≠ b := by omega
 have HWB := Lib.hid hwb
 have HWw : Hid (Below W.heap.size W wb) := Lib.hid (hW.trans (HA.out.2.1.mono hWB))
 clear hT hS hNA hW hwb hw
 generalize hn : t.subs.length = n at hz HV HWB HK
 have HN := Lib.hid hn
 have HBOX := Lib.hid (show (0 : Nat) = 0 from rfl)
 clear hn HBOX
 go_enter Tryz.func93, Tryz.ntmps93
 go_wp2_with fail
 rw [← HWB.out]
 go_loopw [9] (fun i wr => ∃ k : Nat, k ≤ n ∧ i = .int .i64 k ∧ Hid (Wr B b wb (l ++ rowOf (textsT t.subs) t.names k) wr)) (fun i _ => n - (intOf i).toNat)
 case atStart => exact ⟨0, by omega, rfl, Lib.hid (H0.out.eq (by simp [rowOf]))⟩
 case round =>
  obtain ⟨k, hk, rfl, HR⟩ := hrel
  obtain ⟨wo, rfl⟩ : ∃ wo : World, wo = wr := ⟨_, rfl⟩
  have HWo : Hid (Below W.heap.size W wo) := Lib.hid (HWw.out.trans (HR.out.2.1.mono hWB))
  by_cases hlt : k < n
  ·obtain ⟨s, hs⟩ : ∃ s, t.subs[k]? = some s := ⟨_, List.getElem?_eq_getElem (by rw [HN.out]; exact hlt)⟩
   obtain ⟨x, hx⟩ : ∃ x, t.names[k]? = some x := ⟨_, List.getElem?_eq_getElem (by rw [HL.out, HN.out]; exact hlt)⟩
   obtain ⟨g2, o2, rfl, hg2, f0, -⟩ := HNA.out k x hx
   obtain ⟨g, o, v0, v1, v2, v3, v4, v5, v6, eA, hg, e0, e1, e2, e3, e4, e5, e6, hs7⟩ := HS.out k s hs
   obtain ⟨Am, cm, At, ct, rfl, rfl, rfl, rfl, rfl, rfl, rfl⟩ := hs7.seven
   have HV7 : Hid (TyV W (.agg #[.int .i64 s.kind, .string s.pkg, .int .i64 s.major, .string s.mod, .string s.name, .slice Am s.names.length cm, .slice At s.subs.length ct]) s) := Lib.hid ⟨_, rfl, hs7⟩
   subst eA
   have tr : ∀ q v, W.cell? ⟨g, q, none⟩ = some v → wo.cell? ⟨g, q, none⟩ = some v := fun q v hv => (HWo.out.cell (p := ⟨g, _, none⟩) hg).trans hv
   have h0 := tr _ _ e0
   have h1 := tr _ _ e1
   have h2 := tr _ _ e2
   have h3 := tr _ _ e3
   have h4 := tr _ _ e4
   have h5 := tr _ _ e5
   have h6 := tr _ _ e6
   clear tr
   clear e0 e1 e2 e3 e4 e5 e6 hs7
   have hna := nameAt_of' hx
   have hxz : x.size ≤ 20 := by have := HBN.out k (by rw [HL.out, HN.out]; exact hlt); rw [hna] at this; exact this
   have hkn : k < t.names.length := by rw [HL.out, HN.out]; exact hlt
   have hnp : 0 < t.names.length := by rw [HL.out, HN.out]; omega
   have hlen := row_mono (textsT t.subs) t.names (k := k + 1) n (by omega)
   have hstep := row_step (textsT t.subs) t.names k
   rw [if_pos hnp, hna, textsT_at _ _ s hs] at hstep
   have hl4 : l.length + (rowOf (textsT t.subs) t.names (k + 1)).length ≤ 4000000 := by have := HROW.out; rw [HN.out] at this; omega
   have n1 : ¬ (x.size + 2 > 9223372036854775807) := by omega
   have IHs := Lib.hid (HIH.out s (List.mem_of_getElem? hs))
   obtain ⟨wo2, hwo2⟩ : ∃ wo2, wo2 = wo.alloc (.cells #[.int .i64 s.kind, .string s.pkg, .int .i64 s.major, .string s.mod, .string s.name, .slice Am s.names.length cm, .slice At s.subs.length ct] 30) := ⟨_, rfl⟩
   have HR2 : Hid (Wr B b wo (l ++ rowOf (textsT t.subs) t.names k) wo2) := Lib.hid (by rw [hwo2]; exact HR.out.base.alloc _)
   have HR3 := Lib.hid HR2.out.base
   have HK2 : Hid (wo2.heap[wo.heap.size]? = some (.cells #[.int .i64 s.kind, .string s.pkg, .int .i64 s.major, .string s.mod, .string s.name, .slice Am s.names.length cm, .slice At s.subs.length ct] 30 (0, 0))) := Lib.hid (by rw [hwo2]; exact heap_alloc_new wo _)
   have hne2 : wo.heap.size ≠ b := by have := HR.out.lt; omega
   have HWO2 := Lib.hid hwo2
   have HW2 : Hid (Below W.heap.size W wo2) := Lib.hid (HWo.out.trans (HR2.out.2.1.mono hWB))
   have hG : Hid (wo.heap[w.heap.size]? = some (.cells #[.int .i64 t.kind, .string t.pkg, .int .i64 t.major, .string t.mod, .string t.name, .slice (some ⟨g2, o2, none⟩) t.names.length cn, .slice (some ⟨g, o, none⟩) n cs] 30 (0, 0))) := Lib.hid (HR.out.2.2 _ _ HK.out (by simpa using hne) (fun c fz e => by injection e with _ e _; exact absurd e (by decide)))
   have hnn : w.heap.size < wo.heap.size := (Array.getElem?_eq_some_iff.1 hG.out).1
   have hG2 : Hid (wo2.heap[w.heap.size]? = some (.cells #[.int .i64 t.kind, .string t.pkg, .int .i64 t.major, .string t.mod, .string t.name, .slice (some ⟨g2, o2, none⟩) t.names.length cn, .slice (some ⟨g, o, none⟩) n cs] 30 (0, 0))) := Lib.hid (by rw [hwo2, Lib.alloc_old _ _ _ hnn]; exact hG.out)
   clear hwo2 hna hlen hnp hs
   rcases Nat.eq_zero_or_pos k with hp | hp
   ·have hp2 : ¬ (0 : Int) < k := by omega
    have HST : Hid (rowOf (textsT t.subs) t.names (k + 1) = rowOf (textsT t.subs) t.names k ++ (x.data.toList ++ [58, 32]) ++ textT s) := Lib.hid (by rw [hstep, if_neg (by omega)])
    rw [HST.out] at hl4
    simp only [List.length_append, List.length_cons, List.length_nil, len_size] at hl4
    have c5 := HR.out.cell HK.out hne 5
    simp at c5
    have f1 : wo.cell? ⟨g2, o2 + k, none⟩ = some (.string x) := (HWo.out.cell (p := ⟨g2, _, none⟩) hg2).trans f0
    have hg2l : g2 < wo.heap.size := Nat.lt_of_lt_of_le hg2 HWo.out.size
    clear hstep hp
    go_wp2_with fail
    rw [← HWO2.out]
    clear h0 h1 h2 h3 h4 h5 h6
    refine (wr_str HR3.out _ ?_).mono ?_
    ·rw [List.length_append, ByteArray.size_append, z58]; omega
    rintro e w3 ⟨rfl, g3⟩
    have d0 := g3.cell HK2.out hne2 0
    have d1 := g3.cell HK2.out hne2 1
    have d2 := g3.cell HK2.out hne2 2
    have d3 := g3.cell HK2.out hne2 3
    have d4 := g3.cell HK2.out hne2 4
    have d5 := g3.cell HK2.out hne2 5
    have d6 := g3.cell HK2.out hne2 6
    simp at d0 d1 d2 d3 d4 d5 d6
    clear c5 f1
    go_wp2_with fail
    refine (IHs.out B b _ W wo2 w3 _ HV7.out HW2.out hWB HP.out g3 ?_).mono ?_
    ·rw [len_app, List.length_append, ByteArray.size_append, z58]; omega
    rintro e w4 ⟨rfl, g4⟩
    have HR4 : Hid (Wr B b wb (l ++ rowOf (textsT t.subs) t.names (k + 1)) w4) := Lib.hid (((HR.out.over HR2.out).over g4).eq (by rw [HST.out]; simp))
    clear d0 d1 d2 d3 d4 d5 d6 g3 g4
    go_wp2_with fail
    go_roundw
    case rel => exact ⟨k + 1, by omega, by go_num, HR4⟩
    case measure => simp [intOf]; omega
   ·have hp2 : (0 : Int) < k := by omega
    have HST : Hid (rowOf (textsT t.subs) t.names (k + 1) = rowOf (textsT t.subs) t.names k ++ [44, 32] ++ (x.data.toList ++ [58, 32]) ++ textT s) := Lib.hid (by rw [hstep, if_pos hp])
    rw [HST.out] at hl4
    simp only [List.length_append, List.length_cons, List.length_nil, len_size] at hl4
    clear hstep hp
    go_wp2_with fail
    rw [← HWO2.out]
    clear h0 h1 h2 h3 h4 h5 h6
    refine (wr_str HR3.out ⟨#[44, 32]⟩ ?_).mono ?_
    ·rw [List.length_append, z44]; omega
    rintro e w2 ⟨rfl, g2w⟩
    have c5 := g2w.cell hG2.out hne 5
    simp at c5
    have f1 : w2.cell? ⟨g2, o2 + k, none⟩ = some (.string x) := ((HW2.out.trans (g2w.2.1.mono hWB)).cell (p := ⟨g2, _, none⟩) hg2).trans f0
    go_wp2_with fail
    refine (wr_str g2w _ ?_).mono ?_
    ·simp only [List.length_append, List.length_cons, List.length_nil, ByteArray.size_append, z58]; omega
    rintro e w3 ⟨rfl, g3⟩
    have d0 := g3.cell HK2.out hne2 0
    have d1 := g3.cell HK2.out hne2 1
    have d2 := g3.cell HK2.out hne2 2
    have d3 := g3.cell HK2.out hne2 3
    have d4 := g3.cell HK2.out hne2 4
    have d5 := g3.cell HK2.out hne2 5
    have d6 := g3.cell HK2.out hne2 6
    simp at d0 d1 d2 d3 d4 d5 d6
    clear c5 f1 g2w
    go_wp2_with fail
    refine (IHs.out B b _ W wo2 w3 _ HV7.out HW2.out hWB HP.out g3 ?_).mono ?_
    ·simp only [List.length_append, len_size, List.length_cons, List.length_nil, ByteArray.size_append, z58]; omega
    rintro e w4 ⟨rfl, g4⟩
    have HR4 : Hid (Wr B b wb (l ++ rowOf (textsT t.subs) t.names (k + 1)) w4) := Lib.hid (((HR.out.over HR2.out).over g4).eq (by rw [HST.out]; simp))
    clear d0 d1 d2 d3 d4 d5 d6 g3 g4
    go_wp2_with fail
    go_roundw
    case rel => exact ⟨k + 1, by omega, by go_num, HR4⟩
    case measure => simp [intOf]; omega
  ·obtain rfl : k = n := by omega
   go_wp2_with fail
   go_end0
   exact ⟨rfl, HA.out.over HR.out⟩
end Go.Proofs.YtkgmdbkcldojnaaGreatDoor

/-  -/
namespace Go.Proofs.YtkgmdbkcldojnaaGreatDoor
open Go.RowKit
open Go.Sort
open M
set_option maxRecDepth 100000 in
set_option maxHeartbeats 4000000 in
theorem writeFunc_any (ss : List Ty) (m : Nat) (hss : ss.length = m + 1) (q : Ty) (hq : ss[m]? = some q) (IH : ∀ s, s ∈ ss → WriteOk s) (As : Option Addr) (cs B b : Nat) (hcap : m + 1 ≤ cs) (hz : m + 1 ≤ 9223372036854775807) (W w0 w : World) (l : List UInt8) (hS : SubsAt W As ss) (hW : Below W.heap.size W w0) (hWB : W.heap.size ≤ B) (hP : Pow W) (hw : Wr B b w0 l w) (hl : l.length + (rowOf (textsT ss) [] m).length + 6 + (textT q).length ≤ 4000000) :
    Calls Tryz.prog 94 #[.pointer (some ⟨b, 0, none⟩), .slice As (m + 1) cs] w fun e w' => e = .returned (.tuple #[]) ∧ Wr B b w0 (l ++ ([40] ++ rowOf (textsT ss) [] m ++ [41, 32, 45, 62, 32] ++ textT q)) w' := by
  have HIH := Lib.hid IH
  have HP := Lib.hid hP
  have HL := Lib.hid hss
  have HS := Lib.hid hS
  have HQ := Lib.hid hq
  have HA := Lib.hid hw
  have H0 := Lib.hid hw.base
  have HWw : Hid (Below W.heap.size W w) := Lib.hid (hW.trans (hw.2.1.mono hWB))
  obtain ⟨g, o, -, -, -, -, -, -, -, rfl, -⟩ := hS m q hq
  clear IH hP hss hS hq hW hw
  go_enter Tryz.func94, Tryz.ntmps94
  go_wp2_with fail
  refine (wr_str H0.out ⟨#[40]⟩ ?_).mono ?_
  · show l.length + 1 ≤ 4000000; omega
  rintro e w1 ⟨rfl, g1⟩
  have G1 : Hid (Wr B b w (l ++ [40]) w1) := Lib.hid g1
  clear g1
  go_wp2_with fail
  go_loopw [16] (fun i wr => ∃ k : Nat, k ≤ m ∧ i = .int .i64 k ∧ Hid (Wr B b w (l ++ [40] ++ rowOf (textsT ss) [] k) wr)) (fun i _ => m - (intOf i).toNat)
  case atStart => exact ⟨0, by omega, rfl, Lib.hid (G1.out.eq (by simp [rowOf]))⟩
  case round =>
    obtain ⟨k, hk, rfl, HR⟩ := hrel
    obtain ⟨wo, rfl⟩ : ∃ wo : World, wo = wr := ⟨_, rfl⟩
    have HWo : Hid (Below W.heap.size W wo) := Lib.hid (HWw.out.trans (HR.out.2.1.mono hWB))
    by_cases hlt : k < m
    · obtain ⟨s, hs⟩ : ∃ s, ss[k]? = some s := ⟨_, List.getElem?_eq_getElem (by rw [HL.out]; omega)⟩
      obtain ⟨g3, o3, v0, v1, v2, v3, v4, v5, v6, eA, hg, e0, e1, e2, e3, e4, e5, e6, hs7⟩ := HS.out k s hs
      obtain ⟨rfl, rfl⟩ : g = g3 ∧ o = o3 := by simpa using eA
      obtain ⟨Am, cm, At, ct, rfl, rfl, rfl, rfl, rfl, rfl, rfl⟩ := hs7.seven
      have HV7 : Hid (TyV W (.agg #[.int .i64 s.kind, .string s.pkg, .int .i64 s.major, .string s.mod, .string s.name, .slice Am s.names.length cm, .slice At s.subs.length ct]) s) := Lib.hid ⟨_, rfl, hs7⟩
      have tr : ∀ q v, W.cell? ⟨g, q, none⟩ = some v → wo.cell? ⟨g, q, none⟩ = some v := fun q v hv => (HWo.out.cell (p := ⟨g, _, none⟩) hg).trans hv
      have h0 := tr _ _ e0
      have h1 := tr _ _ e1
      have h2 := tr _ _ e2
      have h3 := tr _ _ e3
      have h4 := tr _ _ e4
      have h5 := tr _ _ e5
      have h6 := tr _ _ e6
      clear tr
      clear e0 e1 e2 e3 e4 e5 e6 hs7 eA
      have hlen := row_mono (textsT ss) [] (k := k + 1) m (by omega)
      have hstep := row_step0 (textsT ss) k
      rw [textsT_at _ _ s hs] at hstep
      have hl4 : l.length + (rowOf (textsT ss) [] (k + 1)).length + 6 ≤ 4000000 := by omega
      have IHs := Lib.hid (HIH.out s (List.mem_of_getElem? hs))
      obtain ⟨wo2, hwo2⟩ : ∃ wo2, wo2 = wo.alloc (.cells #[.int .i64 s.kind, .string s.pkg, .int .i64 s.major, .string s.mod, .string s.name, .slice Am s.names.length cm, .slice At s.subs.length ct] 30) := ⟨_, rfl⟩
      have HR2 : Hid (Wr B b wo (l ++ [40] ++ rowOf (textsT ss) [] k) wo2) := Lib.hid (by rw [hwo2]; exact HR.out.base.alloc _)
      have HR3 := Lib.hid HR2.out.base
      have HK2 : Hid (wo2.heap[wo.heap.size]? = some (.cells #[.int .i64 s.kind, .string s.pkg, .int .i64 s.major, .string s.mod, .string s.name, .slice Am s.names.length cm, .slice At s.subs.length ct] 30 (0, 0))) := Lib.hid (by rw [hwo2]; exact heap_alloc_new wo _)
      have hne2 : wo.heap.size ≠ b := by have := HR.out.lt; omega
      have HWO2 := Lib.hid hwo2
      have HW2 : Hid (Below W.heap.size W wo2) := Lib.hid (HWo.out.trans (HR2.out.2.1.mono hWB))
      clear hwo2 hlen hs
      rcases Nat.eq_zero_or_pos k with hp | hp
      · have hp2 : ¬ (0 : Int) < k := by omega
        have HST : Hid (rowOf (textsT ss) [] (k + 1) = rowOf (textsT ss) [] k ++ textT s) := Lib.hid (by rw [hstep, if_neg (by omega)])
        rw [HST.out] at hl4
        simp only [List.length_append] at hl4
        clear hstep hp
        go_wp2_with fail
        rw [← HWO2.out]
        clear h0 h1 h2 h3 h4 h5 h6
        refine (IHs.out B b _ W wo2 wo2 _ HV7.out HW2.out hWB HP.out HR3.out ?_).mono ?_
        · simp only [List.length_append, List.length_cons, List.length_nil]; omega
        rintro e w4 ⟨rfl, g4⟩
        have HR4 : Hid (Wr B b w (l ++ [40] ++ rowOf (textsT ss) [] (k + 1)) w4) := Lib.hid (((HR.out.over HR2.out).over g4).eq (by rw [HST.out]; simp))
        clear g4
        go_wp2_with fail
        go_roundw
        case rel => exact ⟨k + 1, by omega, by go_num, HR4⟩
        case measure => simp [intOf]; omega
      · have hp2 : (0 : Int) < k := by omega
        have HST : Hid (rowOf (textsT ss) [] (k + 1) = rowOf (textsT ss) [] k ++ [44, 32] ++ textT s) := Lib.hid (by rw [hstep, if_pos hp])
        rw [HST.out] at hl4
        simp only [List.length_append, List.length_cons, List.length_nil] at hl4
        clear hstep hp
        go_wp2_with fail
        rw [← HWO2.out]
        clear h0 h1 h2 h3 h4 h5 h6
        refine (wr_str HR3.out ⟨#[44, 32]⟩ ?_).mono ?_
        · simp only [List.length_append, List.length_cons, List.length_nil, z44]; omega
        rintro e w2 ⟨rfl, g2w⟩
        have d0 := g2w.cell HK2.out hne2 0
        have d1 := g2w.cell HK2.out hne2 1
        have d2 := g2w.cell HK2.out hne2 2
        have d3 := g2w.cell HK2.out hne2 3
        have d4 := g2w.cell HK2.out hne2 4
        have d5 := g2w.cell HK2.out hne2 5
        have d6 := g2w.cell HK2.out hne2 6
        simp at d0 d1 d2 d3 d4 d5 d6
        go_wp2_with fail
        refine (IHs.out B b _ W wo2 w2 _ HV7.out HW2.out hWB HP.out g2w ?_).mono ?_
        · simp only [List.length_append, List.length_cons, List.length_nil]; omega
        rintro e w4 ⟨rfl, g4⟩
        have HR4 : Hid (Wr B b w (l ++ [40] ++ rowOf (textsT ss) [] (k + 1)) w4) := Lib.hid (((HR.out.over HR2.out).over g4).eq (by rw [HST.out]; simp))
        clear d0 d1 d2 d3 d4 d5 d6 g2w g4
        go_wp2_with fail
        go_roundw
        case rel => exact ⟨k + 1, by omega, by go_num, HR4⟩
        case measure => simp [intOf]; omega
    · obtain rfl : k = m := by omega
      have IHs := Lib.hid (HIH.out q (List.mem_of_getElem? HQ.out))
      have hs := HQ.out
      obtain ⟨g3, o3, v0, v1, v2, v3, v4, v5, v6, eA, hg, e0, e1, e2, e3, e4, e5, e6, hs7⟩ := HS.out k q hs
      obtain ⟨rfl, rfl⟩ : g = g3 ∧ o = o3 := by simpa using eA
      obtain ⟨Am, cm, At, ct, rfl, rfl, rfl, rfl, rfl, rfl, rfl⟩ := hs7.seven
      have HV7 : Hid (TyV W (.agg #[.int .i64 q.kind, .string q.pkg, .int .i64 q.major, .string q.mod, .string q.name, .slice Am q.names.length cm, .slice At q.subs.length ct]) q) := Lib.hid ⟨_, rfl, hs7⟩
      clear hs7 eA hs
      go_wp2_with fail
      refine (wr_str HR.out ⟨#[41, 32, 45, 62, 32]⟩ ?_).mono ?_
      · show (l ++ [40] ++ rowOf (textsT ss) [] k).length + 5 ≤ 4000000
        simp only [List.length_append, List.length_cons, List.length_nil]; omega
      rintro e w2 ⟨rfl, g2w⟩
      have HW5 : Hid (Below W.heap.size W w2) := Lib.hid (HWw.out.trans (g2w.2.1.mono hWB))
      have tr : ∀ q v, W.cell? ⟨g, q, none⟩ = some v → w2.cell? ⟨g, q, none⟩ = some v := fun q v hv => (HW5.out.cell (p := ⟨g, _, none⟩) hg).trans hv
      have h0 := tr _ _ e0
      have h1 := tr _ _ e1
      have h2 := tr _ _ e2
      have h3 := tr _ _ e3
      have h4 := tr _ _ e4
      have h5 := tr _ _ e5
      have h6 := tr _ _ e6
      clear tr
      clear e0 e1 e2 e3 e4 e5 e6
      go_wp2_with fail
      refine (IHs.out B b _ W w w2 _ HV7.out HWw.out hWB HP.out g2w ?_).mono ?_
      · simp only [List.length_append, List.length_cons, List.length_nil]; omega
      rintro e w4 ⟨rfl, g4⟩
      go_wp2_with fail
      go_end0
      exact ⟨rfl, (HA.out.over g4).eq (by simp)⟩
end Go.Proofs.YtkgmdbkcldojnaaGreatDoor

/-  -/
namespace Go.Proofs.YtkgmdbkcldojnaaGreatDoor
open Go.RowKit
open Go.Sort
open M
theorem writeFunc_at (ss : List Ty) (m n : Nat) (hnm : n = m + 1) (hss : ss.length = n) (q : Ty) (hq : ss[m]? = some q) (IH : ∀ s, s ∈ ss → WriteOk s) (As : Option Addr) (cs B b : Nat) (hcap : n ≤ cs) (hz : n ≤ 9223372036854775807) (W w0 w : World) (l : List UInt8) (hS : SubsAt W As ss) (hW : Below W.heap.size W w0) (hWB : W.heap.size ≤ B) (hP : Pow W) (hw : Wr B b w0 l w) (hl : l.length + (rowOf (textsT ss) [] m).length + 6 + (textT q).length ≤ 4000000) :
  Calls Tryz.prog 94 #[.pointer (some ⟨b, 0, none⟩), .slice As n cs] w fun e w' => e = .returned (.tuple #[]) ∧ Wr B b w0 (l ++ ([40] ++ rowOf (textsT ss) [] m ++ [41, 32, 45, 62, 32] ++ textT q)) w' := by
 subst hnm
 exact writeFunc_any ss m hss q hq IH As cs B b hcap hz W w0 w l hS hW hWB hP hw hl
set_option maxRecDepth 100000 in
set_option maxHeartbeats 8000000 in
theorem write_any (N : Nat) : ∀ (t : Ty), many t ≤ N → allOk t = true → WriteOk t := by
 induction N with
 | zero => intro t h; have := many_pos t; omega
 | succ N ih =>
 intro t hN hok B b v W w0 w l hv hW hWB hP hw hl
 have hok' : ownOk t = true ∧ allOkL t.subs = true := by rw [allOk_eq] at hok; simpa using hok
 obtain ⟨hown, hall⟩ := hok'
 have IH : Hid (∀ s, s ∈ t.subs → WriteOk s) := Lib.hid (fun s hs => ih s (by have := manyL_mem t.subs s hs; have := manyL_eq t; omega) ((allOkL_mem _).1 hall s hs))
 have HNM := Lib.hid (M.own_names hown)
 have hshape : shapeOk t = true := by
  have h := hown
  unfold ownOk at h
  simp only [Bool.and_eq_true] at h
  exact h.2
 have HSH := Lib.hid hshape
 have HOWN := Lib.hid hown
 have HP := Lib.hid hP
 have HTX := Lib.hid (textT_eq t)
 clear hN hok hown hall ih hshape hP
 have HV := Lib.hid hv
 obtain ⟨lv, rfl, hT⟩ := hv
 obtain ⟨An, cn, As, cs, rfl, zp, zm, za, hzn, hz, hNA, hS⟩ := hT.parts
 have HCAP := Lib.hid hT.cap
 have HS := Lib.hid hS
 have HNA := Lib.hid hNA
 have HLT := Lib.hid (textsT_len t.subs)
 have hbw := hw.lt
 obtain ⟨wb, hwb⟩ : ∃ wb, wb = w.alloc (.cells #[.int .i64 t.kind, .string t.pkg, .int .i64 t.major, .string t.mod, .string t.name, .slice An t.names.length cn, .slice As t.subs.length cs] 30) := ⟨_, rfl⟩
 have HA : Hid (Wr B b w0 l wb) := Lib.hid (by rw [hwb]; exact hw.alloc _)
 have H0 := Lib.hid HA.out.base
 have HK : Hid (wb.heap[w.heap.size]? = some (.cells #[.int .i64 t.kind, .string t.pkg, .int .i64 t.major, .string t.mod, .string t.name, .slice An t.names.length cn, .slice As t.subs.length cs] 30 (0, 0))) := Lib.hid (by rw [hwb]; exact heap_alloc_new w _)
 have hne : w.heap.size ≠ b := by omega
 have HWB := Lib.hid hwb
 have HWw : Hid (Below W.heap.size W wb) := Lib.hid (hW.trans (HA.out.2.1.mono hWB))
 clear hT hS hNA hW hwb hw
 by_cases hx : t.kind = 1
 ·as_aux_lemma =>
  have HJ : Hid (textT t = [73, 110, 116]) := Lib.hid (by rw [HTX.out, hx]; rfl)
  rw [HJ.out] at hl
  have b1 : (t.kind == 1) = true := by rw [hx]; rfl
  clear hx
  go_enter Tryz.func55, Tryz.ntmps55
  go_wp2_with fail
  rw [← HWB.out]
  refine (wr_str H0.out ⟨#[73, 110, 116]⟩ ?_).mono ?_
  ·exact hl
  rintro e w1 ⟨rfl, g1⟩
  go_wp2_with fail
  go_end0
  exact ⟨rfl, (HA.out.over g1).eq (by rw [HJ.out])⟩
 by_cases hx : t.kind = 2
 ·as_aux_lemma =>
  have HJ : Hid (textT t = [84, 101, 120, 116]) := Lib.hid (by rw [HTX.out, hx]; rfl)
  rw [HJ.out] at hl
  have b1 : (t.kind == 1) = false := by rw [hx]; rfl
  have b2 : (t.kind == 2) = true := by rw [hx]; rfl
  clear hx
  go_enter Tryz.func55, Tryz.ntmps55
  go_wp2_with fail
  rw [← HWB.out]
  refine (wr_str H0.out ⟨#[84, 101, 120, 116]⟩ ?_).mono ?_
  ·exact hl
  rintro e w1 ⟨rfl, g1⟩
  go_wp2_with fail
  go_end0
  exact ⟨rfl, (HA.out.over g1).eq (by rw [HJ.out])⟩
 by_cases hx : t.kind = 3
 ·as_aux_lemma =>
  have HJ : Hid (textT t = [66, 111, 111, 108]) := Lib.hid (by rw [HTX.out, hx]; rfl)
  rw [HJ.out] at hl
  have b1 : (t.kind == 1) = false := by rw [hx]; rfl
  have b2 : (t.kind == 2) = false := by rw [hx]; rfl
  have b3 : (t.kind == 3) = true := by rw [hx]; rfl
  clear hx
  go_enter Tryz.func55, Tryz.ntmps55
  go_wp2_with fail
  rw [← HWB.out]
  refine (wr_str H0.out ⟨#[66, 111, 111, 108]⟩ ?_).mono ?_
  ·exact hl
  rintro e w1 ⟨rfl, g1⟩
  go_wp2_with fail
  go_end0
  exact ⟨rfl, (HA.out.over g1).eq (by rw [HJ.out])⟩
 by_cases hx : t.kind = 4
 ·as_aux_lemma =>
  have hn1 : t.subs.length = 1 := by
   have h := HSH.out
   unfold shapeOk at h
   rw [hx] at h
   simp at h
   omega
  obtain ⟨s, hs⟩ : ∃ s, t.subs[0]? = some s := ⟨_, List.getElem?_eq_getElem (by omega)⟩
  have HJ : Hid (textT t = [76, 105, 115, 116, 40] ++ textT s ++ [41]) := Lib.hid (by rw [HTX.out, hx]; simp [kindText]; rw [← List.getD_eq_getElem?_getD, textsT_at _ 0 s hs])
  rw [HJ.out] at hl
  simp only [List.length_append, List.length_cons, List.length_nil] at hl
  obtain ⟨g, o, v0, v1, v2, v3, v4, v5, v6, rfl, hg, e0, e1, e2, e3, e4, e5, e6, hs7⟩ := HS.out 0 s hs
  obtain ⟨Am, cm, At, ct, rfl, rfl, rfl, rfl, rfl, rfl, rfl⟩ := hs7.seven
  have HV7 : Hid (TyV W (.agg #[.int .i64 s.kind, .string s.pkg, .int .i64 s.major, .string s.mod, .string s.name, .slice Am s.names.length cm, .slice At s.subs.length ct]) s) := Lib.hid ⟨_, rfl, hs7⟩
  have IHs := Lib.hid (IH.out s (List.mem_of_getElem? hs))
  simp only [Nat.zero_mul, Nat.add_zero] at e0 e1 e2 e3 e4 e5 e6
  have h01 : 0 < t.subs.length := by omega
  have b1 : (t.kind == 1) = false := by rw [hx]; rfl
  have b2 : (t.kind == 2) = false := by rw [hx]; rfl
  have b3 : (t.kind == 3) = false := by rw [hx]; rfl
  have b4 : (t.kind == 4) = true := by rw [hx]; rfl
  clear hx hs7 hs hn1
  go_enter Tryz.func55, Tryz.ntmps55
  go_wp2_with fail
  rw [← HWB.out]
  refine (wr_str H0.out ⟨#[76, 105, 115, 116, 40]⟩ ?_).mono ?_
  ·show l.length + 5 ≤ 4000000; omega
  rintro e w1 ⟨rfl, g1⟩
  have c6 := g1.cell HK.out hne 6
  simp at c6
  have HW1 : Hid (Below W.heap.size W w1) := Lib.hid (HWw.out.trans (g1.2.1.mono hWB))
  have tr : ∀ q v, W.cell? ⟨g, q, none⟩ = some v → w1.cell? ⟨g, q, none⟩ = some v := fun q v hv => (HW1.out.cell (p := ⟨g, _, none⟩) hg).trans hv
  have h0 := tr _ _ e0
  have h1 := tr _ _ e1
  have h2 := tr _ _ e2
  have h3 := tr _ _ e3
  have h4 := tr _ _ e4
  have h5 := tr _ _ e5
  have h6 := tr _ _ e6
  clear tr e0 e1 e2 e3 e4 e5 e6
  go_wp2_with fail
  refine (IHs.out B b _ W wb w1 _ HV7.out HWw.out hWB HP.out g1 ?_).mono ?_
  ·simp only [List.length_append, List.length_cons, List.length_nil]; omega
  rintro e w2 ⟨rfl, g2⟩
  clear c6 h0 h1 h2 h3 h4 h5 h6
  go_wp2_with fail
  refine (wr_str g2 ⟨#[41]⟩ ?_).mono ?_
  ·show (l ++ [76, 105, 115, 116, 40] ++ textT s).length + 1 ≤ 4000000
   simp only [List.length_append, List.length_cons, List.length_nil]; omega
  rintro e w3 ⟨rfl, g3⟩
  go_wp2_with fail
  go_end0
  exact ⟨rfl, (HA.out.over g3).eq (by rw [HJ.out]; simp)⟩
 by_cases hx : t.kind = 5
 ·as_aux_lemma =>
  have hn1 : t.names.length = t.subs.length := by
   have h := HSH.out
   unfold shapeOk at h
   rw [hx] at h
   simp at h
   omega
  have HJ : Hid (textT t = [123] ++ rowOf (textsT t.subs) t.names t.subs.length ++ [125]) := Lib.hid (by rw [HTX.out, hx]; simp [kindText, HLT.out])
  rw [HJ.out] at hl
  simp only [List.length_append, List.length_cons, List.length_nil] at hl
  have HNN := Lib.hid hn1
  have b1 : (t.kind == 1) = false := by rw [hx]; rfl
  have b2 : (t.kind == 2) = false := by rw [hx]; rfl
  have b3 : (t.kind == 3) = false := by rw [hx]; rfl
  have b4 : (t.kind == 4) = false := by rw [hx]; rfl
  have b5 : (t.kind == 5) = true := by rw [hx]; rfl
  clear hx hn1
  go_enter Tryz.func55, Tryz.ntmps55
  go_wp2_with fail
  rw [← HWB.out]
  refine (wr_str H0.out ⟨#[123]⟩ ?_).mono ?_
  ·show l.length + 1 ≤ 4000000; omega
  rintro e w1 ⟨rfl, g1⟩
  have c0 := g1.cell HK.out hne 0
  have c1 := g1.cell HK.out hne 1
  have c2 := g1.cell HK.out hne 2
  have c3 := g1.cell HK.out hne 3
  have c4 := g1.cell HK.out hne 4
  have c5 := g1.cell HK.out hne 5
  have c6 := g1.cell HK.out hne 6
  simp at c0 c1 c2 c3 c4 c5 c6
  go_wp2_with fail
  refine (writeNamed_any t IH.out HNN.out HNM.out B b _ W wb w1 _ HV.out HWw.out hWB HP.out g1 ?_).mono ?_
  ·simp only [List.length_append, List.length_cons, List.length_nil]; omega
  rintro e w2 ⟨rfl, g2⟩
  clear c0 c1 c2 c3 c4 c5 c6
  go_wp2_with fail
  refine (wr_str g2 ⟨#[125]⟩ ?_).mono ?_
  ·show (l ++ [123] ++ rowOf (textsT t.subs) t.names t.subs.length).length + 1 ≤ 4000000
   simp only [List.length_append, List.length_cons, List.length_nil]; omega
  rintro e w3 ⟨rfl, g3⟩
  go_wp2_with fail
  go_end0
  exact ⟨rfl, (HA.out.over g3).eq (by rw [HJ.out]; simp)⟩
 by_cases hx : t.kind = 6
 ·as_aux_lemma =>
  have hn1 : t.names.length = t.subs.length := by
   have h := HSH.out
   unfold shapeOk at h
   rw [hx] at h
   simp at h
   omega
  have HJ : Hid (textT t = [91] ++ rowOf (textsT t.subs) t.names t.subs.length ++ [93]) := Lib.hid (by rw [HTX.out, hx]; simp [kindText, HLT.out])
  rw [HJ.out] at hl
  simp only [List.length_append, List.length_cons, List.length_nil] at hl
  have HNN := Lib.hid hn1
  have b1 : (t.kind == 1) = false := by rw [hx]; rfl
  have b2 : (t.kind == 2) = false := by rw [hx]; rfl
  have b3 : (t.kind == 3) = false := by rw [hx]; rfl
  have b4 : (t.kind == 4) = false := by rw [hx]; rfl
  have b5 : (t.kind == 5) = false := by rw [hx]; rfl
  have b6 : (t.kind == 6) = true := by rw [hx]; rfl
  clear hx hn1
  go_enter Tryz.func55, Tryz.ntmps55
  go_wp2_with fail
  rw [← HWB.out]
  refine (wr_str H0.out ⟨#[91]⟩ ?_).mono ?_
  ·show l.length + 1 ≤ 4000000; omega
  rintro e w1 ⟨rfl, g1⟩
  have c0 := g1.cell HK.out hne 0
  have c1 := g1.cell HK.out hne 1
  have c2 := g1.cell HK.out hne 2
  have c3 := g1.cell HK.out hne 3
  have c4 := g1.cell HK.out hne 4
  have c5 := g1.cell HK.out hne 5
  have c6 := g1.cell HK.out hne 6
  simp at c0 c1 c2 c3 c4 c5 c6
  go_wp2_with fail
  refine (writeNamed_any t IH.out HNN.out HNM.out B b _ W wb w1 _ HV.out HWw.out hWB HP.out g1 ?_).mono ?_
  ·simp only [List.length_append, List.length_cons, List.length_nil]; omega
  rintro e w2 ⟨rfl, g2⟩
  clear c0 c1 c2 c3 c4 c5 c6
  go_wp2_with fail
  refine (wr_str g2 ⟨#[93]⟩ ?_).mono ?_
  ·show (l ++ [91] ++ rowOf (textsT t.subs) t.names t.subs.length).length + 1 ≤ 4000000
   simp only [List.length_append, List.length_cons, List.length_nil]; omega
  rintro e w3 ⟨rfl, g3⟩
  go_wp2_with fail
  go_end0
  exact ⟨rfl, (HA.out.over g3).eq (by rw [HJ.out]; simp)⟩
 by_cases hx : t.kind = 7
 ·as_aux_lemma =>
  have hn1 : 0 < t.subs.length := by
   have h := HSH.out
   unfold shapeOk at h
   rw [hx] at h
   simp at h
   omega
  obtain ⟨m, hm⟩ : ∃ m, t.subs.length = m + 1 := ⟨t.subs.length - 1, by omega⟩
  obtain ⟨s, hs⟩ : ∃ s, t.subs[m]? = some s := ⟨_, List.getElem?_eq_getElem (by omega)⟩
  have HJ : Hid (textT t = [40] ++ rowOf (textsT t.subs) [] m ++ [41, 32, 45, 62, 32] ++ textT s) := Lib.hid (by rw [HTX.out, hx]; show [40] ++ rowOf (textsT t.subs) [] ((textsT t.subs).length - 1) ++ [41, 32, 45, 62, 32] ++ (textsT t.subs).getD ((textsT t.subs).length - 1) [] = _; rw [HLT.out, hm, Nat.add_sub_cancel, textsT_at _ m s hs])
  rw [HJ.out] at hl
  simp only [List.length_append, List.length_cons, List.length_nil] at hl
  have HM := Lib.hid hm
  have HSS := Lib.hid hs
  have b1 : (t.kind == 1) = false := by rw [hx]; rfl
  have b2 : (t.kind == 2) = false := by rw [hx]; rfl
  have b3 : (t.kind == 3) = false := by rw [hx]; rfl
  have b4 : (t.kind == 4) = false := by rw [hx]; rfl
  have b5 : (t.kind == 5) = false := by rw [hx]; rfl
  have b6 : (t.kind == 6) = false := by rw [hx]; rfl
  have b7 : (t.kind == 7) = true := by rw [hx]; rfl
  clear hx hn1 hm hs
  go_enter Tryz.func55, Tryz.ntmps55
  go_wp2_with fail
  rw [← HWB.out]
  have c6 := H0.out.cell HK.out hne 6
  simp at c6
  go_wp2_with fail
  refine (writeFunc_at t.subs m _ HM.out rfl s HSS.out IH.out As cs B b HCAP.out hz W wb wb l HS.out HWw.out hWB HP.out H0.out ?_).mono ?_
  ·omega
  rintro e w2 ⟨rfl, g2⟩
  go_wp2_with fail
  go_end0
  exact ⟨rfl, (HA.out.over g2).eq (by rw [HJ.out])⟩
 by_cases hx : t.kind = 8
 ·as_aux_lemma =>
  have HX := Lib.hid hx
  have b1 : (t.kind == 1) = false := by rw [hx]; rfl
  have b2 : (t.kind == 2) = false := by rw [hx]; rfl
  have b3 : (t.kind == 3) = false := by rw [hx]; rfl
  have b4 : (t.kind == 4) = false := by rw [hx]; rfl
  have b5 : (t.kind == 5) = false := by rw [hx]; rfl
  have b6 : (t.kind == 6) = false := by rw [hx]; rfl
  have b7 : (t.kind == 7) = false := by rw [hx]; rfl
  have b8 : (t.kind == 8) = true := by rw [hx]; rfl
  clear hx
  go_enter Tryz.func55, Tryz.ntmps55
  go_wp2_with fail
  rw [← HWB.out]
  have c0 := H0.out.cell HK.out hne 0
  have c1 := H0.out.cell HK.out hne 1
  have c2 := H0.out.cell HK.out hne 2
  have c3 := H0.out.cell HK.out hne 3
  have c4 := H0.out.cell HK.out hne 4
  have c5 := H0.out.cell HK.out hne 5
  have c6 := H0.out.cell HK.out hne 6
  simp at c0 c1 c2 c3 c4 c5 c6
  go_wp2_with fail
  refine (writeLocal_any t HOWN.out HX.out B b _ W wb wb l HV.out HWw.out hWB H0.out hl).mono ?_; rintro e w2 ⟨rfl, g2⟩
  go_wp2_with fail
  go_end0
  exact ⟨rfl, HA.out.over g2⟩
 by_cases hx : t.kind = 9
 ·as_aux_lemma =>
  have hm : (1 ≤ t.major ∧ t.major ≤ 999999999) ∧ t.pkg.size ≤ 20 ∧ t.mod.size ≤ 20 ∧ t.name.size ≤ 20 := by
   have h := HSH.out
   unfold shapeOk at h
   rw [hx] at h
   simp at h
   exact ⟨⟨h.1.2, h.2⟩, small_len h.1.1.1.1.2, small_len h.1.1.1.2, great_len h.1.1.2⟩
  obtain ⟨⟨m1, m2⟩, z1, z2, z3⟩ := hm
  have z4 := dec_size t.major (by omega) (by omega)
  have HJ : Hid ((⟨#[60]⟩ ++ t.pkg ++ ⟨#[32]⟩ ++ dec t.major ++ ⟨#[32]⟩ ++ t.mod ++ ⟨#[32]⟩ ++ t.name ++ ⟨#[62]⟩ : ByteArray).data.toList = textT t) := Lib.hid (by rw [HTX.out, hx]; simp [kindText])
  have HZ : Hid ((⟨#[60]⟩ ++ t.pkg ++ ⟨#[32]⟩ ++ dec t.major ++ ⟨#[32]⟩ ++ t.mod ++ ⟨#[32]⟩ ++ t.name ++ ⟨#[62]⟩ : ByteArray).size = (textT t).length) := Lib.hid (by rw [← HJ.out, len_size])
  have n1 : ¬ (1 + t.pkg.size > 9223372036854775807) := by omega
  have n2 : ¬ (1 + t.pkg.size + 1 > 9223372036854775807) := by omega
  have n3 : ¬ (1 + t.pkg.size + 1 + (dec t.major).size > 9223372036854775807) := by omega
  have n4 : ¬ (1 + t.pkg.size + 1 + (dec t.major).size + 1 > 9223372036854775807) := by omega
  have n5 : ¬ (1 + t.pkg.size + 1 + (dec t.major).size + 1 + t.mod.size > 9223372036854775807) := by omega
  have n6 : ¬ (1 + t.pkg.size + 1 + (dec t.major).size + 1 + t.mod.size + 1 > 9223372036854775807) := by omega
  have n7 : ¬ (1 + t.pkg.size + 1 + (dec t.major).size + 1 + t.mod.size + 1 + t.name.size > 9223372036854775807) := by omega
  have n8 : ¬ (1 + t.pkg.size + 1 + (dec t.major).size + 1 + t.mod.size + 1 + t.name.size + 1 > 9223372036854775807) := by omega
  have cD : ∀ dd os, Calls Tryz.prog 96 #[.int .i64 t.major] (Sort.grow (redrawn wb dd) os) fun e w'' => e = .returned (.string (dec t.major)) ∧ ∃ pp : Regrown, w'' = Sort.grow (redrawn wb pp.d) pp.os := fun dd os => Calls.regrown_of (itoa_any _ _ (by omega) (by omega) ((HP.out.on HWw.out).on (below_regrown _ dd os)))
  have y0 := H0.out.cell HK.out hne 0
  have y1 := H0.out.cell HK.out hne 1
  have y2 := H0.out.cell HK.out hne 2
  have y3 := H0.out.cell HK.out hne 3
  have y4 := H0.out.cell HK.out hne 4
  have y5 := H0.out.cell HK.out hne 5
  have y6 := H0.out.cell HK.out hne 6
  simp at y0 y1 y2 y3 y4 y5 y6
  have p1 := cell_regrown y1
  have p2 := cell_regrown y2
  have p3 := cell_regrown y3
  have p4 := cell_regrown y4
  have b1 : (t.kind == 1) = false := by rw [hx]; rfl
  have b2 : (t.kind == 2) = false := by rw [hx]; rfl
  have b3 : (t.kind == 3) = false := by rw [hx]; rfl
  have b4 : (t.kind == 4) = false := by rw [hx]; rfl
  have b5 : (t.kind == 5) = false := by rw [hx]; rfl
  have b6 : (t.kind == 6) = false := by rw [hx]; rfl
  have b7 : (t.kind == 7) = false := by rw [hx]; rfl
  have b8 : (t.kind == 8) = false := by rw [hx]; rfl
  have b9 : (t.kind == 9) = true := by rw [hx]; rfl
  clear hx
  go_enter Tryz.func55, Tryz.ntmps55
  go_wp2_with fail
  rw [← HWB.out]
  clear z4 y0 y5 y6
  go_wp2_with fail
  refine wp_region_last (C := fun w' => ∃ p : Regrown, w' = Sort.grow (redrawn wb p.d) p.os) (by kernel_rfl) rfl rfl (by kernel_rfl) (by intro cs b h; cases h) (by kernel_rfl) (by kernel_rfl) (by kernel_rfl) ⟨⟨wb.drawn + 1, #[]⟩, by rw [grow_empty]; rfl⟩ ?_
  unfold tameLast
  simp only [List.dropLast, List.cons_append, List.nil_append]
  repeat (any_goals (first | go_big_quiet_step (with_reducible exact cD _ _) | quiet_step (with_reducible exact cD _ _)))
  refine wpQuiet_nil ?_
  intro w' hw'
  obtain ⟨⟨dq, osq⟩, hw''⟩ := hw'
  subst hw''
  have g1 := H0.out.below (below_regrown wb dq osq)
  refine ⟨92, #[.pointer (some ⟨b, 0, none⟩), .string (⟨#[60]⟩ ++ t.pkg ++ ⟨#[32]⟩ ++ dec t.major ++ ⟨#[32]⟩ ++ t.mod ++ ⟨#[32]⟩ ++ t.name ++ ⟨#[62]⟩ : ByteArray)], by go_simp, ?_⟩
  refine (wr_str g1 _ ?_).mono ?_
  ·rw [HZ.out]; exact hl
  rintro e w3 ⟨rfl, g3⟩
  refine ⟨_, rfl, ?_⟩
  go_wp2_with fail
  go_end0
  exact ⟨rfl, (HA.out.over g3).eq (by rw [HJ.out])⟩
 exfalso
 have h := HSH.out
 unfold shapeOk at h
 simp_all
set_option maxRecDepth 100000 in
set_option maxHeartbeats 4000000 in
theorem printK_yes (t : Ty) (h : mayT t = true) (hM : many t ≤ 9000) (v : Value) (w : World) (hv : TyV w v t) (hP : Pow w) :
  Calls Tryz.prog 23 #[v] w fun e w' => e = .returned (.tuple #[.string (tB t), .nilIface]) ∧ Below w.heap.size w w' := by
 have hall : allOk t = true := by
  have h' := h
  unfold mayT at h'
  simp only [Bool.and_eq_true] at h'
  exact h'.1.1
 have htl := text_len t hall
 have HWR := Lib.hid (write_any _ t (Nat.le_refl _) hall)
 have HM := Lib.hid h
 have HP := Lib.hid hP
 have hlen : (textT t).length ≤ 4000000 := by omega
 have HV := Lib.hid hv
 obtain ⟨lv, rfl, hT⟩ := hv
 obtain ⟨An, cn, As, cs, rfl, -, -, -, -, -, -, -⟩ := hT.parts
 clear hT hP h hall htl
 obtain ⟨wb, hwb⟩ : ∃ wb, wb = w.alloc (.cells #[.int .i64 t.kind, .string t.pkg, .int .i64 t.major, .string t.mod, .string t.name, .slice An t.names.length cn, .slice As t.subs.length cs] 30) := ⟨_, rfl⟩
 have HBB : Hid (Below w.heap.size w wb) := Lib.hid (by rw [hwb]; exact below_new (Below.refl _ _) _)
 have HBX : Hid (wb.heap[w.heap.size]? = some (.cells #[.int .i64 t.kind, .string t.pkg, .int .i64 t.major, .string t.mod, .string t.name, .slice An t.names.length cn, .slice As t.subs.length cs] 30 (0, 0))) := Lib.hid (by rw [hwb]; exact heap_alloc_new w _)
 have HWB := Lib.hid hwb
 clear hwb
 go_enter Tryz.func23, Tryz.ntmps23
 go_wp2_with fail
 rw [← HWB.out]
 refine (mayK_any t _ _ (HV.out.below HBB.out)).mono ?_; rintro e w1 ⟨rfl, hb1⟩; rw [HM.out]
 have HB1 : Hid (Below w.heap.size w w1) := Lib.hid (HBB.out.trans (hb1.mono HBB.out.size))
 have hlt : w.heap.size < wb.heap.size := (Array.getElem?_eq_some_iff.1 HBX.out).1
 have hlt1 : w.heap.size < w1.heap.size := Nat.lt_of_lt_of_le hlt hb1.size
 have HX1 : Hid (∀ i v, (#[.int .i64 t.kind, .string t.pkg, .int .i64 t.major, .string t.mod, .string t.name, .slice An t.names.length cn, .slice As t.subs.length cs] : Array Value)[i]? = some v → w1.cell? ⟨w.heap.size, i, none⟩ = some v) := Lib.hid (fun i v hv => by
  rw [(bcell hb1).1 _ _ hlt, Lib.cell_of_heap HBX.out]; exact hv)
 have x0 := HX1.out 0 _ rfl
 have x1 := HX1.out 1 _ rfl
 have x2 := HX1.out 2 _ rfl
 have x3 := HX1.out 3 _ rfl
 have x4 := HX1.out 4 _ rfl
 have x5 := HX1.out 5 _ rfl
 have x6 := HX1.out 6 _ rfl
 have h0 := Lib.hid (Lib.fresh_isBuilder 108 5 w1)
 clear hb1
 go_wp2_with fail
 have W0 : Wr w1.heap.size w1.heap.size (w1.alloc (.cells #[.pointer none, .slice none 0 0] 108)) [] (w1.alloc (.cells #[.pointer none, .slice none 0 0] 108)) := ⟨h0.out, Below.refl _ _, Lib.OthersKept.refl _ _ _⟩
 refine (HWR.out w1.heap.size w1.heap.size _ w1 _ _ [] (HV.out.below HB1.out) (below_new (Below.refl _ _) _) (Nat.le_refl _) (HP.out.on HB1.out) W0 (by simpa using hlen)).mono ?_; rintro e w2 ⟨rfl, g2⟩
 have HB2 : Hid (Below w.heap.size w w2) := Lib.hid ((below_new HB1.out _).trans (g2.2.1.mono HB1.out.size))
 have hsz : w1.heap.size ≤ w2.heap.size := by have := g2.lt; omega
 clear x0 x1 x2 x3 x4 x5 x6
 go_wp2_with fail
 refine (Tryz.Builder_String_any w1.heap.size w1.heap.size (textT t) _ g2.1 hsz).mono ?_; rintro e w3 ⟨rfl, hb3⟩
 go_wp2_with fail
 go_ret2
 exact ⟨rfl, HB2.out.trans (hb3.mono HB1.out.size)⟩
end Go.Proofs.YtkgmdbkcldojnaaGreatDoor
