/-
  Several texts in one.
-/
import Derived.Test.YtcdmgcgjonndpaaGreatDoorK27
set_option maxRecDepth 100000
set_option maxHeartbeats 16000000
namespace Go.Proofs.YtcdmgcgjonndpaaGreatDoor
open Go Go.RowKit Go.Shelf
open Go.Sort Go.Maps
open M
theorem code_cell {w : World} {g : Nat} (h : w.heap[g]? = some (.cells #[.int .i64 5, .int .i64 4, .int .i64 6, .int .i64 10] 3 (0, 0))) (c : Nat) (hc : c < 4) : w.cell? ⟨g, c, none⟩ = some (.int .i64 (codeN c)) := by
 have h4 : c = 0 \/ c = 1 \/ c = 2 \/ c = 3 := by omega
 rw [cZ h]
 rcases h4 with rfl | rfl | rfl | rfl <;> rfl
theorem rcheck_any (m : Mo) (l : List Value) (w : World) (h : MoAt w l m) (hM : ∀ d ∈ m.decs, many d.typ <= 9000) :
  Calls Tryz.prog 22 #[.agg l.toArray] w fun e w' => ∃ b p : Int, e = .returned (.tuple #[.int .i64 b, .int .i64 p]) /\ RkOut m b p /\ Below w.heap.size w w' := by
 have HM := hZ hM
 have HV := hZ h
 obtain ⟨Ai, ci, Ad, cd, rfl, z1, z2, z3, hIm, -⟩ := h
 have HIm := hZ hIm
 obtain ⟨n, hn⟩ : ∃ n, n = m.decs.length := ⟨_, rfl⟩
 obtain ⟨ni, hni⟩ : ∃ ni, ni = m.imps.length := ⟨_, rfl⟩
 have HN := hZ hn
 have HNI := hZ hni
 rw [<- hn, <- hni] at HV ⊢
 rw [<- hni] at z2
 rw [<- hn] at z3
 obtain ⟨w0, hw0⟩ : ∃ w0, w0 = w.alloc (.cells #[.string m.name, .slice Ai ni ci, .slice Ad n cd] 25) := ⟨_, rfl⟩
 have B0 : Below w.heap.size w w0 := by rw [hw0]; exact below_new (Below.refl _ _) _
 have O0 : w0.heap[w.heap.size]? = some (.cells #[.string m.name, .slice Ai ni ci, .slice Ad n cd] 25 (0, 0)) := by rw [hw0]; exact heap_alloc_new w _
 have hl0 : w.heap.size < w0.heap.size := by rw [hw0]; simp
 have HB0 := hZ B0
 have HO0 := hZ O0
 have HW0 := hZ hw0
 obtain ⟨x0, x1, x2⟩ := cq3 O0
 simp at x0 x1 x2
 clear hM hIm hn hni hw0 B0 O0
 go_enter Tryz.func22, Tryz.ntmps22
 go_upto_region 1 with fail
 rw [<- HW0.out]
 clear HW0
 go_wp2_with fail
 refine (rmay6_any m _ _ (HV.out.below HB0.out) HM.out).mono ?_; rintro e w1 ⟨rfl, hb1⟩
 have HB1 := hZ (below_over HB0.out hb1)
 have HP : Hid (∀ wx, Below w1.heap.size w1 wx -> wx.heap[w.heap.size]? = some (.cells #[.string m.name, .slice Ai ni ci, .slice Ad n cd] 25 (0, 0))) := hZ (fun wx hb => (hb.block _ (Nat.lt_of_lt_of_le hl0 hb1.size)).trans ((hb1.block _ hl0).trans HO0.out))
 clear x0 x1 x2 hb1 HO0
 rcases hid_or (mayM m) with hm | hm
 ·rw [hm.out]
  have RES : Hid (RkOut m 1 (-1)) := hZ (.inl ⟨hm.out, rfl, rfl⟩);go_wp2_with fail
  go_ret2
  exact ⟨_, _, rfl, RES.out, HB1.out⟩
 rw [hm.out]
 have hn60 : n <= 60 := by rw [HN.out]; exact (mayM_parts hm.out).2.1
 have hi20 : ni <= 20 := by rw [HNI.out]; exact (mayM_parts hm.out).1
 have BC : Hid (∀ wx, Below w1.heap.size w1 wx -> ∀ i c : Nat, i < n -> c < 4 -> Calls Tryz.prog 56 #[.agg #[.string m.name, .slice Ai ni ci, .slice Ad n cd], .int .i64 i, .int .i64 (codeN c)] wx fun e w' => e = .returned (.bool (badN m i (codeN c))) /\ Below wx.heap.size wx w') := hZ (fun wx hb i c hi hc => rbad_any m _ i c wx (HV.out.below (below_over HB1.out hb)) hm.out HM.out (by rw [<- HN.out]; exact hi) hc)
 go_wp2_with fail
 go_loopw [5] (fun s5 wr => ∃ i : Nat, i <= ni /\ s5 = .int .i64 i /\ Hid (∀ j, j < i -> dupB (·.asn) m.imps j = false) /\ Hid (Below w1.heap.size w1 wr)) (fun s5 _ => ni - (intOf s5).toNat)
 case atStart => exact ⟨0, by omega, rfl, hZ (fun j h => by omega), hZ (Below.refl _ _)⟩
 case round =>
  obtain ⟨i, hi, rfl, HNO, HBo⟩ := hrel;obtain ⟨wo, rfl⟩ : ∃ wo : World, wo = wr := ⟨_, rfl⟩;have X := HP.out wo HBo.out;have x1 := cZ X 1;simp at x1;by_cases hlt : i < ni
  ·obtain ⟨x, hx⟩ : ∃ x, m.imps[i]? = some x := ⟨_, List.getElem?_eq_getElem (by rw [<- HNI.out]; exact hlt)⟩
   have HX := hZ hx;have hi0 : (0 : Int) <= i := by omega
   have hi1 : (i : Int) < ni := by omega
   clear hx X;go_wp2_with fail
   clear x1;go_loopw [6] (fun s6 wr => ∃ k : Nat, k <= i /\ s6 = .int .i64 k /\ Hid (∀ y ∈ m.imps.take k, decide (y.asn = x.asn) = false) /\ Hid (Below wo.heap.size wo wr)) (fun s6 _ => i - (intOf s6).toNat)
   case atStart => exact ⟨0, by omega, rfl, hZ (by simp), hZ (Below.refl _ _)⟩
   case round =>
    obtain ⟨k, hk, rfl, HNK, HBi⟩ := hrel;obtain ⟨wi, rfl⟩ : ∃ wi : World, wi = wr := ⟨_, rfl⟩;have HBiw : Hid (Below w1.heap.size w1 wi) := hZ (below_over HBo.out HBi.out);by_cases hkl : k < i
    ·obtain ⟨y, hy⟩ : ∃ y, m.imps[k]? = some y := ⟨_, List.getElem?_eq_getElem (by rw [<- HNI.out]; omega)⟩
     have HIi := HIm.out.below (below_over HB1.out HBiw.out);obtain ⟨g, o, rfl, -, a0, a1, a2, a3, -⟩ := HIi.im hy;obtain ⟨g', o', hA, -, b0, b1, b2, b3, -⟩ := HIi.im HX.out;cases hA
     have X := HP.out wi HBiw.out;have x1 := cZ X 1;simp at x1;have hq := str_eq y.asn x.asn;have HYY := hZ hy;have hk0 : (0 : Int) <= k := by omega
     have hk1 : (k : Int) < ni := by omega
     have hk2 : (k : Int) < i := by omega
     clear hy X HIi;by_cases hs : y.asn = x.asn
     ·rw [decide_eq_true hs] at hq
      have RES : Hid (RkOut m 5 i) := hZ (rk_imp hm.out (by rw [<- HNI.out]; exact hlt) HNO.out (by
       rw [dupB_some HX.out, List.any_eq_true];exact ⟨y, List.mem_of_getElem? (i := k) (by rw [List.getElem?_take, if_pos hkl]; exact HYY.out), by simpa using hs⟩))
      clear hs;go_wp2_with fail
      go_quiet (fail)
      go_wp2_with fail
      go_ret2
      exact ⟨_, _, rfl, RES.out, below_drewN (below_over HB1.out HBiw.out) _⟩
     ·rw [decide_eq_false hs] at hq
      have NX : Hid (∀ z ∈ m.imps.take (k + 1), decide (z.asn = x.asn) = false) := hZ (fun z hz => by
       rw [List.take_add_one, HYY.out] at hz;rcases List.mem_append.1 hz with h | h
       ·exact HNK.out z h
       ·simp at h; rw [h]; simpa using hs)
      clear hs;go_wp2_with fail
      go_quiet (fail)
      go_wp2_with fail
      go_roundw
      case rel => exact ⟨k + 1, by omega, by go_num, NX, hZ (below_drewN HBi.out _)⟩
      case measure => simp [intOf]; omega
    ·have hki : k = i := by omega
     have NX : Hid (∀ j, j < i + 1 -> dupB (·.asn) m.imps j = false) := hZ (fun j hj => by
      rcases Nat.lt_or_ge j i with h | h
      ·exact HNO.out j h
      ·obtain rfl : j = i := by omega
       rw [dupB_some HX.out, List.any_eq_false];intro z hz;have := HNK.out z (by rw [hki]; exact hz)
       simpa using this)
     clear hki;go_wp2_with fail
     go_roundw
     case rel => exact ⟨i + 1, by omega, by go_num, NX, HBiw⟩
     case measure => simp [intOf]; omega
  ·have hni' : i = ni := by omega
   have HNO' : Hid (∀ j, j < m.imps.length -> dupB (·.asn) m.imps j = false) := hZ (fun j hj => HNO.out j (by rw [hni', HNI.out]; exact hj))
   clear hni' HNO X;obtain ⟨w2, hw2⟩ : ∃ w2, w2 = wo.alloc (.cells #[.int .i64 5, .int .i64 4, .int .i64 6, .int .i64 10] 3) := ⟨_, rfl⟩;have B2 : Below wo.heap.size wo w2 := by rw [hw2]; exact below_new (Below.refl _ _) _
   have X2 : w2.heap[wo.heap.size]? = some (.cells #[.int .i64 5, .int .i64 4, .int .i64 6, .int .i64 10] 3 (0, 0)) := by rw [hw2]; exact heap_alloc_new wo _
   have hl2 : wo.heap.size < w2.heap.size := by rw [hw2]; simp
   have HB2 : Hid (Below w1.heap.size w1 w2) := hZ (below_over HBo.out B2);have HX2 := hZ X2;have HW2 := hZ hw2;clear hw2 B2 X2;go_upto_region 13 with fail
   rw [<- HW2.out];clear x1;go_wp2_with fail
   go_loopw [8] (fun s8 wr => ∃ c : Nat, c <= 4 /\ s8 = .int .i64 c /\ Hid (∀ c', c' < c -> ∀ i, i < m.decs.length -> badN m i (codeN c') = false) /\ Hid (Below w2.heap.size w2 wr)) (fun s8 _ => 4 - (intOf s8).toNat)
   case atStart => exact ⟨0, by omega, rfl, hZ (fun c h => by omega), hZ (Below.refl _ _)⟩
   case round =>
    obtain ⟨c, hc, rfl, HNC, HBc⟩ := hrel;obtain ⟨wc, rfl⟩ : ∃ wc : World, wc = wr := ⟨_, rfl⟩;by_cases hc4 : c < 4
    ·have hc0 : (0 : Int) <= c := by omega
     have hc1 : (c : Int) < 4 := by omega
     go_wp2_with fail
     go_loopw [9] (fun s9 wr => ∃ i : Nat, i <= n /\ s9 = .int .i64 i /\ Hid (∀ j, j < i -> badN m j (codeN c) = false) /\ Hid (Below wc.heap.size wc wr)) (fun s9 _ => n - (intOf s9).toNat)
     case atStart => exact ⟨0, by omega, rfl, hZ (fun j h => by omega), hZ (Below.refl _ _)⟩
     case round =>
      obtain ⟨j, hj, rfl, HNJ, HBj⟩ := hrel;obtain ⟨wj, rfl⟩ : ∃ wj : World, wj = wr := ⟨_, rfl⟩;have HBj2 : Hid (Below w2.heap.size w2 wj) := hZ (below_over HBc.out HBj.out);have HBj1 : Hid (Below w1.heap.size w1 wj) := hZ (below_over HB2.out HBj2.out);have X := HP.out wj HBj1.out;obtain ⟨x0, x1, x2⟩ := cq3 X;simp at x0 x1 x2;have hcc := code_cell ((HBj2.out.block _ hl2).trans HX2.out) c hc4;by_cases hjl : j < n
      ·obtain ⟨q, hq⟩ : ∃ q, q = badN m j (codeN c) := ⟨_, rfl⟩
       have cB : ∀ dd os, Calls Tryz.prog 56 #[.agg #[.string m.name, .slice Ai ni ci, .slice Ad n cd], .int .i64 j, .int .i64 (codeN c)] (Sort.grow (redrawn wj dd) os) fun e w'' => e = .returned (.bool q) /\ ∃ pp : Regrown, w'' = Sort.grow (redrawn wj pp.d) pp.os := fun dd os => Calls.regrown_of (by rw [hq]; exact BC.out _ (HBj1.out.trans ((below_regrown wj dd os).mono HBj1.out.size)) j c hjl hc4)
       have HQ := hZ hq;clear hq X;go_upto_region 19 with fail
       have p0 := cell_regrown x0;have p1 := cell_regrown x1;have p2 := cell_regrown x2;have pc := cell_regrown hcc;clear x0 x1 x2 hcc;refine wp_region_quiet_below (by kernel_rfl) (by kernel_rfl) ?_;repeat (any_goals (first | go_big_quiet_step (with_reducible exact cB _ _) | quiet_step (with_reducible exact cB _ _)))
       refine wpQuiet_nil ?_;intro w5 hw'
       have HB5 : Hid (Below wj.heap.size wj w5) := hZ (by
        obtain ⟨⟨dq, osq⟩, hw''⟩ := hw';rw [hw''];exact below_regrown wj dq osq)
       clear hw' cB p0 p1 p2 pc;have hcc5 := code_cell (((below_over HBj2.out HB5.out).block _ hl2).trans HX2.out) c hc4;cases q with
       | true =>
        have RES : Hid (RkOut m (codeN c) j) := hZ (rk_dec hm.out HNO'.out hc4 HNC.out (by rw [<- HN.out]; exact hjl) HNJ.out HQ.out.symm);go_wp2_with fail
        go_ret2
        exact ⟨_, _, rfl, RES.out, below_over HB1.out (below_over HBj1.out HB5.out)⟩
       | false =>
        have NX : Hid (∀ j', j' < j + 1 -> badN m j' (codeN c) = false) := hZ (fun j' hj' => by
         rcases Nat.lt_or_ge j' j with h | h
         ·exact HNJ.out j' h
         ·obtain rfl : j' = j := by omega
          exact HQ.out.symm)
        clear hcc5;go_wp2_with fail
        go_roundw
        case rel => exact ⟨j + 1, by omega, by go_num, NX, hZ (below_over HBj.out HB5.out)⟩
        case measure => simp [intOf]; omega
      ·have hjn : j = n := by omega
       have NX : Hid (∀ c', c' < c + 1 -> ∀ i, i < m.decs.length -> badN m i (codeN c') = false) := hZ (fun c' hc' i hi => by
        rcases Nat.lt_or_ge c' c with h | h
        ·exact HNC.out c' h i hi
        ·obtain rfl : c' = c := by omega
         exact HNJ.out i (by rw [hjn, HN.out]; exact hi))
       clear hjn X x0 x1 hcc;go_wp2_with fail
       go_roundw
       case rel => exact ⟨c + 1, by omega, by go_num, NX, HBj2⟩
       case measure => simp [intOf]; omega
    ·have hc4' : c = 4 := by omega
     have RES : Hid (RkOut m 0 (-1)) := hZ (rk_none hm.out HNO'.out (fun c' hc' i hi => HNC.out c' (by omega) i hi));have FB : Hid (Below w.heap.size w wc) := hZ (below_over HB1.out (below_over HB2.out HBc.out));clear hc4';go_wp2_with fail
     go_ret2
     exact ⟨_, _, rfl, RES.out, FB.out⟩
end Go.Proofs.YtcdmgcgjonndpaaGreatDoor
