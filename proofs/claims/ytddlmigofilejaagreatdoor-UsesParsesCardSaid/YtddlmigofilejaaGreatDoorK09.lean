/-
  Several texts in one.
-/
import Derived.Test.YtddlmigofilejaaGreatDoorK06
open List (getElem_toArray getElem_cons_succ getElem_cons_zero set_cons_zero set_cons_succ setIfInBounds_toArray)
set_option maxRecDepth 100000
set_option maxHeartbeats 4000000
namespace Go.Proofs.YtddlmigofilejaaGreatDoor
open Go.RowKit
open Go.Sort
open M
theorem tok0 : (⟨#[]⟩ : ByteArray).size <= 9223372036854775807 := by decide
theorem type_step {W : World} {r : Nat} {A : Option Addr} {S : Toks} {cn f : Nat} (hTy : TypeOk W r A S cn f) (hPa : PartsOk W r A S cn f) (hFn : FnOk W r A S cn f) : TypeOk W r A S cn (f + 1) := by
 intro d i c b w hd hc5 hc h hne
 have hbig := hc.big
 have hr := h.lt
 obtain ⟨W1, hW1⟩ : ∃ W1, W1 = w.alloc (.cells #[.int .i64 0, .string ⟨#[]⟩, .int .i64 0, .string ⟨#[]⟩, .string ⟨#[]⟩, .slice none 0 0, .slice none 0 0] 48) := ⟨_, rfl⟩
 have B1 : Below w.heap.size w W1 := by rw [hW1]; exact below_new (Below.refl _ _) _
 have s1 : W1.heap.size = w.heap.size + 1 := by rw [hW1]; simp
 have X1 : W1.heap[w.heap.size]? = some (.cells #[.int .i64 0, .string ⟨#[]⟩, .int .i64 0, .string ⟨#[]⟩, .string ⟨#[]⟩, .slice none 0 0, .slice none 0 0] 48 (0, 0)) := by rw [hW1]; exact heap_alloc_new w _
 have C1 := hc.on (Kp.of_below B1) hr
 have R1 := h.on B1
 have BG := zH (begins_any C1 R1)
 have HX1 := zH X1
 have HC1 := zH C1
 have HR1 := zH R1
 have HB1 := zH B1
 have HW1 := zH hW1
 have HC0 := zH hc
 have HTy := zH hTy
 have HPa := zH hPa
 have HFn := zH hFn
 clear hc h B1 X1 C1 R1 hW1 hTy hPa hFn
 go_enter Tryz.func82, Tryz.ntmps82
 go_wp2_with fail
 rw [<- HW1.out]
 refine BG.out.mono ?_; rintro e w2 ⟨rfl, hb2⟩
 have K2 : Kp r w w2 := (Kp.of_below HB1.out).trans (Kp.of_below hb2)
 have C2 := HC1.out.on (Kp.of_below hb2) HR1.out.lt
 have R2 := HR1.out.on hb2
 have s2 := hb2.size
 have X2 : w2.heap[w.heap.size]? = _ := (hb2.block _ (by omega)).trans HX1.out
 have hs2 : w.heap.size < w2.heap.size := by omega
 have HX2 := zH X2
 have HK2 := zH K2
 have HC2 := zH C2
 have HR2 := zH R2
 clear hb2 K2 C2 X2 BG HX1 HC1 HB1 HW1 s1 s2 HR1
 by_cases hbg : b = 0 /\ S.begins i = true
 rotate_left
 ·have e0 : (decide (b = 0) && S.begins i) = false := by
   by_cases hb : b = 0
   ·subst hb
    have : S.begins i ≠ true := fun e => hbg ⟨rfl, e⟩
    simp at this; rw [this]; rfl
   ·simp [hb]
  have RR : Hid (badR b i (pT S (f + 1) d i c) = .err (wrB b) i) := zH (by
   by_cases hb : b = 0
   ·subst hb
    have : S.begins i ≠ true := fun e => hbg ⟨rfl, e⟩
    rw [badR_0, pT_eq, if_pos (by simpa using this)]; rfl
   ·rw [badR_ne _ _ hb, wrB_ne hb])
  have hw0 : wrB b ≠ 0 := by
   by_cases hb : b = 0
   ·subst hb; decide
   ·rw [wrB_ne hb]; exact hb
  rw [e0];clear e0 hbg hne;as_aux_lemma =>
  go_wp2_with fail
  refine (wrong_any HR2.out).mono ?_; rintro e w3 ⟨rfl, R3, k3⟩
  have X3 : w3.heap[w.heap.size]? = _ := (k3.blk hs2 (by omega)).trans HX2.out;have s3 := k3.size;have SEAL := zH (TyOut.seal (res := badR b i (pT S (f + 1) d i c)) (A := A) (n := S.n) (cn := cn) (Nat.le_refl _) X3 (HK2.out.trans k3) (TyAt.zero (strike (· < w.heap.size + 1) w3)) (Nat.lt_succ_self _) hr (by rw [RR.out]; exact RdRes.bad hw0 hc5 R3));clear k3 R3;go_wp2_with (first | ((with_reducible refine wpList_putRow 48 (w.heap.size) #[.int .i64 0, .string ⟨#[]⟩, .int .i64 0, .string ⟨#[]⟩, .string ⟨#[]⟩, .slice none 0 0, .slice none 0 0] _ _ X3 ?_ ?_ ?_ ?_ ?_ ?_); exact tySize; rfl; exact tyOne; iterate 2 (focus (first | (go_simp; done) | rfl))))
  exact ret_agg1 (fn := Tryz.f82) (vs := [.int .i64 0, .string ⟨#[]⟩, .int .i64 0, .string ⟨#[]⟩, .string ⟨#[]⟩, .slice none 0 0, .slice none 0 0]) (b := w.heap.size) rfl rfl Tryz.underlying48 (by kernel_rfl) SEAL.out.1 rfl SEAL.out.2
 obtain ⟨rfl, hbg⟩ := hbg
 have e0 : (decide (0 = 0) && S.begins i) = true := by rw [hbg]; rfl
 rw [e0]
 clear e0
 have c2 := R2.c2
 have f2 := R2.f 2
 by_cases hlim : 32 < d \/ 500 <= c
 ·have RR : Hid (badR 0 i (pT S (f + 1) d i c) = .err 3 i) := zH (by rw [badR_0, pT_eq, if_neg (by rw [hbg]; decide), if_pos hlim])
  have R3 := R2.bad 3;obtain ⟨W3, hW3⟩ : ∃ W3, W3 = w2.setCell ⟨r, 3, none⟩ (.int .i64 3) := ⟨_, rfl⟩;have X3 : W3.heap[w.heap.size]? = _ := (by rw [hW3, Below.heap_setCell _ _ _ _ (by show w.heap.size ≠ r; omega)] : W3.heap[w.heap.size]? = w2.heap[w.heap.size]?).trans HX2.out;have SEAL := zH (TyOut.seal (res := badR 0 i (pT S (f + 1) d i c)) (A := A) (n := S.n) (cn := cn) (Nat.le_refl _) X3 (by rw [hW3]; exact HK2.out.put 3 _) (TyAt.zero (strike (· < w.heap.size + 1) W3)) (Nat.lt_succ_self _) hr (by rw [hW3, RR.out]; exact RdRes.bad (by decide) hc5 R3));have c3 := R2.c3;have f3 := R2.f 3;simp at c3;have hor : (32 : Int) < d \/ (¬ (32 : Int) < d /\ (500 : Int) <= c) := by omega
  have HW3 := zH hW3;have HX3 := zH X3;clear hW3 X3 R3 R2 hbg hne hlim;rcases hor with hl | ⟨hl1, hl2⟩
  all_goals
   as_aux_lemma =>
   go_upto_region 7 with fail
   rw [<- HW3.out];have X3 := HX3.out;clear c3 f3 c2 f2;go_wp2_with (first | ((with_reducible refine wpList_putRow 48 (w.heap.size) #[.int .i64 0, .string ⟨#[]⟩, .int .i64 0, .string ⟨#[]⟩, .string ⟨#[]⟩, .slice none 0 0, .slice none 0 0] _ _ X3 ?_ ?_ ?_ ?_ ?_ ?_); exact tySize; rfl; exact tyOne; iterate 2 (focus (first | (go_simp; done) | rfl))))
   exact ret_agg1 (fn := Tryz.f82) (vs := [.int .i64 0, .string ⟨#[]⟩, .int .i64 0, .string ⟨#[]⟩, .string ⟨#[]⟩, .slice none 0 0, .slice none 0 0]) (b := w.heap.size) rfl rfl Tryz.underlying48 (by kernel_rfl) SEAL.out.1 rfl SEAL.out.2
 have RR : Hid (badR 0 i (pT S (f + 1) d i c) = restR S f d i c) := zH (by rw [badR_0, pT_eq, if_neg (by rw [hbg]; decide), if_neg hlim])
 have HNE : Hid (∀ j, restR S f d i c ≠ .err 99 j) := zH (fun j => by rw [<- RR.out, badR_0]; exact hne rfl j)
 have hl1 : ¬ (32 : Int) < d := by omega
 have hl2 : ¬ (500 : Int) <= c := by omega
 have hd2 : d <= 32 := by omega
 have hc49 : c + 1 <= 500 := by omega
 have hbl : S.begins i = true := hbg
 have hlt := begins_lt hbl
 obtain ⟨g, o, y, rfl, hg, k0, k1, k2, hz⟩ := HC0.out.toks i hlt
 obtain ⟨w3, hw3⟩ : ∃ w3, w3 = w2.setCell ⟨r, 2, none⟩ (.int .i64 ((c : Int) + 1)) := ⟨_, rfl⟩
 have R3 : Rd r (some ⟨g, o, none⟩) S.n cn i (c + 1) 0 w3 := by rw [hw3]; have := R2.cnt (c + 1); simpa using this
 have K3 : Kp r w w3 := by rw [hw3]; exact HK2.out.put 2 _
 have C3 : RdCtx W r (some ⟨g, o, none⟩) S w3 := HC0.out.on K3 hr
 have s3 : w3.heap.size = w2.heap.size := by rw [hw3]; simp
 have X3 : w3.heap[w.heap.size]? = _ := (by rw [hw3, Below.heap_setCell _ _ _ _ (by show w.heap.size ≠ r; omega)] : w3.heap[w.heap.size]? = w2.heap[w.heap.size]?).trans HX2.out
 have hgr : g < r := Nat.lt_of_lt_of_le hg HC0.out.le
 have hg3 : g < w3.heap.size := by omega
 have bl3 := C3.below
 have m0 : w3.cell? ⟨g, o + i * 3, none⟩ = some (.int .i64 (S.K i)) := (bl3.cell (p := ⟨g, _, none⟩) hg).trans k0
 have m1 : w3.cell? ⟨g, o + i * 3 + 1, none⟩ = some (.int .i64 y) := (bl3.cell (p := ⟨g, _, none⟩) hg).trans k1
 have m2 : w3.cell? ⟨g, o + i * 3 + 2, none⟩ = some (.string (S.T i)) := (bl3.cell (p := ⟨g, _, none⟩) hg).trans k2
 have HW3 := zH hw3
 have HR3 := zH R3
 have HK3 := zH K3
 have HC3 := zH C3
 have HX3 := zH X3
 have d0 := R3.c0
 have d1 := R3.c1
 have hr3 : r < w3.heap.size := by omega
 have hw3s : w.heap.size < w3.heap.size := by omega
 clear s3 hs2 hw3 R3 K3 C3 X3 bl3 k0 k1 k2 hbg hbl hne hlim R2 hg hgr
 go_upto_region 9 with fail
 rw [<- HW3.out]
 clear c2 f2
 have hlt2 : ¬ S.n <= i := by omega
 go_cut [6] (fun s6 wx => s6 = .pointer (some ⟨w3.heap.size, 0, none⟩) /\ TokBox w3.heap.size (S.K i) y (S.T i) wx /\ Below w3.heap.size w3 wx)
 case first =>
  clear HX2 HK2 HC2 HR2 HX3 HK3 HC3 HR3 HNE HC0 HTy HPa HFn HW3;go_region_law (fail)
  all_goals (go_wp2_with fail; go_meet; exact ⟨rfl, heap_alloc_new w3 _, (below_new (Below.refl _ _) _).drew⟩)
 case rest =>
  obtain ⟨rfl, tb, hb4⟩ := hcut;have R4 := HR3.out.on hb4;have hk4 : w3.heap.size < wc.heap.size := (Array.getElem?_eq_some_iff.1 tb).1;obtain ⟨w5, hw5⟩ : ∃ w5, w5 = wc.setCell ⟨r, 1, none⟩ (.int .i64 ((i : Int) + 1)) := ⟨_, rfl⟩;have R5 : Rd r (some ⟨g, o, none⟩) S.n cn (i + 1) (c + 1) 0 w5 := by rw [hw5]; have := R4.at (i + 1); simpa using this
  have K35 : Kp r w3 w5 := by rw [hw5]; exact (Kp.of_below hb4).put 1 _
  have K5 : Kp r w w5 := HK3.out.trans K35;have C5 : RdCtx W r (some ⟨g, o, none⟩) S w5 := HC0.out.on K5 hr;have X5 : w5.heap[w.heap.size]? = _ := (K35.blk (by omega) (by omega)).trans HX3.out;have s5 : w5.heap.size = wc.heap.size := by rw [hw5]; simp
  have T5 : TokBox w3.heap.size (S.K i) y (S.T i) w5 := (by rw [hw5, Below.heap_setCell _ _ _ _ (by show w3.heap.size ≠ r; omega)] : w5.heap[w3.heap.size]? = wc.heap[w3.heap.size]?).trans tb;have t0 : w5.cell? ⟨w3.heap.size, 0, none⟩ = some (.int .i64 (S.K i)) := cZ T5 0;have t2 : w5.cell? ⟨w3.heap.size, 2, none⟩ = some (.string (S.T i)) := cZ T5 2;have e1 := R4.c1;have f1 := R4.f 1;have HW5 := zH hw5;have HR5 := zH R5;have HK5 := zH K5;have HC5 := zH C5;have HX5 := zH X5;have HT5 := zH T5;have hb5 : w3.heap.size < w5.heap.size := by omega
  have hr5 : r < w5.heap.size := by omega
  have hi63 : (i : Int) + 1 <= 9223372036854775807 := by omega
  clear tb hb4 R4 hw5 R5 K35 K5 C5 X5 T5 HX2 HK2 HC2 HR2 HX3 HK3 HC3 HR3 d0 d1 m0 m1 m2 hk4 s5 HW3;go_upto_region 11 with fail
  rw [<- HW5.out];clear e1 f1;have SQ : ∀ (res : Res Ty), Hid (restR S f d i c = res) -> Hid (badR 0 i (pT S (f + 1) d i c) = res) := fun res hq => zH (by rw [RR.out]; exact hq.out)
  rcases hid_or (S.K i == 1) with a1 | a1
  rotate_left
  ·have b1 := a1.out
   have E1 : S.K i = 1 := by simpa using b1
   have HE1 := zH E1;clear E1;go_wp2_with fail
   refine (pass_any HC5.out HR5.out _).mono ?_; rintro e w6 ⟨rfl, R6, k6⟩
   have C6 := HC5.out.on k6 hr5;have T6 : TokBox w3.heap.size (S.K i) y (S.T i) w6 := (k6.blk hb5 (by omega)).trans HT5.out;have t6 : w6.cell? ⟨w3.heap.size, 2, none⟩ = some (.string (S.T i)) := cZ T6 2;have X6 : w6.heap[w.heap.size]? = _ := (k6.blk (by omega) (by omega)).trans HX5.out;have hb6 : w3.heap.size < w6.heap.size := Nat.lt_of_lt_of_le hb5 k6.size;have hr6 : r < w6.heap.size := Nat.lt_of_lt_of_le hr5 k6.size;obtain ⟨gq, sq, i', b', hN⟩ := name_great (cn := cn) (i := psI 0 (S.sign (i + 1) [46]) (i + 1)) (c := c + 1) (b := psB 0 (S.sign (i + 1) [46])) C6;have ASK : Hid (∀ w', Below w6.heap.size w6 w' -> Calls Tryz.prog 130 #[.pointer (some ⟨r, 0, none⟩)] w' fun e w'' => e = .returned (.bool gq) /\ Below w'.heap.size w' w'') := zH (fun w' hb => hN.asks w' (C6.on (Kp.of_below hb) hr6) (R6.on hb));have TAKE : Hid (∀ w', Below w6.heap.size w6 w' -> Calls Tryz.prog 129 #[.pointer (some ⟨r, 0, none⟩), .bool gq] w' fun e w'' => e = .returned (.string sq) /\ Rd r (some ⟨g, o, none⟩) S.n cn i' (c + 1) b' w'' /\ Kp r w' w'') := zH (fun w' hb => hN.takes w' (C6.on (Kp.of_below hb) hr6) (R6.on hb))
   have RS := SQ _ (zH (show restR S f d i c = badR b' i' (.ok (localT (S.T i) sq) i' (c + 1)) by
    unfold restR; rw [if_pos HE1.out]; exact local_res hN))
   have HZ := zH hN.size;have HK6 := zH (HK5.out.trans k6);have HX6 := zH X6;have HT6 := zH T6;clear C6 R6 k6 hN X6 T6 t0 t2 HT5 HX5 HK5 HC5 HR5 HC0 HTy HPa HFn HW5 SQ HNE RR;go_wp2_with fail
   refine AnyX.start (fun wx => wx.cell? ⟨w3.heap.size, 2, none⟩ = some (.string (S.T i))) (fun _ => false) (by kernel_rfl) ?_;have hH0 : w6.drew.cell? ⟨w3.heap.size, 2, none⟩ = some (.string (S.T i)) := by simpa using t6
   refine AnyX.mv (i := 0) (v := ?_) rfl (fun _ _ _ h => h) (Or.inl ⟨by rfl, ?_⟩) ?_;rotate_left
   ·(intro wS _; go_simp; try with_reducible rfl)
   simp only [getElem_toArray, getElem_cons_succ, getElem_cons_zero];simp only [Act.put, setIfInBounds_toArray, set_cons_zero, set_cons_succ];refine AnyX.tk (i := 1) (v := ?_) rfl (fun _ _ _ h => h) hH0 (Or.inl ⟨by rfl, ?_⟩) ?_;rotate_left
   ·(intro wS hS; (try obtain hc := hS); go_simp; try with_reducible rfl)
   simp only [getElem_toArray, getElem_cons_succ, getElem_cons_zero];simp only [Act.put, setIfInBounds_toArray, set_cons_zero, set_cons_succ];refine AnyX.mv (i := 2) (v := ?_) rfl (fun _ _ _ h => h) (Or.inl ⟨by rfl, ?_⟩) ?_;rotate_left
   ·(intro wS _; go_simp; try with_reducible rfl)
   simp only [getElem_toArray, getElem_cons_succ, getElem_cons_zero];simp only [Act.put, setIfInBounds_toArray, set_cons_zero, set_cons_succ];refine AnyX.mv (i := 3) (v := ?_) rfl (fun _ _ _ h => h) (Or.inl ⟨by rfl, ?_⟩) ?_;rotate_left
   ·(intro wS _; go_simp; try with_reducible rfl)
   simp only [getElem_toArray, getElem_cons_succ, getElem_cons_zero];simp only [Act.put, setIfInBounds_toArray, set_cons_zero, set_cons_succ];refine AnyX.go 4 (by kernel_rfl) rfl rfl (fun K hK => ?_);simp only [getElem_toArray, getElem_cons_succ, getElem_cons_zero];go_simp
   refine (ASK.out _ (Below.drew (Below.refl _ _))).mono ?_;rintro e w7 ⟨rfl, hb7⟩;have hB7 : Below w6.heap.size w6 w7 := (Below.drew (Below.refl _ _)).trans hb7;have t7 : w7.cell? ⟨w3.heap.size, 2, none⟩ = some (.string (S.T i)) := (hB7.cell (p := ⟨w3.heap.size, 2, none⟩) hb6).trans t6;simp only [];refine hK.out _ _ (fun hoff _ => t7) ?_;clear hK;(try simp only [Act.put, setIfInBounds_toArray, set_cons_zero, set_cons_succ]);refine AnyX.go 5 (by kernel_rfl) rfl rfl (fun K hK => ?_);simp only [getElem_toArray, getElem_cons_succ, getElem_cons_zero];go_simp
   refine (TAKE.out _ hB7).mono ?_;rintro e w8 ⟨rfl, R8, k8⟩;have hb67 := hB7.size;have T8 : TokBox w3.heap.size (S.K i) y (S.T i) w8 := (k8.blk (Nat.lt_of_lt_of_le hb6 hb67) (Nat.ne_of_gt (Nat.lt_trans hr hw3s))).trans (HT6.out.on hB7);have t8 : w8.cell? ⟨w3.heap.size, 2, none⟩ = some (.string (S.T i)) := cZ T8 2;have X8 : w8.heap[w.heap.size]? = _ := (k8.blk (Nat.lt_trans hw3s (Nat.lt_of_lt_of_le hb6 hb67)) (Nat.ne_of_gt hr)).trans ((hB7.block _ (Nat.lt_trans hw3s hb6)).trans HX6.out);have SEAL := zH (TyOut.seal (A := some ⟨g, o, none⟩) (n := S.n) (cn := cn) (res := badR 0 i (pT S (f + 1) d i c)) (Nat.le_refl _) X8 ((HK6.out.trans (Kp.of_below hB7)).trans k8) (TyAt.leaf (strike (· < w.heap.size + 1) w8) 8 ⟨#[]⟩ 0 (S.T i) sq tok0 hz HZ.out) (Nat.lt_succ_self _) hr ⟨i', c + 1, b', RS.out, hc49, R8⟩);clear R8 k8 T8;simp only [];refine hK.out _ _ (fun hoff _ => t8) ?_;clear hK;(try simp only [Act.put, setIfInBounds_toArray, set_cons_zero, set_cons_succ]);refine AnyX.mv (i := 6) (v := ?_) rfl (fun _ _ _ h => h) (Or.inl ⟨by rfl, ?_⟩) ?_;rotate_left
   ·(intro wS _; go_simp; try with_reducible rfl)
   simp only [getElem_toArray, getElem_cons_succ, getElem_cons_zero];simp only [Act.put, setIfInBounds_toArray, set_cons_zero, set_cons_succ];refine AnyX.go 7 (by kernel_rfl) rfl rfl (fun K hK => ?_);simp only [getElem_toArray, getElem_cons_succ, getElem_cons_zero];refine wp_putRow 48 w.heap.size #[.int .i64 8, .string ⟨#[]⟩, .int .i64 0, .string (S.T i), .string sq, .slice none 0 0, .slice none 0 0] _ _ X8 tySize rfl tyOne rfl rfl ?_;refine hK.out _ _ (fun hoff _ => (by rw [cell_setRow_other _ _ _ _ (Nat.ne_of_gt hw3s)]; exact t8)) ?_;clear hK;(try simp only [Act.put, setIfInBounds_toArray, set_cons_zero, set_cons_succ]);refine AnyX.done (by kernel_rfl) ?_ _;go_wp2_with fail
   exact ret_agg1 (fn := Tryz.f82) (vs := [.int .i64 8, .string ⟨#[]⟩, .int .i64 0, .string (S.T i), .string sq, .slice none 0 0, .slice none 0 0]) (b := w.heap.size) rfl rfl Tryz.underlying48 (by kernel_rfl) SEAL.out.1 rfl SEAL.out.2
  have b1 := a1.out;have E1 : Hid (¬ S.K i = 1) := zH (by simpa using b1);have hcast : Hid (((d : Int) + 1) = ((d + 1 : Nat) : Int)) := zH (by omega);have hd0 : (0 : Int) <= d := by omega
  have X5 := HX5.out;rcases hid_or (S.K i == 2) with a2 | a2
  rotate_left
  ·have b2 := a2.out
   have E2 : Hid (S.K i = 2) := zH (by simpa using b2);obtain ⟨B, hB⟩ : ∃ B, B = baseT (S.T i).data.toList := ⟨_, rfl⟩;have HB := zH hB;clear hB;go_wp2_with fail
   refine (base_any _ _).mono ?_; rintro e w6 ⟨rfl, rfl⟩
   rw [<- HB.out];rcases hid_or (B == 4) with a4 | a4
   rotate_left
   ·have b4 := a4.out
    have RS : Hid (restR S f d i c = listR S f d i c) := zH (by
     unfold restR
     have : B = 4 := by simpa using b4
     rw [if_neg E1.out, if_pos E2.out, <- HB.out, if_pos this])
    have HNE2 : Hid (∀ j, listR S f d i c ≠ .err 99 j) := zH (fun j => by rw [<- RS.out]; exact HNE.out j);clear t0 HT5;go_wp2_with fail
    refine (pass_any HC5.out HR5.out _).mono ?_; rintro e w6 ⟨rfl, R6, k6⟩
    have C6 := HC5.out.on k6 hr5;have X6 : w6.heap[w.heap.size]? = _ := (k6.blk (by omega) (by omega)).trans HX5.out;have hs6 := k6.size
    have TY := HTy.out (d + 1) _ (c + 1) _ w6 (by omega) hc49 C6 R6 (fun hb j e => HNE2.out j (by
     have q := sign_res (S.sign (i + 1) [40]) 0 (i + 1) (fun k => pT S f (d + 1) k (c + 1));change psB 0 (S.sign (i + 1) [40]) = 0 at hb
     change pT S f (d + 1) (psI 0 (S.sign (i + 1) [40]) (i + 1)) (c + 1) = .err 99 j at e
     rw [hb, badR_0, badR_0, e] at q;unfold listR
     by_cases hq : S.sign (i + 1) [40] = false
     ·rw [hq] at hb; cases hb
     ·rw [if_neg hq] at q ⊢
      rw [<- q]))
    have HTY := zH TY;have HK6 := zH (HK5.out.trans k6);have HX6 := zH X6;clear TY k6 X6 R6 t2 b4 b2;go_wp2_with fail
    rw [hcast.out];refine HTY.out.mono ?_; rintro e w7 ⟨l, t, rfl, hT7, hK7, i2, c2, b2, hres, hc2, R7⟩
    obtain ⟨An, cA, As, cS, rfl, -⟩ := hT7.parts;obtain ⟨w8, hw8⟩ : ∃ w8, w8 = w7.alloc (.cells #[.int .i64 t.kind, .string t.pkg, .int .i64 t.major, .string t.mod, .string t.name, .slice An t.names.length cA, .slice As t.subs.length cS] 48) := ⟨_, rfl⟩;have hr7 := R7.lt;have hs7 := hK7.size;have B8 : Below w7.heap.size w7 w8 := by rw [hw8]; exact below_new (Below.refl _ _) _
    have R8 := R7.on B8;have s8 : w8.heap.size = w7.heap.size + 1 := by rw [hw8]; simp
    have O8 : w8.heap[w7.heap.size]? = some (.cells #[.int .i64 t.kind, .string t.pkg, .int .i64 t.major, .string t.mod, .string t.name, .slice An t.names.length cA, .slice As t.subs.length cS] 48 (0, 0)) := by rw [hw8]; exact heap_alloc_new w7 _
    have C8 : RdCtx W r (some ⟨g, o, none⟩) S w8 := (C6.on hK7 (by omega)).on (Kp.of_below B8) hr7;have X8 : w8.heap[w.heap.size]? = _ := (B8.block _ (by omega)).trans ((hK7.blk (by omega) (by omega)).trans HX6.out);have PS := zH (pass_any C8 R8 ⟨#[41]⟩);have K8 := zH ((HK6.out.trans hK7).trans (Kp.of_below B8));have T8 : Hid (TyAt (strike (· < w.heap.size + 1) w8) [.int .i64 t.kind, .string t.pkg, .int .i64 t.major, .string t.mod, .string t.name, .slice An t.names.length cA, .slice As t.subs.length cS] t) := zH (hT7.move (by omega) fun b hb hS => ⟨by omega, B8.block b hb⟩);have HW8 := zH hw8;have HO8 := zH O8;have HX8 := zH X8;have HC8 := zH C8;have HR8 := zH R8;clear hT7 hK7 R7 C6 B8 hw8 O8 X8 C8 R8 HTY;go_wp2_with fail
    rw [<- HW8.out];refine PS.out.mono ?_; rintro e w9 ⟨rfl, R9, k9⟩
    have s9 := k9.size;have O9 : w9.heap[w7.heap.size]? = some (.cells #[.int .i64 t.kind, .string t.pkg, .int .i64 t.major, .string t.mod, .string t.name, .slice An t.names.length cA, .slice As t.subs.length cS] 48 (0, 0)) := (k9.blk (by omega) (by omega)).trans HO8.out;have X9 : w9.heap[w.heap.size]? = _ := (k9.blk (by omega) (by omega)).trans HX8.out;obtain ⟨x0, x1, x2, x3, x4, x5, x6⟩ := cq7 O9;simp at x0 x1 x2 x3 x4 x5 x6;obtain ⟨w10, hw10⟩ : ∃ w10, w10 = w9.alloc (.cells #[.int .i64 t.kind, .string t.pkg, .int .i64 t.major, .string t.mod, .string t.name, .slice An t.names.length cA, .slice As t.subs.length cS] 48) := ⟨_, rfl⟩;have B10 : Below w9.heap.size w9 w10 := by rw [hw10]; exact below_new (Below.refl _ _) _
    have s10 : w10.heap.size = w9.heap.size + 1 := by rw [hw10]; simp
    have X10 : w10.heap[w.heap.size]? = _ := (B10.block _ (by omega)).trans X9;have G10 : w10.heap[w9.heap.size]? = some (.cells #[.int .i64 t.kind, .string t.pkg, .int .i64 t.major, .string t.mod, .string t.name, .slice An t.names.length cA, .slice As t.subs.length cS] 48 (0, 0)) := by rw [hw10]; exact heap_alloc_new w9 _
    have hr9 := R9.lt;have T10 : TyAt (strike (· < w.heap.size + 1) w10) [.int .i64 t.kind, .string t.pkg, .int .i64 t.major, .string t.mod, .string t.name, .slice An t.names.length cA, .slice As t.subs.length cS] t := T8.out.move (by omega) fun b hb hS => ⟨hS, (B10.block b (by omega)).trans (k9.blk (by omega) (by omega))⟩
    have RS2 := SQ (badR (psB b2 (S.sign i2 [41])) (psI b2 (S.sign i2 [41]) i2) (.ok (.mk 4 ⟨#[]⟩ 0 ⟨#[]⟩ ⟨#[]⟩ [] [t]) (psI b2 (S.sign i2 [41]) i2) c2)) (zH (RS.out.trans (list_res hres)));have SEAL := zH (TyOut.seal (A := some ⟨g, o, none⟩) (n := S.n) (cn := cn) (res := badR 0 i (pT S (f + 1) d i c)) (Nat.le_refl _) X10 ((K8.out.trans k9).trans (Kp.of_below B10)) (TyAt.one 4 rfl T10 G10 (by omega)) (Nat.lt_succ_self _) hr ⟨_, _, _, RS2.out, hc2, R9.on B10⟩);have HW10 := zH hw10;clear PS O9 k9 R9 hw10 B10 G10 T10 T8 HO8 HW8 RS2 SQ hres;rw [HW10.out] at X10;go_wp2_with (first | ((with_reducible refine wpList_putRow 48 (w.heap.size) #[.int .i64 4, .string ⟨#[]⟩, .int .i64 0, .string ⟨#[]⟩, .string ⟨#[]⟩, .slice none 0 0, .slice (some ⟨w9.heap.size, 0, none⟩) 1 1] _ _ X10 ?_ ?_ ?_ ?_ ?_ ?_); exact tySize; rfl; exact tyOne; iterate 2 (focus (first | (go_simp; done) | rfl))))
    rw [<- HW10.out];exact ret_agg1 (fn := Tryz.f82) (vs := [.int .i64 4, .string ⟨#[]⟩, .int .i64 0, .string ⟨#[]⟩, .string ⟨#[]⟩, .slice none 0 0, .slice (some ⟨w9.heap.size, 0, none⟩) 1 1]) (b := w.heap.size) rfl rfl Tryz.underlying48 (by kernel_rfl) SEAL.out.1 rfl SEAL.out.2
   have b4 := a4.out;have E4 : Hid (¬ B = 4) := zH (by simpa using b4);by_cases h0 : (0 : Int) < B
   ·have RS := SQ (badR 0 (i + 1) (.ok (leafK B) (i + 1) (c + 1))) (zH (by
     unfold restR
     rw [if_neg E1.out, if_pos E2.out, <- HB.out, if_neg E4.out, if_pos h0]; rfl))
    have SEAL := zH (TyOut.seal (A := some ⟨g, o, none⟩) (n := S.n) (cn := cn) (res := badR 0 i (pT S (f + 1) d i c)) (Nat.le_refl _) HX5.out HK5.out (TyAt.leaf (strike (· < w.heap.size + 1) w5) B ⟨#[]⟩ 0 ⟨#[]⟩ ⟨#[]⟩ tok0 tok0 tok0) (Nat.lt_succ_self _) hr ⟨_, _, _, RS.out, hc49, HR5.out⟩);clear HT5 t0 RS SQ;as_aux_lemma =>
    go_wp2_with (first | ((with_reducible refine wpList_putRow 48 (w.heap.size) #[.int .i64 B, .string ⟨#[]⟩, .int .i64 0, .string ⟨#[]⟩, .string ⟨#[]⟩, .slice none 0 0, .slice none 0 0] _ _ X5 ?_ ?_ ?_ ?_ ?_ ?_); exact tySize; rfl; exact tyOne; iterate 2 (focus (first | (go_simp; done) | rfl))))
    exact ret_agg1 (fn := Tryz.f82) (vs := [.int .i64 B, .string ⟨#[]⟩, .int .i64 0, .string ⟨#[]⟩, .string ⟨#[]⟩, .slice none 0 0, .slice none 0 0]) (b := w.heap.size) rfl rfl Tryz.underlying48 (by kernel_rfl) SEAL.out.1 rfl SEAL.out.2
   ·have RS := SQ (badR 0 (i + 1) (.ok (localT ⟨#[]⟩ (S.T i)) (i + 1) (c + 1))) (zH (by
     unfold restR
     rw [if_neg E1.out, if_pos E2.out, <- HB.out, if_neg E4.out, if_neg h0]; rfl))
    have SEAL := zH (TyOut.seal (A := some ⟨g, o, none⟩) (n := S.n) (cn := cn) (res := badR 0 i (pT S (f + 1) d i c)) (Nat.le_refl _) HX5.out HK5.out (TyAt.leaf (strike (· < w.heap.size + 1) w5) 8 ⟨#[]⟩ 0 ⟨#[]⟩ (S.T i) tok0 tok0 hz) (Nat.lt_succ_self _) hr ⟨_, _, _, RS.out, hc49, HR5.out⟩);have hle : decide ((0 : Int) < B) = false := by simp; omega
    clear HT5 t0 RS SQ h0 hz hi63 hbig;as_aux_lemma =>
    go_wp2_with (first | ((with_reducible refine wpList_putRow 48 (w.heap.size) #[.int .i64 8, .string ⟨#[]⟩, .int .i64 0, .string ⟨#[]⟩, .string (S.T i), .slice none 0 0, .slice none 0 0] _ _ X5 ?_ ?_ ?_ ?_ ?_ ?_); exact tySize; rfl; exact tyOne; iterate 2 (focus (first | (go_simp; done) | rfl))))
    exact ret_agg1 (fn := Tryz.f82) (vs := [.int .i64 8, .string ⟨#[]⟩, .int .i64 0, .string ⟨#[]⟩, .string (S.T i), .slice none 0 0, .slice none 0 0]) (b := w.heap.size) rfl rfl Tryz.underlying48 (by kernel_rfl) SEAL.out.1 rfl SEAL.out.2
  have b2 := a2.out;have E2 : Hid (¬ S.K i = 2) := zH (by simpa using b2);have EL : Hid ((S.T i).toList = (S.T i).data.toList) := zH (Lib.toList_data _);have hd1 : (d : Int) <= 32 := by omega
  rcases hid_or ((S.T i).toList == [123]) with x1 | x1
  rotate_left
  ·have y1 := x1.out
   have RS : Hid (restR S f d i c = partsR S 5 [125] f d (i + 1) (c + 1)) := zH (by
    have : (S.T i).data.toList = [123] := by rw [<- EL.out]; simpa using y1
    unfold restR
    rw [if_neg E1.out, if_neg E2.out, if_pos this])
   have PA := zH (HPa.out 5 ⟨#[125]⟩ d (i + 1) (c + 1) w5 (.inl rfl) hd2 hc49 HC5.out HR5.out (fun j e => HNE.out j (by rw [RS.out]; exact e)));have RR2 := RR.out.trans RS.out;have HRR2 := zH RR2;clear RR2 HT5 SQ hz hi63 hbig EL x1;go_wp2_with fail
   refine PA.out.mono ?_; rintro e w6 ⟨l, t, rfl, hT6, hK6, hR6⟩
   obtain ⟨An, cA, As, cS, rfl, -⟩ := hT6.parts;have X6 : w6.heap[w.heap.size]? = _ := (hK6.blk (by omega) (by omega)).trans HX5.out;have SEAL := zH (TyOut.seal (Nat.le_refl _) X6 (HK5.out.trans hK6) hT6 (by omega) hr (HRR2.out ▸ hR6));clear hT6 hK6 hR6 PA;go_wp2_with (first | ((with_reducible refine wpList_putRow 48 (w.heap.size) #[.int .i64 t.kind, .string t.pkg, .int .i64 t.major, .string t.mod, .string t.name, .slice An t.names.length cA, .slice As t.subs.length cS] _ _ X6 ?_ ?_ ?_ ?_ ?_ ?_); exact tySize; rfl; exact tyOne; iterate 2 (focus (first | (go_simp; done) | rfl))))
   exact ret_agg1 (fn := Tryz.f82) (vs := [.int .i64 t.kind, .string t.pkg, .int .i64 t.major, .string t.mod, .string t.name, .slice An t.names.length cA, .slice As t.subs.length cS]) (b := w.heap.size) rfl rfl Tryz.underlying48 (by kernel_rfl) SEAL.out.1 rfl SEAL.out.2
  have y1 := x1.out;have EN1 : Hid (¬ (S.T i).data.toList = [123]) := zH (by rw [<- EL.out]; simpa using y1);rcases hid_or ((S.T i).toList == [91]) with x2 | x2
  rotate_left
  ·have y2 := x2.out
   have RS : Hid (restR S f d i c = partsR S 6 [93] f d (i + 1) (c + 1)) := zH (by
    have : (S.T i).data.toList = [91] := by rw [<- EL.out]; simpa using y2
    unfold restR
    rw [if_neg E1.out, if_neg E2.out, if_neg EN1.out, if_pos this])
   have PA := zH (HPa.out 6 ⟨#[93]⟩ d (i + 1) (c + 1) w5 (.inr rfl) hd2 hc49 HC5.out HR5.out (fun j e => HNE.out j (by rw [RS.out]; exact e)));have RR2 := RR.out.trans RS.out;have HRR2 := zH RR2;clear RR2 HT5 SQ hz hi63 hbig EL x1 x2;go_wp2_with fail
   refine PA.out.mono ?_; rintro e w6 ⟨l, t, rfl, hT6, hK6, hR6⟩
   obtain ⟨An, cA, As, cS, rfl, -⟩ := hT6.parts;have X6 : w6.heap[w.heap.size]? = _ := (hK6.blk (by omega) (by omega)).trans HX5.out;have SEAL := zH (TyOut.seal (Nat.le_refl _) X6 (HK5.out.trans hK6) hT6 (by omega) hr (HRR2.out ▸ hR6));clear hT6 hK6 hR6 PA;go_wp2_with (first | ((with_reducible refine wpList_putRow 48 (w.heap.size) #[.int .i64 t.kind, .string t.pkg, .int .i64 t.major, .string t.mod, .string t.name, .slice An t.names.length cA, .slice As t.subs.length cS] _ _ X6 ?_ ?_ ?_ ?_ ?_ ?_); exact tySize; rfl; exact tyOne; iterate 2 (focus (first | (go_simp; done) | rfl))))
   exact ret_agg1 (fn := Tryz.f82) (vs := [.int .i64 t.kind, .string t.pkg, .int .i64 t.major, .string t.mod, .string t.name, .slice An t.names.length cA, .slice As t.subs.length cS]) (b := w.heap.size) rfl rfl Tryz.underlying48 (by kernel_rfl) SEAL.out.1 rfl SEAL.out.2
  have y2 := x2.out;have EN2 : Hid (¬ (S.T i).data.toList = [91]) := zH (by rw [<- EL.out]; simpa using y2);rcases hid_or ((S.T i).toList == [60]) with x3 | x3
  ·have y3 := x3.out
   have RS : Hid (restR S f d i c = fnR S f d (i + 1) (c + 1)) := zH (by
    have : ¬ (S.T i).data.toList = [60] := by rw [<- EL.out]; simpa using y3
    unfold restR
    rw [if_neg E1.out, if_neg E2.out, if_neg EN1.out, if_neg EN2.out, if_neg this])
   have PA := zH (HFn.out d (i + 1) (c + 1) w5 hd2 hc49 HC5.out HR5.out (fun j e => HNE.out j (by rw [RS.out]; exact e)));have RR2 := RR.out.trans RS.out;have HRR2 := zH RR2;clear RR2 HT5 SQ hz hi63 hbig EL x1 x2 x3;go_wp2_with fail
   refine PA.out.mono ?_; rintro e w6 ⟨l, t, rfl, hT6, hK6, hR6⟩
   obtain ⟨An, cA, As, cS, rfl, -⟩ := hT6.parts;have X6 : w6.heap[w.heap.size]? = _ := (hK6.blk (by omega) (by omega)).trans HX5.out;have SEAL := zH (TyOut.seal (Nat.le_refl _) X6 (HK5.out.trans hK6) hT6 (by omega) hr (HRR2.out ▸ hR6));clear hT6 hK6 hR6 PA;go_wp2_with (first | ((with_reducible refine wpList_putRow 48 (w.heap.size) #[.int .i64 t.kind, .string t.pkg, .int .i64 t.major, .string t.mod, .string t.name, .slice An t.names.length cA, .slice As t.subs.length cS] _ _ X6 ?_ ?_ ?_ ?_ ?_ ?_); exact tySize; rfl; exact tyOne; iterate 2 (focus (first | (go_simp; done) | rfl))))
   exact ret_agg1 (fn := Tryz.f82) (vs := [.int .i64 t.kind, .string t.pkg, .int .i64 t.major, .string t.mod, .string t.name, .slice An t.names.length cA, .slice As t.subs.length cS]) (b := w.heap.size) rfl rfl Tryz.underlying48 (by kernel_rfl) SEAL.out.1 rfl SEAL.out.2
  have y3 := x3.out
  have RS : Hid (restR S f d i c = pOpen S (i + 1) (c + 1)) := zH (by
   have : (S.T i).data.toList = [60] := by rw [<- EL.out]; simpa using y3
   unfold restR
   rw [if_neg E1.out, if_neg E2.out, if_neg EN1.out, if_neg EN2.out, if_pos this])
  clear HT5 hz hi63 EL x1 x2 x3 HTy HPa HFn HNE;obtain ⟨w6, hw6⟩ : ∃ w6, w6 = w5.alloc (.cells #[.int .i64 9, .string ⟨#[]⟩, .int .i64 0, .string ⟨#[]⟩, .string ⟨#[]⟩, .slice none 0 0, .slice none 0 0] 48) := ⟨_, rfl⟩;have B6 : Below w5.heap.size w5 w6 := by rw [hw6]; exact below_new (Below.refl _ _) _
  have s6 : w6.heap.size = w5.heap.size + 1 := by rw [hw6]; simp
  have O6 : w6.heap[w5.heap.size]? = some (.cells #[.int .i64 9, .string ⟨#[]⟩, .int .i64 0, .string ⟨#[]⟩, .string ⟨#[]⟩, .slice none 0 0, .slice none 0 0] 48 (0, 0)) := by rw [hw6]; exact heap_alloc_new w5 _
  have K6 : Kp r w w6 := HK5.out.trans (Kp.of_below B6);have C6 := HC5.out.on (Kp.of_below B6) hr5;have R6 := HR5.out.on B6;have X6 : w6.heap[w.heap.size]? = _ := (B6.block _ (by omega)).trans HX5.out;have HW6 := zH hw6;obtain ⟨g1, s1, i1, b1', hN1⟩ := name_small (cn := cn) (i := i + 1) (c := c + 1) (b := 0) C6;have hr6 : r < w6.heap.size := by omega
  have HO6 := zH O6;have HK6 := zH K6;have HC6 := zH C6;have HR6 := zH R6;have HX6 := zH X6;have HN1 := zH hN1;clear hw6 B6 O6 K6 C6 R6 X6 hN1 X5 HX5 HC5 HR5 HK5;go_upto_region 31 with fail
  rw [<- HW6.out];clear t2 t0;go_wp2_with fail
  refine (HN1.out.asks w6 HC6.out HR6.out).mono ?_; rintro e w7 ⟨rfl, hb7⟩
  have hs7 := hb7.size;have C7 := HC6.out.on (Kp.of_below hb7) hr6;have R7 := HR6.out.on hb7;have hr7 : r < w7.heap.size := by omega
  have TK1 := zH (HN1.out.takes w7 C7 R7);have O7 : w7.heap[w5.heap.size]? = _ := (hb7.block _ (by omega)).trans HO6.out;have X7 : w7.heap[w.heap.size]? = _ := (hb7.block _ (by omega)).trans HX6.out;have K7 : Kp r w w7 := HK6.out.trans (Kp.of_below hb7);have HO7 := zH O7;have HX7 := zH X7;have HK7 := zH K7;have HC7 := zH C7;clear C7 R7 O7 X7 K7 hb7;go_wp2_with fail
  refine TK1.out.mono ?_; rintro e w8 ⟨rfl, R8, k8⟩
  have hs8 := k8.size;have O8 : w8.heap[w5.heap.size]? = _ := (k8.blk (by omega) (by omega)).trans HO7.out;have X8 : w8.heap[w.heap.size]? = _ := (k8.blk (by omega) (by omega)).trans HX7.out;have K8 : Kp r w w8 := HK7.out.trans k8;obtain ⟨w9, hw9⟩ : ∃ w9, w9 = w8.setCell ⟨w5.heap.size, 1, none⟩ (.string s1) := ⟨_, rfl⟩;have ot9 : ∀ b, b ≠ w5.heap.size -> w9.heap[b]? = w8.heap[b]? := fun b hb => by rw [hw9]; exact Below.heap_setCell _ _ _ _ hb
  have O9 : w9.heap[w5.heap.size]? = some (.cells #[.int .i64 9, .string s1, .int .i64 0, .string ⟨#[]⟩, .string ⟨#[]⟩, .slice none 0 0, .slice none 0 0] 48 (0, 0)) := by
   have := Joins.block_setCell (i := 1) O8 (.string s1); rw [hw9]; simpa using this
  have X9 : w9.heap[w.heap.size]? = _ := (ot9 _ (by omega)).trans X8;have hs9 : w9.heap.size = w8.heap.size := by rw [hw9]; simp
  have K9 : Kp r w w9 := by rw [hw9]; exact K8.putNew _ (by show w.heap.size <= w5.heap.size; omega) _
  have R9 := R8.other (ot9 r (by omega));have C9 := HC0.out.on K9 hr;have HO9 := zH O9;have HX9 := zH X9;have HK9 := zH K9;have MJ := zH (major_any C9 R9);have HW9 := zH hw9;have o1 := cZ O8 1;have f1 := Lib.frozen_of_heap O8 1;simp at o1;clear hw9 ot9 O9 X9 K9 R9 C9 O8 X8 K8 R8 k8 TK1 HC6 HR6 HX6 HO6 HK6 HO7 HX7 HK7 HC7;go_upto_region 32 with fail
  rw [<- HW9.out];clear o1 f1;go_wp2_with fail
  refine MJ.out.mono ?_; rintro e w10 ⟨rfl, R10, k10⟩
  have hs10 := k10.size;generalize hmj : mjV b1' (S.major i1) (S.T i1).data.toList = mj
  have HMJ := zH hmj;clear hmj;have O10 : w10.heap[w5.heap.size]? = _ := (k10.blk (by omega) (by omega)).trans HO9.out;have X10 : w10.heap[w.heap.size]? = _ := (k10.blk (by omega) (by omega)).trans HX9.out;have K10 : Kp r w w10 := HK9.out.trans k10;obtain ⟨w11, hw11⟩ : ∃ w11, w11 = w10.setCell ⟨w5.heap.size, 2, none⟩ (.int .i64 mj) := ⟨_, rfl⟩;have ot11 : ∀ b, b ≠ w5.heap.size -> w11.heap[b]? = w10.heap[b]? := fun b hb => by rw [hw11]; exact Below.heap_setCell _ _ _ _ hb
  have O11 : w11.heap[w5.heap.size]? = some (.cells #[.int .i64 9, .string s1, .int .i64 mj, .string ⟨#[]⟩, .string ⟨#[]⟩, .slice none 0 0, .slice none 0 0] 48 (0, 0)) := by
   have := Joins.block_setCell (i := 2) O10 (.int .i64 mj); rw [hw11]; simpa using this
  have X11 : w11.heap[w.heap.size]? = _ := (ot11 _ (by omega)).trans X10;have hs11 : w11.heap.size = w10.heap.size := by rw [hw11]; simp
  have K11 : Kp r w w11 := by rw [hw11]; exact K10.putNew _ (by show w.heap.size <= w5.heap.size; omega) _
  have R11 := R10.other (ot11 r (by omega));have C11 := HC0.out.on K11 hr;obtain ⟨g2, s2, i2, b2', hN2⟩ := name_small (cn := cn) (i := psI b1' (S.major i1) i1) (c := c + 1) (b := psB b1' (S.major i1)) C11;have HN2 := zH hN2;have HO11 := zH O11;have HX11 := zH X11;have HK11 := zH K11;have HR11 := zH R11;have HC11 := zH C11;have HW11 := zH hw11;have o1 := cZ O10 2;have f1 := Lib.frozen_of_heap O10 2;simp at o1;clear hw11 ot11 O11 X11 K11 R11 C11 O10 X10 K10 R10 k10 MJ HO9 HX9 HK9 HW9 hN2;go_upto_region 33 with fail
  rw [<- HW11.out];clear o1 f1;go_wp2_with fail
  refine (HN2.out.asks w11 HC11.out HR11.out).mono ?_; rintro e w12 ⟨rfl, hb12⟩
  have hs12 := hb12.size;have hr11 : r < w11.heap.size := by omega
  have C12 := HC11.out.on (Kp.of_below hb12) hr11;have R12 := HR11.out.on hb12;have TK2 := zH (HN2.out.takes w12 C12 R12);have O12 : w12.heap[w5.heap.size]? = _ := (hb12.block _ (by omega)).trans HO11.out;have X12 : w12.heap[w.heap.size]? = _ := (hb12.block _ (by omega)).trans HX11.out;have K12 : Kp r w w12 := HK11.out.trans (Kp.of_below hb12);have HO12 := zH O12;have HX12 := zH X12;have HK12 := zH K12;clear C12 R12 O12 X12 K12 hb12;go_wp2_with fail
  refine TK2.out.mono ?_; rintro e w13 ⟨rfl, R13, k13⟩
  have hs13 := k13.size;have O13 : w13.heap[w5.heap.size]? = _ := (k13.blk (by omega) (by omega)).trans HO12.out;have X13 : w13.heap[w.heap.size]? = _ := (k13.blk (by omega) (by omega)).trans HX12.out;have K13 : Kp r w w13 := HK12.out.trans k13;obtain ⟨w14, hw14⟩ : ∃ w14, w14 = w13.setCell ⟨w5.heap.size, 3, none⟩ (.string s2) := ⟨_, rfl⟩;have ot14 : ∀ b, b ≠ w5.heap.size -> w14.heap[b]? = w13.heap[b]? := fun b hb => by rw [hw14]; exact Below.heap_setCell _ _ _ _ hb
  have O14 : w14.heap[w5.heap.size]? = some (.cells #[.int .i64 9, .string s1, .int .i64 mj, .string s2, .string ⟨#[]⟩, .slice none 0 0, .slice none 0 0] 48 (0, 0)) := by
   have := Joins.block_setCell (i := 3) O13 (.string s2); rw [hw14]; simpa using this
  have X14 : w14.heap[w.heap.size]? = _ := (ot14 _ (by omega)).trans X13;have hs14 : w14.heap.size = w13.heap.size := by rw [hw14]; simp
  have K14 : Kp r w w14 := by rw [hw14]; exact K13.putNew _ (by show w.heap.size <= w5.heap.size; omega) _
  have R14 := R13.other (ot14 r (by omega));have C14 := HC0.out.on K14 hr;obtain ⟨g3, s3, i3, b3', hN3⟩ := name_great (cn := cn) (i := i2) (c := c + 1) (b := b2') C14;have HN3 := zH hN3;have HO14 := zH O14;have HX14 := zH X14;have HK14 := zH K14;have HR14 := zH R14;have HC14 := zH C14;have HW14 := zH hw14;have o1 := cZ O13 3;have f1 := Lib.frozen_of_heap O13 3;simp at o1;clear hw14 ot14 O14 X14 K14 R14 C14 O13 X13 K13 R13 k13 TK2 HO11 HX11 HK11 HW11 HO12 HX12 HK12 HC11 HR11 hN3;go_upto_region 34 with fail
  rw [<- HW14.out];clear o1 f1;go_wp2_with fail
  refine (HN3.out.asks w14 HC14.out HR14.out).mono ?_; rintro e w15 ⟨rfl, hb15⟩
  have hs15 := hb15.size;have hr14 : r < w14.heap.size := by omega
  have C15 := HC14.out.on (Kp.of_below hb15) hr14;have R15 := HR14.out.on hb15;have TK3 := zH (HN3.out.takes w15 C15 R15);have O15 : w15.heap[w5.heap.size]? = _ := (hb15.block _ (by omega)).trans HO14.out;have X15 : w15.heap[w.heap.size]? = _ := (hb15.block _ (by omega)).trans HX14.out;have K15 : Kp r w w15 := HK14.out.trans (Kp.of_below hb15);have HO15 := zH O15;have HX15 := zH X15;have HK15 := zH K15;clear C15 R15 O15 X15 K15 hb15;go_wp2_with fail
  refine TK3.out.mono ?_; rintro e w16 ⟨rfl, R16, k16⟩
  have hs16 := k16.size;have O16 : w16.heap[w5.heap.size]? = _ := (k16.blk (by omega) (by omega)).trans HO15.out;have X16 : w16.heap[w.heap.size]? = _ := (k16.blk (by omega) (by omega)).trans HX15.out;have K16 : Kp r w w16 := HK15.out.trans k16;obtain ⟨w17, hw17⟩ : ∃ w17, w17 = w16.setCell ⟨w5.heap.size, 4, none⟩ (.string s3) := ⟨_, rfl⟩;have ot17 : ∀ b, b ≠ w5.heap.size -> w17.heap[b]? = w16.heap[b]? := fun b hb => by rw [hw17]; exact Below.heap_setCell _ _ _ _ hb
  have O17 : w17.heap[w5.heap.size]? = some (.cells #[.int .i64 9, .string s1, .int .i64 mj, .string s2, .string s3, .slice none 0 0, .slice none 0 0] 48 (0, 0)) := by
   have := Joins.block_setCell (i := 4) O16 (.string s3); rw [hw17]; simpa using this
  have X17 : w17.heap[w.heap.size]? = _ := (ot17 _ (by omega)).trans X16;have hs17 : w17.heap.size = w16.heap.size := by rw [hw17]; simp
  have K17 : Kp r w w17 := by rw [hw17]; exact K16.putNew _ (by show w.heap.size <= w5.heap.size; omega) _
  have R17 := R16.other (ot17 r (by omega));have C17 := HC0.out.on K17 hr;have PS := zH (pass_any C17 R17 ⟨#[62]⟩);have HO17 := zH O17;have HX17 := zH X17;have HK17 := zH K17;have HW17 := zH hw17;have o1 := cZ O16 4;have f1 := Lib.frozen_of_heap O16 4;simp at o1;clear hw17 ot17 O17 X17 K17 R17 C17 O16 X16 K16 R16 k16 TK3 HO14 HX14 HK14 HW14 HO15 HX15 HK15 HC14 HR14;go_upto_region 35 with fail
  rw [<- HW17.out];clear o1 f1;go_wp2_with fail
  refine PS.out.mono ?_; rintro e w18 ⟨rfl, R18, k18⟩
  have hs18 := k18.size;have O18 : w18.heap[w5.heap.size]? = _ := (k18.blk (by omega) (by omega)).trans HO17.out;have X18 : w18.heap[w.heap.size]? = _ := (k18.blk (by omega) (by omega)).trans HX17.out;have RS2 := SQ (badR (psB b3' (S.sign i3 [62])) (psI b3' (S.sign i3 [62]) i3) (.ok (.mk 9 s1 mj s2 s3 [] []) (psI b3' (S.sign i3 [62]) i3) (c + 1))) (zH (by rw [RS.out, <- HMJ.out]; exact open_res HN1.out HN2.out HN3.out));have SEAL := zH (TyOut.seal (A := some ⟨g, o, none⟩) (n := S.n) (cn := cn) (res := badR 0 i (pT S (f + 1) d i c)) (Nat.le_refl _) X18 (HK17.out.trans k18) (TyAt.leaf (strike (· < w.heap.size + 1) w18) 9 s1 mj s2 s3 HN1.out.size HN2.out.size HN3.out.size) (Nat.lt_succ_self _) hr ⟨_, _, _, RS2.out, hc49, R18⟩);obtain ⟨x0, x1, x2, x3, x4, x5, x6⟩ := cq7 O18;simp at x0 x1 x2 x3 x4 x5 x6;clear O18 R18 k18 RS2 SQ PS HO17 HX17 HK17 HW17 HN1 HN2 HN3 RS RR;go_wp2_with (first | ((with_reducible refine wpList_putRow 48 (w.heap.size) #[.int .i64 9, .string s1, .int .i64 mj, .string s2, .string s3, .slice none 0 0, .slice none 0 0] _ _ X18 ?_ ?_ ?_ ?_ ?_ ?_); exact tySize; rfl; exact tyOne; iterate 2 (focus (first | (go_simp; done) | rfl))))
  exact ret_agg1 (fn := Tryz.f82) (vs := [.int .i64 9, .string s1, .int .i64 mj, .string s2, .string s3, .slice none 0 0, .slice none 0 0]) (b := w.heap.size) rfl rfl Tryz.underlying48 (by kernel_rfl) SEAL.out.1 rfl SEAL.out.2
def Res.fw {α : Type} : Res α -> Nat -> Prop
  | .ok _ j _, i => i < j
  | .err _ _, _ => True
theorem fw_mono {α : Type} {r : Res α} {i j : Nat} (h : i <= j) (hr : Res.fw r j) : Res.fw r i := by
  cases r with
  | ok x a b => exact Nat.lt_of_le_of_lt h hr
  | err a b => trivial
theorem fw_ite {α : Type} {p : Prop} [Decidable p] {x y : Res α} {i : Nat} (hx : Res.fw x i) (hy : Res.fw y i) : Res.fw (if p then x else y) i := by split; exact hx; exact hy
theorem fw_err {α : Type} (b j i : Nat) : Res.fw (Res.err b j : Res α) i := trivial
theorem fw_all (S : Toks) : ∀ f, (∀ d i c, Res.fw (pT S f d i c) i) /\ (∀ k z d i c ns ss, Res.fw (pParts S k z f d i c ns ss) i) /\ (∀ d i c ss, Res.fw (pSubs S f d i c ss) i) /\ (∀ d i c ss, Res.fw (pEnd S f d i c ss) i) := by
  intro f;induction f with
  | zero => exact ⟨fun d i c => by unfold pT; trivial, fun k z d i c ns ss => by unfold pParts; trivial, fun d i c ss => by unfold pSubs; trivial, fun d i c ss => by unfold pEnd; trivial⟩
  | succ f ih =>
    obtain ⟨iT, iP, iS, iE⟩ := ih;refine ⟨fun d i c => ?_, fun k z d i c ns ss => ?_, fun d i c ss => ?_, fun d i c ss => ?_⟩
    · unfold pT
      refine fw_ite (fw_err _ _ _) (fw_ite (fw_err _ _ _) (fw_ite ?_ (fw_ite (fw_ite (fw_ite (fw_err _ _ _) ?_) (fw_ite ?_ ?_)) (fw_ite (fw_ite ?_ ?_) (fw_ite ?_ (fw_ite ?_ (fw_ite ?_ ?_)))))))
      · unfold pLocal
        exact fw_ite (fw_err _ _ _) (fw_ite (fw_err _ _ _) (show i < i + 1 + 2 by omega))
      · have h1 := iT (d + 1) (i + 2) (c + 1)
        cases e : pT S f (d + 1) (i + 2) (c + 1) with
        | err b j => trivial
        | ok s j c' =>
          rw [e] at h1;have h1' : i + 2 < j := h1
          exact fw_ite (fw_err _ _ _) (show i < j + 1 by omega)
      · show i < i + 1; omega
      · show i < i + 1; omega
      · show i < i + 2; omega
      · exact fw_mono (by omega) (iP _ _ _ (i + 1) _ _ _)
      · exact fw_mono (by omega) (iP _ _ _ (i + 1) _ _ _)
      · unfold pOpen
        exact fw_ite (fw_err _ _ _) (fw_ite (fw_err _ _ _) (fw_ite (fw_err _ _ _) (fw_ite (fw_err _ _ _) (fw_ite (fw_err _ _ _) (show i < i + 1 + 5 by omega)))))
      · exact fw_mono (by omega) (iE _ (i + 2) _ _)
      · exact fw_mono (by omega) (iS _ (i + 1) _ _)
    · unfold pParts
      refine fw_ite (fw_err _ _ _) (fw_ite (fw_err _ _ _) (fw_ite (fw_err _ _ _) (fw_ite (fw_err _ _ _) ?_)));have h1 := iT (d + 1) (i + 2) c;cases e : pT S f (d + 1) (i + 2) c with
      | err b j => trivial
      | ok s j c' =>
        rw [e] at h1;have h1' : i + 2 < j := h1
        exact fw_ite (show i < j + 1 by omega) (fw_ite (fw_err _ _ _) (fw_mono (by omega) (iP _ _ _ (j + 1) _ _ _)))
    · unfold pSubs
      refine fw_ite (fw_err _ _ _) ?_;have h1 := iT (d + 1) i c;cases e : pT S f (d + 1) i c with
      | err b j => trivial
      | ok s j c' =>
        rw [e] at h1;have h1' : i < j := h1
        exact fw_ite (fw_mono (by omega) (iE _ (j + 1) _ _)) (fw_ite (fw_err _ _ _) (fw_mono (by omega) (iS _ (j + 1) _ _)))
    · unfold pEnd
      refine fw_ite (fw_err _ _ _) (fw_ite (fw_err _ _ _) ?_);have h1 := iT (d + 1) (i + 1) c;cases e : pT S f (d + 1) (i + 1) c with
      | err b j => trivial
      | ok s j c' =>
        rw [e] at h1;have h1' : i + 1 < j := h1
        show i < j; omega
theorem pT_begins {S : Toks} {f d i c j c' : Nat} {t : Ty} (h : pT S f d i c = .ok t j c') : S.begins i = true := by
  cases f with
  | zero => unfold pT at h; cases h
  | succ f =>
    rw [pT_eq] at h;by_cases hb : S.begins i = false
    · rw [if_pos hb] at h; cases h
    · simpa using hb
theorem one_ok {S : Toks} {f d i c n j c' : Nat} {t : Ty} (h : oneR S f d i c n = .ok t j c') : n < 20 /\ i < j /\ i < S.n := by
  unfold oneR at h
  split at h
  · cases h
  · rename_i hn
    have hb := pT_begins h;have hf := (fw_all S f).1 (d + 1) i c;rw [h] at hf;refine ⟨?_, hf, begins_lt hb⟩;rcases Nat.lt_or_ge n 20 with h1 | h1
    · exact h1
    · exact absurd ⟨hb, h1⟩ hn
theorem subs_eq (S : Toks) (f d i c : Nat) (ss : List Ty) : pSubs S (f + 1) d i c ss = match oneR S f d i c ss.length with
    | .err b j => .err b j
    | .ok s j c' => if S.sign j [41] = true then pEnd S f d (j + 1) c' (ss ++ [s]) else if S.sign j [44] = false then .err 2 j else pSubs S f d (j + 1) c' (ss ++ [s]) := by
  conv => lhs; unfold pSubs
  unfold oneR
  split <;> rfl
theorem end_eq (S : Toks) (f d i c : Nat) (ss : List Ty) : pEnd S (f + 1) d i c ss = if S.sign i [45, 62] = false then .err 2 i else match oneR S f d (i + 1) c ss.length with
    | .err b j => .err b j
    | .ok s j c' => .ok (.mk 7 ⟨#[]⟩ 0 ⟨#[]⟩ ⟨#[]⟩ [] (ss ++ [s])) j c' := by
  conv => lhs; unfold pEnd
  unfold oneR
  split
  · rfl
  · split <;> rfl
theorem subs_more {S : Toks} {f d i c b2 i2 c2 : Nat} {ss : List Ty} {t : Ty} (h : oneR S f d i c ss.length = badR b2 i2 (.ok t i2 c2)) (hq : (decide (b2 = 0) && S.sign i2 [41]) = false) :
    pSubs S (f + 1) d i c ss = badR (psB b2 (S.sign i2 [44])) (psI b2 (S.sign i2 [44]) i2) (pSubs S f d (psI b2 (S.sign i2 [44]) i2) c2 (ss ++ [t])) := by
  rw [sign_res (S.sign i2 [44]) b2 i2 (fun j => pSubs S f d j c2 (ss ++ [t])), subs_eq, h];by_cases hb : b2 = 0
  · subst hb
    rw [badR_0, badR_0];have h4 : ¬ S.sign i2 [41] = true := by simpa using hq
    show (if _ then _ else _) = _
    rw [if_neg h4]
  · rw [badR_ne _ _ hb, badR_ne _ _ hb]
theorem subs_last {S : Toks} {f d i c b2 i2 c2 : Nat} {ss : List Ty} {t : Ty} (h : oneR S f d i c ss.length = badR b2 i2 (.ok t i2 c2)) (hq : (decide (b2 = 0) && S.sign i2 [41]) = true) :
    b2 = 0 /\ pSubs S (f + 1) d i c ss = pEnd S f d (i2 + 1) c2 (ss ++ [t]) := by
  simp at hq;obtain ⟨rfl, h4⟩ := hq;refine ⟨rfl, ?_⟩;rw [subs_eq, h, badR_0];show (if _ then _ else _) = _
  rw [if_pos h4]
theorem end_res {S : Toks} {f d i c b b2 i2 c2 : Nat} {ss : List Ty} {t : Ty} (h : badR (psB b (S.sign i [45, 62])) (psI b (S.sign i [45, 62]) i) (oneR S f d (psI b (S.sign i [45, 62]) i) c ss.length) = badR b2 i2 (.ok t i2 c2)) :
    badR b i (pEnd S (f + 1) d i c ss) = badR b2 i2 (.ok (.mk 7 ⟨#[]⟩ 0 ⟨#[]⟩ ⟨#[]⟩ [] (ss ++ [t])) i2 c2) := by
  rw [sign_res (S.sign i [45, 62]) b i (fun j => oneR S f d j c ss.length)] at h;rw [end_eq];by_cases hb : b = 0
  · subst hb
    rw [badR_0] at h ⊢;by_cases hq : S.sign i [45, 62] = false
    · rw [if_pos hq] at h ⊢
      by_cases hb2 : b2 = 0
      · subst hb2; cases h
      · rw [badR_ne _ _ hb2] at h ⊢; exact h
    · rw [if_neg hq] at h ⊢
      rw [h];by_cases hb2 : b2 = 0
      · subst hb2; rfl
      · rw [badR_ne _ _ hb2, badR_ne _ _ hb2]
  · rw [badR_ne _ _ hb] at h ⊢
    by_cases hb2 : b2 = 0
    · subst hb2; cases h
    · rw [badR_ne _ _ hb2] at h ⊢; exact h
def rdM (r n : Nat) (w : World) : Nat :=
  match w.heap[r]? with
  | some (Obj.cells cs _ _) => (match cs[1]?, cs[3]? with
    | some (Value.int _ i), some (Value.int _ b) => if b = 0 then n + 3 - i.toNat + 1 else 0
    | _, _ => 0)
  | _ => 0
theorem Rd.m {r : Nat} {A : Option Addr} {n cn i c b : Nat} {w : World} (h : Rd r A n cn i c b w) : rdM r n w = if b = 0 then n + 3 - i + 1 else 0 := by
  unfold rdM
  unfold Rd at h
  rw [h];simp
structure FnI (w : World) (r : Nat) (A : Option Addr) (S : Toks) (cn d f : Nat) (F : Res Ty) (ss : List Ty) (n6 : Nat) (A6 : Option Addr) (c6 i c b g : Nat) (mb : Bool) (wr : World) : Prop where
  kp : Kp r w wr
  box : wr.heap[w.heap.size + 1]? = some (.cells #[.int .i64 7, .string ⟨#[]⟩, .int .i64 0, .string ⟨#[]⟩, .string ⟨#[]⟩, .slice none 0 0, .slice A6 n6 c6] 48 (0, 0))
  res : wr.heap[w.heap.size]? = some (.cells #[.int .i64 0, .string ⟨#[]⟩, .int .i64 0, .string ⟨#[]⟩, .string ⟨#[]⟩, .slice none 0 0, .slice none 0 0] 48 (0, 0))
  rows : GrR (w.heap.size + 2) [] 0 ss n6 (.slice none 0 0) (.slice A6 n6 c6) wr
  rd : Rd r A S.n cn i c b wr
  fin : F = badR b i (if mb = true then pSubs S g d i c ss else pEnd S g d i c ss)
  fuel : g <= f
  some : n6 <= 21
  most : b = 0 -> n6 <= 20
  cnt : c <= 500
end Go.Proofs.YtddlmigofilejaaGreatDoor
