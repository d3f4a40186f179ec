/-
  Several texts in one.
-/
import Derived.Test.YtddlmigofilejaaGreatDoorK11
open List (getElem_toArray getElem_cons_succ getElem_cons_zero set_cons_zero set_cons_succ setIfInBounds_toArray)
set_option maxRecDepth 100000
set_option maxHeartbeats 40000000
namespace Go.Proofs.YtddlmigofilejaaGreatDoor
open Go.RowKit
open Go.Sort
open M
structure SwI (w : World) (r : Nat) (A : Option Addr) (S : Toks) (cn : Nat) (k : Int) (s : ByteArray) (t : Ty) (ns : List ByteArray) (ss : List Ty) (n g5 c5 g6 c6 i c b m : Nat) (wr : World) : Prop where
 kp : Kp r w wr
 box : wr.heap[w.heap.size + 1]? = some (.cells #[.int .i64 k, .string ⟨#[]⟩, .int .i64 0, .string ⟨#[]⟩, .string ⟨#[]⟩, .slice (some ⟨g5, 0, none⟩) (n + 1) c5, .slice (some ⟨g6, 0, none⟩) (n + 1) c6] 48 (0, 0))
 res : wr.heap[w.heap.size]? = some (.cells #[.int .i64 0, .string ⟨#[]⟩, .int .i64 0, .string ⟨#[]⟩, .string ⟨#[]⟩, .slice none 0 0, .slice none 0 0] 48 (0, 0))
 rows : GrR (w.heap.size + 2) (putAt m s ns) (n + 1) (putAt m t ss) (n + 1) (.slice (some ⟨g5, 0, none⟩) (n + 1) c5) (.slice (some ⟨g6, 0, none⟩) (n + 1) c6) wr
 rd : Rd r A S.n cn i c b wr
 le : m <= n
 pos : posOf s ns m = posOf s ns n
theorem SwI.on {w : World} {r : Nat} {A : Option Addr} {S : Toks} {cn : Nat} {k : Int} {s : ByteArray} {t : Ty} {ns : List ByteArray} {ss : List Ty} {n g5 c5 g6 c6 i c b m : Nat} {wa wb : World} (h : SwI w r A S cn k s t ns ss n g5 c5 g6 c6 i c b m wa) (hb : Below wa.heap.size wa wb) : SwI w r A S cn k s t ns ss n g5 c5 g6 c6 i c b m wb :=
 ⟨h.kp.trans (Kp.of_below hb), (hb.block _ (Array.getElem?_eq_some_iff.1 h.box).1).trans h.box, (hb.block _ (Array.getElem?_eq_some_iff.1 h.res).1).trans h.res, h.rows.keep hb.size (fun b _ hlt => hb.block b hlt), h.rd.on hb, h.le, h.pos⟩
theorem GrR.subAt {lo g6 : Nat} {ns : List ByteArray} {n5 : Nat} {ss : List Ty} {n6 c6 : Nat} {v5 : Value} {w : World} (h : GrR lo ns n5 ss n6 v5 (.slice (some ⟨g6, 0, none⟩) n6 c6) w) {i : Nat} {t : Ty} (ht : ss[i]? = some t) :
  ∃ (An : Option Addr) (cA : Nat) (As : Option Addr) (cS : Nat), GrT lo v5 (.slice (some ⟨g6, 0, none⟩) n6 c6) w [.int .i64 t.kind, .string t.pkg, .int .i64 t.major, .string t.mod, .string t.name, .slice An t.names.length cA, .slice As t.subs.length cS] t /\
   w.cell? ⟨g6, i * 7, none⟩ = some (.int .i64 t.kind) /\ w.cell? ⟨g6, i * 7 + 1, none⟩ = some (.string t.pkg) /\ w.cell? ⟨g6, i * 7 + 2, none⟩ = some (.int .i64 t.major) /\ w.cell? ⟨g6, i * 7 + 3, none⟩ = some (.string t.mod) /\
   w.cell? ⟨g6, i * 7 + 4, none⟩ = some (.string t.name) /\ w.cell? ⟨g6, i * 7 + 5, none⟩ = some (.slice An t.names.length cA) /\ w.cell? ⟨g6, i * 7 + 6, none⟩ = some (.slice As t.subs.length cS) := by
 obtain ⟨C, hC1, hC2, own, hC4⟩ := h.subs
 have hi := (List.getElem?_eq_some_iff.1 ht).1
 have hi2 : i < C.length := by rw [hC1, <- h.len6]; exact hi
 have hx : C[i]? = some C[i] := List.getElem?_eq_getElem hi2
 have hT := hC4 i C[i] t hx ht
 obtain ⟨An, cA, As, cS, e, -⟩ := hT.parts
 have hc : ∀ q v, q < 7 -> (C[i])[q]? = some v -> w.cell? ⟨g6, i * 7 + q, none⟩ = some v := fun q v hq hv => by
  rw [own.cellAt (i * 7 + q) (by omega), flat7_at C hC2 i q C[i] hx hq]; exact hv
 rw [e] at hT
 refine ⟨An, cA, As, cS, hT, hc 0 _ (by omega) (by rw [e]; rfl), hc 1 _ (by omega) (by rw [e]; rfl), hc 2 _ (by omega) (by rw [e]; rfl), hc 3 _ (by omega) (by rw [e]; rfl), hc 4 _ (by omega) (by rw [e]; rfl), hc 5 _ (by omega) (by rw [e]; rfl), hc 6 _ (by omega) (by rw [e]; rfl)⟩
theorem GrR.thereSub {lo g6 : Nat} {ns : List ByteArray} {n5 : Nat} {ss : List Ty} {n6 c6 : Nat} {v5 : Value} {w : World} (h : GrR lo ns n5 ss n6 v5 (.slice (some ⟨g6, 0, none⟩) n6 c6) w) {i : Nat} (hi : i < n6) : w.there g6 (i * 7) 7 := fun j hj => by
 obtain ⟨C, hC1, hC2, own, hC4⟩ := h.subs
 refine ⟨?_, own.frozenAt _⟩
 have hi2 : i < C.length := by rw [hC1]; exact hi
 have hx : C[i]? = some C[i] := List.getElem?_eq_getElem hi2
 rw [own.cellAt (i * 7 + j) (by omega), flat7_at C hC2 i j C[i] hx hj, List.getElem?_eq_getElem (by rw [hC2 _ (List.getElem_mem hi2)]; exact hj)]
 rfl
theorem parts_ok {W : World} {r : Nat} {A : Option Addr} {S : Toks} {cn f : Nat} (hTy : ∀ g, g < f -> TypeOk W r A S cn g) : PartsOk W r A S cn f := by
 intro k z d i c w hk hd hc5 hc h hne
 have hbig := hc.big
 have hr := h.lt
 obtain ⟨W1, hW1⟩ : ∃ W1, W1 = (w.alloc (.cells #[.int .i64 0, .string ⟨#[]⟩, .int .i64 0, .string ⟨#[]⟩, .string ⟨#[]⟩, .slice none 0 0, .slice none 0 0] 48)).alloc (.cells #[.int .i64 k, .string ⟨#[]⟩, .int .i64 0, .string ⟨#[]⟩, .string ⟨#[]⟩, .slice none 0 0, .slice none 0 0] 48) := ⟨_, rfl⟩
 have B1 : Below w.heap.size w W1 := by rw [hW1]; exact below_new (below_new (Below.refl _ _) _) _
 have s1 : W1.heap.size = w.heap.size + 2 := by rw [hW1]; simp
 have X1 : W1.heap[w.heap.size]? = some (.cells #[.int .i64 0, .string ⟨#[]⟩, .int .i64 0, .string ⟨#[]⟩, .string ⟨#[]⟩, .slice none 0 0, .slice none 0 0] 48 (0, 0)) := by rw [hW1, Lib.alloc_old _ _ _ (by simp)]; exact heap_alloc_new w _
 have O1 : W1.heap[w.heap.size + 1]? = some (.cells #[.int .i64 k, .string ⟨#[]⟩, .int .i64 0, .string ⟨#[]⟩, .string ⟨#[]⟩, .slice none 0 0, .slice none 0 0] 48 (0, 0)) := by
  rw [hW1];have e : w.heap.size + 1 = (w.alloc (.cells #[.int .i64 0, .string ⟨#[]⟩, .int .i64 0, .string ⟨#[]⟩, .string ⟨#[]⟩, .slice none 0 0, .slice none 0 0] 48)).heap.size := by simp
  rw [e]; exact heap_alloc_new _ _
 have C1 := hc.on (Kp.of_below B1) hr
 have R1 := h.on B1
 have IS := zH (is0 C1 R1 z)
 have HX1 := zH X1
 have HO1 := zH O1
 have HR1 := zH R1
 have HB1 := zH B1
 have HW1 := zH hW1
 have HC0 := zH hc
 have HTy := zH hTy
 obtain ⟨zl, hzl⟩ : ∃ zl, zl = z.data.toList := ⟨_, rfl⟩
 obtain ⟨F, hF⟩ : ∃ F, F = partsR S k zl f d i c := ⟨_, rfl⟩
 have HNE : Hid (∀ j, F ≠ .err 99 j) := zH (fun j => by rw [hF, hzl]; exact hne j)
 rw [<- hzl, <- hF]
 rw [<- hzl] at IS
 have HZ := zH hzl
 have HF := zH hF
 clear hc h B1 X1 O1 C1 R1 hW1 hTy hF hne hzl
 go_enter Tryz.func132, Tryz.ntmps132
 go_upto_region 2 with fail
 rw [<- HW1.out]
 go_cut [25] (fun s25 wx => s25 = .bool (decide (k = 5) && S.sign i zl) /\ Below W1.heap.size W1 wx)
 case first =>
  clear HX1 HO1 HR1 HB1 HW1 HC0 HTy HNE HF;rcases hk with rfl | rfl
  ·go_wp2_with fail
   refine IS.out.mono ?_; rintro e w2 ⟨rfl, hb2⟩
   obtain ⟨q, hq⟩ : ∃ q, S.sign i zl = q := ⟨_, rfl⟩;rw [hq];have HB2 := zH hb2;have HQ := zH hq;clear hq hb2 IS;cases q
   all_goals
    go_wp2_with fail
    go_meet
    exact ⟨by rw [HQ.out]; rfl, HB2.out⟩
  ·go_wp2_with fail
   go_meet
   exact ⟨rfl, Below.refl _ _⟩
 case rest =>
  obtain ⟨rfl, hb2⟩ := hcut;obtain ⟨w2, rfl⟩ : ∃ w2 : World, w2 = wc := ⟨_, rfl⟩;have hs2 := hb2.size;have R2 := HR1.out.on hb2;have X2 : w2.heap[w.heap.size]? = _ := (hb2.block _ (by omega)).trans HX1.out;have O2 : w2.heap[w.heap.size + 1]? = _ := (hb2.block _ (by omega)).trans HO1.out;have K2 : Kp r w w2 := (Kp.of_below HB1.out).trans (Kp.of_below hb2);clear IS HX1 HO1 HR1 HB1 HW1 hb2;obtain ⟨q, hq⟩ : ∃ q, (decide (k = 5) && S.sign i zl) = q := ⟨_, rfl⟩;rw [hq];cases q with
  | true =>
   simp at hq;obtain ⟨rfl, hsg⟩ := hq;have hlt := sign_lt hsg;have hFE : F = .ok (leafK 5) (i + 1) c := by rw [HF.out]; unfold partsR; rw [if_pos ⟨rfl, hsg⟩]
   have r1 := R2.c1;have f1 := R2.f 1;obtain ⟨w3, hw3⟩ : ∃ w3, w3 = w2.setCell ⟨r, 1, none⟩ (.int .i64 ((i : Int) + 1)) := ⟨_, rfl⟩;have ot : ∀ b, b ≠ r -> w3.heap[b]? = w2.heap[b]? := fun b hb => by rw [hw3]; exact Below.heap_setCell _ _ _ _ hb
   have R3 : Rd r A S.n cn (i + 1) c 0 w3 := by rw [hw3]; have := R2.at (i + 1); simpa using this
   have X3 : w3.heap[w.heap.size]? = _ := (ot _ (by omega)).trans X2;have O3 : w3.heap[w.heap.size + 1]? = _ := (ot _ (by omega)).trans O2;have K3 : Kp r w w3 := by rw [hw3]; exact K2.put 1 _
   have SEAL := zH (TyOut.seal (A := A) (n := S.n) (cn := cn) (res := F) (Nat.le_refl _) X3 K3 (TyAt.leaf (strike (· < w.heap.size + 1) w3) 5 ⟨#[]⟩ 0 ⟨#[]⟩ ⟨#[]⟩ tok0 tok0 tok0) (Nat.lt_succ_self _) hr ⟨i + 1, c, 0, hFE, hc5, R3⟩);have HW3 := zH hw3;have HX3 := zH X3;have HO3 := zH O3;have h63 : (i : Int) + 1 <= 9223372036854775807 := by omega
   clear hw3 ot R3 X3 O3 K3 R2 X2 O2 K2 hsg hFE;go_upto_region 4 with fail
   rw [<- HW3.out];clear r1 f1;have X3 := HX3.out;obtain ⟨x0, x1, x2, x3, x4, x5, x6⟩ := cq7 HO3.out;simp at x0 x1 x2 x3 x4 x5 x6;go_wp2_with (first | ((with_reducible refine wpList_putRow 48 (w.heap.size) #[.int .i64 5, .string ⟨#[]⟩, .int .i64 0, .string ⟨#[]⟩, .string ⟨#[]⟩, .slice none 0 0, .slice none 0 0] _ _ X3 ?_ ?_ ?_ ?_ ?_ ?_); exact tySize; rfl; exact tyOne; iterate 2 (focus (first | (go_simp; done) | rfl))))
   exact ret_agg1 (fn := Tryz.f132) (vs := [.int .i64 5, .string ⟨#[]⟩, .int .i64 0, .string ⟨#[]⟩, .string ⟨#[]⟩, .slice none 0 0, .slice none 0 0]) (b := w.heap.size) rfl rfl Tryz.underlying48 (by kernel_rfl) SEAL.out.1 rfl SEAL.out.2
  | false =>
   have hFE : F = pParts S k zl f d i c [] [] := by
    rw [HF.out]; unfold partsR
    rw [if_neg (fun x => by simp [x.1, x.2] at hq)]
   have INV : Hid (PaI w r A S cn k zl d f F [] [] 0 none 0 none 0 i c 0 f w2) := zH ⟨K2, O2, X2, GrR.start _ _, R2, by rw [badR_0]; exact hFE, Nat.le_refl _, by omega, hc5⟩;clear hq hFE R2 X2 O2 K2 HF hc5;go_wp2_with fail
   go_loopw [10] (fun _ wr => ∃ (ns : List ByteArray) (ss : List Ty) (n : Nat) (A5 : Option Addr) (c5 : Nat) (A6 : Option Addr) (c6 i c b g : Nat), Hid (PaI w r A S cn k zl d f F ns ss n A5 c5 A6 c6 i c b g wr)) (fun _ wr => rdM r S.n wr)
   case atStart => exact ⟨[], [], 0, none, 0, none, 0, i, c, 0, f, INV⟩
   case round =>
    obtain ⟨ns, ss, n, A5, c5, A6, c6, i, c, b, g, HI⟩ := hrel;obtain ⟨wo, rfl⟩ : ∃ wo : World, wo = wr := ⟨_, rfl⟩;have R := HI.out.rd;have r3 := R.c3;have hr0 := R.lt;have hn20 := HI.out.most;have hcnt := HI.out.cnt;have X := HI.out.res;by_cases hb : b = 0
    rotate_left
    ·have b1 : (((b : Nat) : Int) == 0) = false := by simp; omega
     have hFE : F = .err b i := by rw [HI.out.fin, badR_ne _ _ hb]
     have DONE := (HI.out.rows).done k (m := w.heap.size + 1) (by omega) (by omega) (by omega);have SEAL := zH (TyOut.seal (n := S.n) (cn := cn) (res := F) (Nat.le_refl _) X HI.out.kp DONE (Nat.lt_succ_self _) hr ((by rw [hFE]; exact RdRes.bad hb hcnt R)));obtain ⟨x0, x1, x2, x3, x4, x5, x6⟩ := cq7 HI.out.box;simp at x0 x1 x2 x3 x4 x5 x6;clear DONE;go_wp2_with (first | ((with_reducible refine wpList_putRow 48 (w.heap.size) #[.int .i64 k, .string ⟨#[]⟩, .int .i64 0, .string ⟨#[]⟩, .string ⟨#[]⟩, .slice A5 n c5, .slice A6 n c6] _ _ X ?_ ?_ ?_ ?_ ?_ ?_); exact tySize; rfl; exact tyOne; iterate 2 (focus (first | (go_simp; done) | rfl))))
     exact ret_agg1 (fn := Tryz.f132) (vs := [.int .i64 k, .string ⟨#[]⟩, .int .i64 0, .string ⟨#[]⟩, .string ⟨#[]⟩, .slice A5 n c5, .slice A6 n c6]) (b := w.heap.size) rfl rfl Tryz.underlying48 (by kernel_rfl) SEAL.out.1 rfl SEAL.out.2
    subst hb;simp at r3;have hfin : F = pParts S k zl g d i c ns ss := by have := HI.out.fin; rw [badR_0] at this; exact this
    obtain ⟨g', rfl⟩ : ∃ g', g = g' + 1 := by
     cases g with
     | zero => exact absurd (by rw [hfin]; unfold pParts; rfl) (HNE.out 0)
     | succ g' => exact ⟨g', rfl⟩
    have hfu := HI.out.fuel;have hl5 := HI.out.rows.len5;have hl6 := HI.out.rows.len6;have C0 := HC0.out.on HI.out.kp hr;have SM := zH (rsmall0 C0 R);have GM := zH (rgreat0 C0 R);have hB0 : w.heap.size + 1 < wo.heap.size := (Array.getElem?_eq_some_iff.1 HI.out.box).1;have HFIN := zH hfin;have HL5 := zH hl5;have HL6 := zH hl6;have HRD := zH R;have HX := zH X;clear hfin hl5 hl6 C0 R X;go_upto_region 6 with fail
    clear r3;go_cut [10] (fun s10 wx => s10 = .bool (S.nameOk k i) /\ Below wo.heap.size wo wx)
    case first =>
     clear HC0 HTy HNE HI HFIN HRD HX;rcases hk with rfl | rfl
     ·go_wp2_with fail
      refine SM.out.mono ?_; rintro e w2 ⟨rfl, hb2⟩
      obtain ⟨q, hq⟩ : ∃ q, S.small i = q := ⟨_, rfl⟩;rw [hq];have HB2 := zH hb2;have HQ := zH hq;clear hq hb2 SM GM;cases q
      all_goals
       go_wp2_with fail
       go_meet
       exact ⟨by unfold Toks.nameOk; rw [if_pos rfl, HQ.out], HB2.out⟩
     ·go_wp2_with fail
      refine GM.out.mono ?_; rintro e w2 ⟨rfl, hb2⟩
      obtain ⟨q, hq⟩ : ∃ q, S.great i = q := ⟨_, rfl⟩;rw [hq];have HB2 := zH hb2;have HQ := zH hq;clear hq hb2 SM GM;cases q
      all_goals
       go_wp2_with fail
       go_meet
       exact ⟨by unfold Toks.nameOk; rw [if_neg (by decide), HQ.out], HB2.out⟩
    case rest =>
     obtain ⟨rfl, hb2⟩ := hcut;obtain ⟨w3, rfl⟩ : ∃ w3 : World, w3 = wc := ⟨_, rfl⟩;have hs3 := hb2.size;have R3 := HRD.out.on hb2;have X3 := (hb2.block w.heap.size (by omega)).trans HX.out;have O3 := (hb2.block (w.heap.size + 1) hB0).trans HI.out.box;have K3 := HI.out.kp.trans (Kp.of_below hb2);have ROW3 := HI.out.rows.keep hs3 (fun b _ hlt => hb2.block b hlt);have C3 := HC0.out.on K3 hr;have hr3 := R3.lt;clear SM GM hb2 HI HX;obtain ⟨q, hq⟩ : ∃ q, S.nameOk k i = q := ⟨_, rfl⟩;rw [hq];cases q with
     | false =>
      have hFE : F = .err 2 i := by rw [HFIN.out, parts_eq, if_pos hq]
      have WR := zH (wrong_any R3);have HX3 := zH X3;have HO3 := zH O3;have HK3 := zH K3;have HROW3 := zH ROW3;clear R3 X3 O3 K3 ROW3 C3 hq;go_wp2_with fail
      refine WR.out.mono ?_; rintro e w4 ⟨rfl, R4, k4⟩
      have X4 : w4.heap[w.heap.size]? = _ := (k4.blk (by omega) (by omega)).trans HX3.out;have O4 := (k4.blk (j := w.heap.size + 1) (by omega) (by omega)).trans HO3.out;have DONE := ((HROW3.out.keep k4.size (fun b hb hlt => k4.blk hlt (by omega)))).done k (m := w.heap.size + 1) (by omega) (by omega) (by omega);have SEAL := zH (TyOut.seal (n := S.n) (cn := cn) (res := F) (Nat.le_refl _) X4 (HK3.out.trans k4) DONE (Nat.lt_succ_self _) hr ((by rw [hFE]; exact RdRes.bad (by decide) hcnt R4)));obtain ⟨x0, x1, x2, x3, x4, x5, x6⟩ := cq7 O4;simp at x0 x1 x2 x3 x4 x5 x6;clear DONE;go_wp2_with (first | ((with_reducible refine wpList_putRow 48 (w.heap.size) #[.int .i64 k, .string ⟨#[]⟩, .int .i64 0, .string ⟨#[]⟩, .string ⟨#[]⟩, .slice A5 n c5, .slice A6 n c6] _ _ X4 ?_ ?_ ?_ ?_ ?_ ?_); exact tySize; rfl; exact tyOne; iterate 2 (focus (first | (go_simp; done) | rfl))))
      exact ret_agg1 (fn := Tryz.f132) (vs := [.int .i64 k, .string ⟨#[]⟩, .int .i64 0, .string ⟨#[]⟩, .string ⟨#[]⟩, .slice A5 n c5, .slice A6 n c6]) (b := w.heap.size) rfl rfl Tryz.underlying48 (by kernel_rfl) SEAL.out.1 rfl SEAL.out.2
     | true =>
      have hlt : i < S.n := by
       unfold Toks.nameOk at hq
       by_cases hk5 : k = 5
       ·rw [if_pos hk5] at hq; exact small_lt hq
       ·rw [if_neg hk5] at hq; exact great_lt hq
      obtain ⟨g0, o0, y0, rfl, hg0, k0, k1, k2, hz⟩ := C3.toksAt i hlt;have c0 := R3.c0;have c1 := R3.c1;have hlt2 : ¬ S.n <= i := by omega
      have HX3 := zH X3;have HO3 := zH O3;have HK3 := zH K3;have HROW3 := zH ROW3;have HR3 := zH R3;have HNO := zH hq;have hn40 : n <= 40 := by omega
      clear R3 X3 O3 K3 ROW3 C3 hq;go_wp2_with fail
      go_quiet (fail)
      obtain ⟨w4, hw4⟩ : ∃ w4, w4 = w3.drewN nq := ⟨_, rfl⟩;rw [<- hw4];have hb4 : Below w3.heap.size w3 w4 := by rw [hw4]; exact below_drewN (Below.refl _ _) _
      have hs4 := hb4.size;have R4 := HR3.out.on hb4;have X4 := (hb4.block w.heap.size (by omega)).trans HX3.out;have O4 := (hb4.block (w.heap.size + 1) (by omega)).trans HO3.out;have K4 := HK3.out.trans (Kp.of_below hb4);have ROW4 := HROW3.out.keep hs4 (fun b _ hlt => hb4.block b hlt);have hr4 := R4.lt;have x5 := cZ O4 5;simp at x5;clear hw4 hb4 c0 c1 k0 k1 k2 HX3 HO3 HK3 HROW3 HR3 hlt2;by_cases hlim : 20 <= n
      ·have hFE : F = .err 3 i := by rw [HFIN.out, parts_eq, if_neg (by rw [HNO.out]; decide), HL5.out, if_pos hlim]
       have h20 : (20 : Int) <= n := by omega
       have r3 := R4.c3;have f3 := R4.f 3;simp at r3;obtain ⟨w5, hw5⟩ : ∃ w5, w5 = w4.setCell ⟨r, 3, none⟩ (.int .i64 3) := ⟨_, rfl⟩;have ot : ∀ b, b ≠ r -> w5.heap[b]? = w4.heap[b]? := fun b hb => by rw [hw5]; exact Below.heap_setCell _ _ _ _ hb
       have R5 : Rd r (some ⟨g0, o0, none⟩) S.n cn i c 3 w5 := by rw [hw5]; exact R4.bad 3
       have X5 := (ot w.heap.size (by omega)).trans X4;have O5 := (ot (w.heap.size + 1) (by omega)).trans O4;have K5 : Kp r w w5 := by rw [hw5]; exact K4.put 3 _
       have ROW5 := ROW4.keep (by rw [hw5]; simp) (fun b hb _ => ot b (by omega));have HW5 := zH hw5;have HX5 := zH X5;have HO5 := zH O5;have HR5 := zH R5;have HK5 := zH K5;have HROW5 := zH ROW5;clear hw5 ot R5 X5 O5 K5 ROW5 X4 O4 K4 ROW4 R4 HNO HFIN;go_upto_region 13 with fail
       rw [<- HW5.out];clear r3 f3 x5;have X5 := HX5.out;have DONE := (HROW5.out).done k (m := w.heap.size + 1) (by omega) (by omega) (by omega);have SEAL := zH (TyOut.seal (n := S.n) (cn := cn) (res := F) (Nat.le_refl _) X5 HK5.out DONE (Nat.lt_succ_self _) hr ((by rw [hFE]; exact RdRes.bad (by decide) hcnt HR5.out)));obtain ⟨x0, x1, x2, x3, x4, x5, x6⟩ := cq7 HO5.out;simp at x0 x1 x2 x3 x4 x5 x6;clear DONE;go_wp2_with (first | ((with_reducible refine wpList_putRow 48 (w.heap.size) #[.int .i64 k, .string ⟨#[]⟩, .int .i64 0, .string ⟨#[]⟩, .string ⟨#[]⟩, .slice A5 n c5, .slice A6 n c6] _ _ X5 ?_ ?_ ?_ ?_ ?_ ?_); exact tySize; rfl; exact tyOne; iterate 2 (focus (first | (go_simp; done) | rfl))))
       exact ret_agg1 (fn := Tryz.f132) (vs := [.int .i64 k, .string ⟨#[]⟩, .int .i64 0, .string ⟨#[]⟩, .string ⟨#[]⟩, .slice A5 n c5, .slice A6 n c6]) (b := w.heap.size) rfl rfl Tryz.underlying48 (by kernel_rfl) SEAL.out.1 rfl SEAL.out.2
      ·have hl20 : ¬ (20 : Int) <= n := by omega
       have HX4 := zH X4;have HO4 := zH O4;have HK4 := zH K4;have HROW4 := zH ROW4;have HR4 := zH R4;clear X4 O4 K4 ROW4 R4;go_upto_block 2 with fail
       go_cut [12] (fun _ wx => w4 = wx /\ twice (S.T i) ns = false)
       case first =>
        go_wp2_with fail
        go_loopw [12] (fun j wr => ∃ q : Nat, q <= n /\ j = .int .i64 q /\ Hid (w4 = wr) /\ Hid (∀ u s, u < q -> ns[u]? = some s -> (s.data.toList == (S.T i).data.toList) = false)) (fun j _ => n - (intOf j).toNat)
        case atStart => exact ⟨0, by omega, rfl, (by first | exact zH rfl | exact zH trivial), zH (fun u s hu => by omega)⟩
        case round =>
         obtain ⟨q, hq, rfl, hwr, HALL⟩ := hrel;obtain rfl := hwr.out;clear hwr;by_cases hqn : q < n
         ·obtain ⟨s, hs⟩ : ∃ s, ns[q]? = some s := ⟨_, List.getElem?_eq_getElem (by rw [HL5.out]; exact hqn)⟩
          obtain ⟨g5, cap5, hv5, hg5, hg5l⟩ := (HROW4.out).names.form (by omega);simp at hv5;obtain ⟨rfl, rfl⟩ := hv5
          have n5 : w4.cell? ⟨g5, q, none⟩ = some (.string s) := by
           rw [(HROW4.out).names.cellAt q (by omega), List.getElem?_map, hs]; rfl
          have E1 := zH (show s.toList = s.data.toList from Lib.toList_data _);have E2 := zH (show (S.T i).toList = (S.T i).data.toList from Lib.toList_data _);have HS := zH hs;clear hs;rcases hid_or (s.toList == (S.T i).toList) with he | he
          ·have he1 := he.out
           have HALL2 : Hid (∀ u s, u < q + 1 -> ns[u]? = some s -> (s.data.toList == (S.T i).data.toList) = false) := zH (fun u s' hu hs' => by
            rcases Nat.lt_or_ge u q with h | h
            ·exact HALL.out u s' h hs'
            ·obtain rfl : u = q := by omega
             rw [HS.out] at hs';obtain rfl := Option.some.inj hs';rw [<- E1.out, <- E2.out]; exact he1)
           clear HALL E1 E2;go_wp2_with fail
           go_roundw
           case rel => exact ⟨q + 1, by omega, by go_num, (by first | exact zH rfl | exact zH trivial), HALL2⟩
           case measure => simp [intOf]; omega
          ·have he1 := he.out
           have hFE : F = .err 5 i := by
            have ht : twice (S.T i) ns = true := List.any_eq_true.2 ⟨s, List.mem_of_getElem? HS.out, by rw [<- E1.out, <- E2.out]; exact he1⟩;rw [HFIN.out, parts_eq, if_neg (by rw [HNO.out]; decide), HL5.out, if_neg hlim, if_pos ht]
           have r3 := HR4.out.c3;have f3 := HR4.out.f 3;simp at r3;obtain ⟨w5, hw5⟩ : ∃ w5, w5 = w4.setCell ⟨r, 3, none⟩ (.int .i64 5) := ⟨_, rfl⟩;have ot : ∀ b, b ≠ r -> w5.heap[b]? = w4.heap[b]? := fun b hb => by rw [hw5]; exact Below.heap_setCell _ _ _ _ hb
           have R5 : Rd r (some ⟨g0, o0, none⟩) S.n cn i c 5 w5 := by rw [hw5]; exact HR4.out.bad 5
           have X5 := (ot w.heap.size (by omega)).trans HX4.out;have O5 := (ot (w.heap.size + 1) (by omega)).trans HO4.out;have K5 : Kp r w w5 := by rw [hw5]; exact HK4.out.put 3 _
           have ROW5 := HROW4.out.keep (by rw [hw5]; simp) (fun b hb _ => ot b (by omega));have HW5 := zH hw5;have HX5 := zH X5;have HO5 := zH O5;have HR5 := zH R5;have HK5 := zH K5;have HROW5 := zH ROW5;clear hw5 ot R5 X5 O5 K5 ROW5 HNO HFIN E1 E2 HALL;go_upto_region 19 with fail
           rw [<- HW5.out];clear r3 f3 x5 n5;have X5 := HX5.out;have DONE := (HROW5.out).done k (m := w.heap.size + 1) (by omega) (by omega) (by omega);have SEAL := zH (TyOut.seal (n := S.n) (cn := cn) (res := F) (Nat.le_refl _) X5 HK5.out DONE (Nat.lt_succ_self _) hr ((by rw [hFE]; exact RdRes.bad (by decide) hcnt HR5.out)));obtain ⟨x0, x1, x2, x3, x4, x5, x6⟩ := cq7 HO5.out;simp at x0 x1 x2 x3 x4 x5 x6;clear DONE;go_wp2_with (first | ((with_reducible refine wpList_putRow 48 (w.heap.size) #[.int .i64 k, .string ⟨#[]⟩, .int .i64 0, .string ⟨#[]⟩, .string ⟨#[]⟩, .slice (some ⟨g5, 0, none⟩) n c5, .slice A6 n c6] _ _ X5 ?_ ?_ ?_ ?_ ?_ ?_); exact tySize; rfl; exact tyOne; iterate 2 (focus (first | (go_simp; done) | rfl))))
           exact ret_agg1 (fn := Tryz.f132) (vs := [.int .i64 k, .string ⟨#[]⟩, .int .i64 0, .string ⟨#[]⟩, .string ⟨#[]⟩, .slice (some ⟨g5, 0, none⟩) n c5, .slice A6 n c6]) (b := w.heap.size) rfl rfl Tryz.underlying48 (by kernel_rfl) SEAL.out.1 rfl SEAL.out.2
         ·obtain rfl : q = n := by omega
          go_wp2_with fail
          go_meet
          refine ⟨rfl, ?_⟩;cases ht : twice (S.T i) ns with
          | false => rfl
          | true =>
           obtain ⟨s, hs, he⟩ := List.any_eq_true.1 ht;obtain ⟨u, hu⟩ := List.getElem?_of_mem hs;have := HALL.out u s (by have := (List.getElem?_eq_some_iff.1 hu).1; have := HL5.out; omega) hu
           rw [this] at he; cases he
       case rest =>
        obtain ⟨rfl, htw⟩ := hcut
        have hBE : F = behindR S k zl g' d i c ns ss := by
         rw [HFIN.out, parts_eq, if_neg (by rw [HNO.out]; decide), HL5.out, if_neg hlim, if_neg (by rw [htw]; decide)]
        have r1 := HR4.out.c1;have f1 := HR4.out.f 1;obtain ⟨w5, hw5⟩ : ∃ w5, w5 = w4.setCell ⟨r, 1, none⟩ (.int .i64 ((i : Int) + 1)) := ⟨_, rfl⟩;have ot : ∀ b, b ≠ r -> w5.heap[b]? = w4.heap[b]? := fun b hb => by rw [hw5]; exact Below.heap_setCell _ _ _ _ hb
        have hs5 : w5.heap.size = w4.heap.size := by rw [hw5]; simp
        have R5 : Rd r (some ⟨g0, o0, none⟩) S.n cn (i + 1) c 0 w5 := by rw [hw5]; have := HR4.out.at (i + 1); simpa using this
        have X5 := (ot w.heap.size (by omega)).trans HX4.out;have O5 := (ot (w.heap.size + 1) (by omega)).trans HO4.out;have K5 : Kp r w w5 := by rw [hw5]; exact HK4.out.put 1 _
        have ROW5 := HROW4.out.keep (by omega) (fun b hb _ => ot b (by omega));have C5 := HC0.out.on K5 hr;have PS := zH (pass_any C5 R5 ⟨#[58]⟩);have HW5 := zH hw5;have HX5 := zH X5;have HO5 := zH O5;have HK5 := zH K5;have HROW5 := zH ROW5;have HBE := zH hBE;have h63 : (i : Int) + 1 <= 9223372036854775807 := by omega
        clear hw5 ot R5 X5 O5 K5 ROW5 C5 hBE htw x5 HX4 HO4 HK4 HROW4 HNO HFIN;go_upto_region 21 with fail
        rw [<- HW5.out];clear r1 f1;go_wp2_with fail
        refine PS.out.mono ?_; rintro e w6 ⟨rfl, R6, k6⟩
        have hs6 := k6.size;have hr6 := R6.lt;have X6 := (k6.blk (j := w.heap.size) (by omega) (by omega)).trans HX5.out;have O6 := (k6.blk (j := w.heap.size + 1) (by omega) (by omega)).trans HO5.out;have K6 := HK5.out.trans k6;have ROW6 := HROW5.out.keep hs6 (fun b hb hlt => k6.blk hlt (by omega));have C6 := HC0.out.on K6 hr;have TY := zH (HTy.out g' (by omega) (d + 1) _ c _ w6 (by omega) hcnt C6 R6 (fun hz => behind_hne (fun j => by rw [<- HBE.out]; exact HNE.out j) hz));have hcast : Hid (((d : Int) + 1) = ((d + 1 : Nat) : Int)) := zH (by omega);have hd0 : (0 : Int) <= d := by omega
        have hd1 : (d : Int) <= 32 := by omega
        have HX6 := zH X6;have HO6 := zH O6;have HK6 := zH K6;have HROW6 := zH ROW6;clear R6 k6 X6 O6 K6 ROW6 C6 PS HX5 HO5 HK5 HROW5 HW5;go_wp2_with fail
        rw [hcast.out];refine TY.out.mono ?_; rintro e w7 ⟨l, t, rfl, hT7, hK7, i2, c2, b2, hres, hc2, R7⟩
        obtain ⟨An, cA, As, cS, rfl, -⟩ := hT7.parts;have hs7 := hK7.size;obtain ⟨w8, hw8⟩ : ∃ w8, w8 = w7.alloc (.cells #[.int .i64 t.kind, .string t.pkg, .int .i64 t.major, .string t.mod, .string t.name, .slice An t.names.length cA, .slice As t.subs.length cS] 48) := ⟨_, rfl⟩;have B8 : Below w7.heap.size w7 w8 := by rw [hw8]; exact below_new (Below.refl _ _) _
        have s8 : w8.heap.size = w7.heap.size + 1 := by rw [hw8]; simp
        have T8 : w8.heap[w7.heap.size]? = some (.cells #[.int .i64 t.kind, .string t.pkg, .int .i64 t.major, .string t.mod, .string t.name, .slice An t.names.length cA, .slice As t.subs.length cS] 48 (0, 0)) := by rw [hw8]; exact heap_alloc_new w7 _
        have ROW7 := HROW6.out.keep hs7 (fun b hb hlt => hK7.blk hlt (by omega));have GT7 := HROW6.out.fresh (by omega) hT7;have ROW8 := ROW7.keep B8.size (fun b _ hlt => B8.block b hlt);have GT8 := GT7.keep (w' := w8) B8.size (fun b _ hlt => B8.block b hlt);have X8 := (B8.block w.heap.size (by omega)).trans ((hK7.blk (j := w.heap.size) (by omega) (by omega)).trans HX6.out);have O8 := (B8.block (w.heap.size + 1) (by omega)).trans ((hK7.blk (j := w.heap.size + 1) (by omega) (by omega)).trans HO6.out);have K8 := (HK6.out.trans hK7).trans (Kp.of_below B8);have R8 := R7.on B8;have own5 : ∀ b, (Value.slice A5 n c5).ownBlock = some b -> b < w6.heap.size := fun b e => (HROW6.out.names.lt b e).2
        have x5 := cZ O8 5;simp at x5;have hMX : n + 1 <= maxLen := by unfold maxLen; omega
        have hAL : ∀ oo, w.heap.size + 2 <= (w8.alloc oo).heap.size := fun oo => by have e1 : (w8.alloc oo).heap.size = w8.heap.size + 1 := (by simp); omega
        have hs8 : w7.heap.size < w8.heap.size := by omega
        have S8 := zH s8;clear s8;obtain ⟨inf0, hi0, hz0, hz1, hz2⟩ := info_parts str_info;have HW8 := zH hw8;have HGT8 := zH GT8;have HX8 := zH X8;have HO8 := zH O8;have HK8 := zH K8;have HR8 := zH R8;have HT8 := zH T8;have HRES := zH hres;have ON := ROW8.names;have HROW8 := zH ROW8;clear hT7 hK7 R7 hw8 B8 T8 ROW7 GT7 ROW8 GT8 X8 O8 K8 R8 hres HX6 HO6 HK6 HROW6 TY;go_upto_region 23 with fail
        rw [<- HW8.out];go_wp2_with (at_builtin; refine wpList_append_lies _ rfl (.tmp 109) (.tmp 111) 45 rfl (w.heap.size + 2) 9 inf0 _ 1 16 Tryz.underlying45 hi0 hz0 hz1 hz2 (by rfl) (by decide) (.slice A5 n c5) n _ rfl (ON.alloc _) ⟨w8.heap.size, 0, none⟩ 1 1 [.string (S.T i)] rfl rfl (fun q u hq => by rw [WideShapes.add_plain, Nat.zero_add, cZ (heap_alloc_new w8 _), <- hq, <- List.getElem?_toArray]) (fun u hu => by simp at hu; subst hu; rfl) Nat.one_pos hMX (by omega) (hAL _) _ rfl ?_)
        intro g5 cap5 w9' hown hgrow hat hlt9;obtain ⟨ROW9, MV9, O9, K9, old9, z9, e9, hs9⟩ := GrR.moreName (r := r) HROW8.out (by omega) hz hown hgrow (by simpa using hat) (B := w.heap.size + 1) (by omega) HO8.out HK8.out (by omega);obtain ⟨w9, hw9⟩ : ∃ w9, w9 = w9'.setCell ⟨w.heap.size + 1, 5, none⟩ (.slice (some ⟨g5, 0, none⟩) (n + 1) cap5) := ⟨_, rfl⟩;have HW9 := zH hw9;rw [<- hw9] at ROW9 MV9 O9 K9 old9 hs9;have low5 : ∀ b, (Value.slice A5 n c5).ownBlock = some b -> w.heap.size + 2 <= b := fun b e => (ON.lt b e).1
        have GT9 := MV9 _ _ HGT8.out;have R9 := HR8.out.other (old9 r (by omega) (by omega) (fun e => by have := low5 r e; omega));have X9 := (old9 w.heap.size (by omega) (by omega) (fun e => by have := low5 _ e; omega)).trans HX8.out;have T9 := (old9 w7.heap.size (by omega) (by omega) (fun e => by have := own5 _ e; omega)).trans HT8.out;have HGT9 := zH GT9;have HR9 := zH R9;have HX9 := zH X9;have HO9 := zH O9;have HK9 := zH K9;have HROW9 := zH ROW9;have x6 := cZ O9 6;simp at x6;obtain ⟨tb0, tb1, tb2, tb3, tb4, tb5, tb6⟩ := cq7 T9;simp at tb0 tb1 tb2 tb3 tb4 tb5 tb6;clear hown hgrow hat hlt9 hw9 ROW9 MV9 O9 K9 old9 GT9 R9 X9 T9 low5 own5 ON HGT8 HX8 HO8 HK8 HR8 HT8 HROW8 x5;go_upto_region 24 with fail
        rw [<- HW9.out];clear z9 e9;obtain ⟨C, hC1, hC2, own6, hC4⟩ := HROW9.out.subs;have hAL9 : ∀ oo, w.heap.size + 2 <= (w9.alloc oo).heap.size := fun oo => by have e1 : (w9.alloc oo).heap.size = w9.heap.size + 1 := (by simp); omega
        obtain ⟨inf1, hi1, hy0, hy1, hy2⟩ := info_parts typ_info;go_wp2_with (at_builtin; refine wpList_append_lies _ rfl (.tmp 115) (.tmp 117) 46 rfl (w.heap.size + 2) 48 inf1 _ 7 112 Tryz.underlying46 hi1 hy0 hy1 hy2 (by rfl) (Nat.zero_lt_succ 6) (.slice A6 n c6) n _ rfl (own6.alloc _) ⟨w9.heap.size, 0, none⟩ 1 1 [.int .i64 t.kind, .string t.pkg, .int .i64 t.major, .string t.mod, .string t.name, .slice An t.names.length cA, .slice As t.subs.length cS] rfl rfl (fun q u hq => by rw [WideShapes.add_plain, Nat.zero_add, cZ (heap_alloc_new w9 _), <- hq, <- List.getElem?_toArray]) (fun u hu => by simp at hu; rcases hu with rfl | rfl | rfl | rfl | rfl | rfl | rfl <;> rfl) Nat.one_pos hMX (by omega) (hAL9 _) _ rfl ?_)
        intro g6 cap6 w10' hown hgrow hat hlt10;obtain ⟨ROW10, O10, K10, old10, z10, e10, hs10⟩ := GrR.moreSub (r := r) HROW9.out (by omega) hC1 hC2 hC4 rfl HGT9.out hown hgrow (by simpa using hat) (B := w.heap.size + 1) (by omega) HO9.out HK9.out (by omega);obtain ⟨w10, hw10⟩ : ∃ w10, w10 = w10'.setCell ⟨w.heap.size + 1, 6, none⟩ (.slice (some ⟨g6, 0, none⟩) (n + 1) cap6) := ⟨_, rfl⟩;have HW10 := zH hw10;rw [<- hw10] at ROW10 O10 K10 old10 hs10;have R10 := HR9.out.other (old10 r (by omega) (by omega));have X10 := (old10 w.heap.size (by omega) (by omega)).trans HX9.out;have x5 := cZ O10 5;simp at x5
        have SW : Hid (SwI w r (some ⟨g0, o0, none⟩) S cn k (S.T i) t ns ss n g5 cap5 g6 cap6 i2 c2 b2 n w10) := zH ⟨K10, O10, X10, by
         have e5 : putAt n (S.T i) ns = ns ++ [S.T i] := by rw [<- HL5.out]; exact put_end _ _
         have e6 : putAt n t ss = ss ++ [t] := by rw [<- HL6.out]; exact put_end _ _
         rw [e5, e6]; exact ROW10, R10, Nat.le_refl _, rfl⟩
        clear hown hgrow hat hlt10 hw10 ROW10 O10 K10 old10 R10 X10 hC1 hC2 hC4 own6 hi1 hy0 hy1 hy2 hi0 hz0 hz1 hz2 HGT9 HR9 HX9 HO9 HK9 HROW9 tb0 tb1 tb2 tb3 tb4 tb5 tb6 x6 hAL hAL9 hMX HW9 HW8;go_upto_region 25 with fail
        rw [<- HW10.out];clear z10 e10;go_upto_block 4 with fail
        clear x5;have hr10 : r < w10.heap.size := by omega
        clear S8 hs8 hs9 hs10 HW10;go_cut [14] (fun _ wx => SwI w r (some ⟨g0, o0, none⟩) S cn k (S.T i) t ns ss n g5 cap5 g6 cap6 i2 c2 b2 (posOf (S.T i) ns n) wx)
        case first =>
         clear HC0 HTy HNE HBE HRES;go_wp2_with fail
         go_loopw [14] (fun j wr => ∃ m : Nat, m <= n /\ j = .int .i64 m /\ Hid (SwI w r (some ⟨g0, o0, none⟩) S cn k (S.T i) t ns ss n g5 cap5 g6 cap6 i2 c2 b2 m wr)) (fun j _ => (intOf j).toNat)
         case atStart => exact ⟨n, Nat.le_refl _, by go_num, SW⟩
         case round =>
          obtain ⟨m, hm, rfl, HS⟩ := hrel;obtain ⟨wa, rfl⟩ : ∃ wa : World, wa = wr := ⟨_, rfl⟩;clear SW;have x5 := cZ HS.out.box 5;simp at x5;cases m with
          | zero =>
           have FIN : Hid (SwI w r (some ⟨g0, o0, none⟩) S cn k (S.T i) t ns ss n g5 cap5 g6 cap6 i2 c2 b2 (posOf (S.T i) ns n) wa) := zH (by
            have h := HS.out;have e : posOf (S.T i) ns 0 = posOf (S.T i) ns n := h.pos;have e0 : posOf (S.T i) ns 0 = 0 := by unfold posOf; rfl
            rw [<- e, e0]; exact h)
           clear HS;go_wp2_with fail
           go_quiet (fail)
           go_wp2_with fail
           have hbq : Below wa.heap.size wa (wa.drewN nq) := below_drewN (Below.refl _ _) _;go_meet
           exact FIN.out.on hbq
          | succ m =>
           obtain ⟨x, hx⟩ : ∃ x, ns[m]? = some x := ⟨_, List.getElem?_eq_getElem (by rw [HL5.out]; omega)⟩
           have nm1 : wa.cell? ⟨g5, m + 1, none⟩ = some (.string (S.T i)) := by
            rw [HS.out.rows.names.cellAt (m + 1) (by omega), List.getElem?_map, put_at (m + 1) _ _ (by rw [HL5.out]; omega)]; rfl
           have nm0 : wa.cell? ⟨g5, m, none⟩ = some (.string x) := by
            rw [HS.out.rows.names.cellAt m (by omega), List.getElem?_map, put_ahead m _ _ (by rw [HL5.out]; omega), hx]; rfl
           have hg5 : g5 < wa.heap.size := World.block_lt_of_cell? _ _ nm0;have b0 : (0 : Int) < (m : Int) + 1 := by omega
           have b00 : (0 : Int) <= (m : Int) + 1 := by omega
           have b1 : (m : Int) + 1 < (n : Int) + 1 := by omega
           have b2' : (m : Int) < (n : Int) + 1 := by omega
           have hnx : nameAt ns m = x := by unfold nameAt; rw [List.getD_eq_getElem?_getD, hx]; rfl
           have HXX := zH hx;have HNX := zH hnx;clear hx hnx;go_wp2_with fail
           go_quiet (fail)
           obtain ⟨q3, hq3⟩ : ∃ q3, Op.bytesLess (S.T i).toList x.toList = q3 := ⟨_, rfl⟩;rw [hq3];obtain ⟨wb, hwb⟩ : ∃ wb, wb = wa.drewN nq := ⟨_, rfl⟩;rw [<- hwb];have hbq : Below wa.heap.size wa wb := by rw [hwb]; exact below_drewN (Below.refl _ _) _
           have HSB := zH (HS.out.on hbq);have HQ3 := zH hq3;clear hwb hbq HS nm0 nm1 x5 hq3;cases q3 with
           | false =>
            have FIN : Hid (SwI w r (some ⟨g0, o0, none⟩) S cn k (S.T i) t ns ss n g5 cap5 g6 cap6 i2 c2 b2 (posOf (S.T i) ns n) wb) := zH (by
             have h := HSB.out;have e := h.pos;have e0 : posOf (S.T i) ns (m + 1) = m + 1 := by unfold posOf; rw [HNX.out, HQ3.out, if_neg (by decide)]
             rw [<- e, e0]; exact h)
            clear HSB;go_wp2_with fail
            go_meet
            exact FIN.out
           | true =>
            have x5 := cZ HSB.out.box 5;have x6 := cZ HSB.out.box 6;simp at x5 x6
            have nm1 : wb.cell? ⟨g5, m + 1, none⟩ = some (.string (S.T i)) := by
             rw [HSB.out.rows.names.cellAt (m + 1) (by omega), List.getElem?_map, put_at (m + 1) _ _ (by rw [HL5.out]; omega)]; rfl
            have nm0 : wb.cell? ⟨g5, m, none⟩ = some (.string x) := by
             rw [HSB.out.rows.names.cellAt m (by omega), List.getElem?_map, put_ahead m _ _ (by rw [HL5.out]; omega), HXX.out]; rfl
            have nf1 : wb.frozen? ⟨g5, m + 1, none⟩ = false := HSB.out.rows.names.frozenAt _;have hwm : IntKind.i64.wrap (m : Int) = m := IntWalk.i64_in _ (by omega);go_upto_region 29 with fail
            refine AnyX.start (fun wx => wx.cell? ⟨w.heap.size + 1, 5, none⟩ = some (.slice (some ⟨g5, 0, none⟩) (n + 1) cap5) /\ wx.cell? ⟨g5, m, none⟩ = some (.string x)) (fun k => k == 10) (by kernel_rfl) ?_
            have hH0 : wb.drew.cell? ⟨w.heap.size + 1, 5, none⟩ = some (.slice (some ⟨g5, 0, none⟩) (n + 1) cap5) /\ wb.drew.cell? ⟨g5, m, none⟩ = some (.string x) := by
             constructor
             ·simpa using x5
             ·simpa using nm0
            refine AnyX.mv (i := 0) (v := ?_) rfl (fun _ _ _ h => h) (Or.inl ⟨by rfl, ?_⟩) ?_;rotate_left
            ·(intro wS _; go_simp; try with_reducible rfl)
            simp only [getElem_toArray, getElem_cons_succ, getElem_cons_zero];simp only [Act.put, setIfInBounds_toArray, set_cons_zero, set_cons_succ];refine AnyX.tk (i := 1) (v := ?_) rfl (fun _ _ _ h => h) hH0 (Or.inl ⟨by rfl, ?_⟩) ?_;rotate_left
            ·(intro wS hS; (try obtain ⟨hS1, hS2⟩ := hS); go_simp; try with_reducible rfl)
            simp only [getElem_toArray, getElem_cons_succ, getElem_cons_zero];simp only [Act.put, setIfInBounds_toArray, set_cons_zero, set_cons_succ];refine AnyX.mv (i := 2) (v := ?_) rfl (fun _ _ _ h => h) (Or.inl ⟨by rfl, ?_⟩) ?_;rotate_left
            ·(intro wS _; go_simp; try with_reducible rfl)
            simp only [getElem_toArray, getElem_cons_succ, getElem_cons_zero];simp only [Act.put, setIfInBounds_toArray, set_cons_zero, set_cons_succ];refine AnyX.mv (i := 3) (v := ?_) rfl (fun _ _ _ h => h) (Or.inl ⟨by rfl, ?_⟩) ?_;rotate_left
            ·(intro wS _; go_simp; try with_reducible rfl)
            simp only [getElem_toArray, getElem_cons_succ, getElem_cons_zero];simp only [Act.put, setIfInBounds_toArray, set_cons_zero, set_cons_succ];refine AnyX.tk (i := 4) (v := ?_) rfl (fun _ _ _ h => h) hH0 (Or.inl ⟨by rfl, ?_⟩) ?_;rotate_left
            ·(intro wS hS; (try obtain ⟨hS1, hS2⟩ := hS); go_simp; try with_reducible rfl)
            simp only [getElem_toArray, getElem_cons_succ, getElem_cons_zero];simp only [Act.put, setIfInBounds_toArray, set_cons_zero, set_cons_succ];refine AnyX.mv (i := 5) (v := ?_) rfl (fun _ _ _ h => h) (Or.inl ⟨by rfl, ?_⟩) ?_;rotate_left
            ·(intro wS _; go_simp; try with_reducible rfl)
            simp only [getElem_toArray, getElem_cons_succ, getElem_cons_zero];simp only [Act.put, setIfInBounds_toArray, set_cons_zero, set_cons_succ];refine AnyX.mv (i := 6) (v := ?_) rfl (fun _ _ _ h => h) (Or.inl ⟨by rfl, ?_⟩) ?_;rotate_left
            ·(intro wS _; go_simp; try with_reducible rfl)
            simp only [getElem_toArray, getElem_cons_succ, getElem_cons_zero];simp only [Act.put, setIfInBounds_toArray, set_cons_zero, set_cons_succ];refine AnyX.mv (i := 7) (v := ?_) rfl (fun _ _ _ h => h) (Or.inl ⟨by rfl, ?_⟩) ?_;rotate_left
            ·(intro wS _; go_simp; try with_reducible rfl)
            simp only [getElem_toArray, getElem_cons_succ, getElem_cons_zero];simp only [Act.put, setIfInBounds_toArray, set_cons_zero, set_cons_succ];refine AnyX.tk (i := 8) (v := ?_) rfl (fun _ _ _ h => h) hH0 (Or.inl ⟨by rfl, ?_⟩) ?_;rotate_left
            ·(intro wS hS; (try obtain ⟨hS1, hS2⟩ := hS); go_simp; try with_reducible rfl)
            simp only [getElem_toArray, getElem_cons_succ, getElem_cons_zero];simp only [Act.put, setIfInBounds_toArray, set_cons_zero, set_cons_succ];refine AnyX.mv (i := 9) (v := ?_) rfl (fun _ _ _ h => h) (Or.inl ⟨by rfl, ?_⟩) ?_;rotate_left
            ·(intro wS _; go_simp; try with_reducible rfl)
            simp only [getElem_toArray, getElem_cons_succ, getElem_cons_zero];simp only [Act.put, setIfInBounds_toArray, set_cons_zero, set_cons_succ];refine AnyX.go 10 (by kernel_rfl) rfl rfl (fun K hK => ?_);simp only [getElem_toArray, getElem_cons_succ, getElem_cons_zero];go_simp
            refine hK.out _ _ (fun hoff _ => absurd hoff (by decide)) ?_;clear hK;(try simp only [Act.put, setIfInBounds_toArray, set_cons_zero, set_cons_succ]);refine AnyX.done (by kernel_rfl) ?_ _;obtain ⟨wc1, hwc1⟩ : ∃ wc1, wc1 = (wb.setCell ⟨g5, m + 1, none⟩ (.string x)).drew := ⟨_, rfl⟩
            have hxs : x.size <= 9223372036854775807 := by
             have hin : x ∈ putAt (m + 1) (S.T i) ns := List.mem_of_getElem? ((put_ahead m (S.T i) ns (by rw [HL5.out]; omega)).trans HXX.out);exact HSB.out.rows.szs x hin
            have HSD := HSB.out;obtain ⟨ROWc0, -⟩ := HSD.rows.setName (m + 1) hxs;have ROWc := ROWc0.keep (w' := wc1) (by rw [hwc1]; exact Nat.le_refl _) (fun b _ _ => by rw [hwc1]; rfl);obtain ⟨ROWd, -⟩ := ROWc.setName m hz;obtain ⟨wd, hwd⟩ : ∃ wd, wd = wc1.setCell ⟨g5, m, none⟩ (.string (S.T i)) := ⟨_, rfl⟩;rw [<- hwd, put_step m _ _ _ HXX.out] at ROWd;have low5 := (HSD.rows.names.lt g5 rfl).1;have hg5l := (HSD.rows.names.lt g5 rfl).2;have otc : ∀ b, b ≠ g5 -> wc1.heap[b]? = wb.heap[b]? := fun b hb => by rw [hwc1]; exact Below.heap_setCell _ _ _ _ hb
            have otd : ∀ b, b ≠ g5 -> wd.heap[b]? = wc1.heap[b]? := fun b hb => by rw [hwd]; exact Below.heap_setCell _ _ _ _ hb
            have szc : wc1.heap.size = wb.heap.size := by rw [hwc1]; exact (by simp : (wb.setCell ⟨g5, m + 1, none⟩ (.string x)).heap.size = wb.heap.size)
            have szd : wd.heap.size = wb.heap.size := by rw [hwd]; simpa using szc
            have Kc : Kp r w wc1 := by
             have h := HSD.kp.putNew ⟨g5, m + 1, none⟩ (by show w.heap.size <= g5; omega) (.string x);rw [hwc1]; exact ⟨h.os, h.tape, h.output, h.size, h.block⟩
            have Kd : Kp r w wd := by rw [hwd]; exact Kc.putNew _ (by show w.heap.size <= g5; omega) _
            have Od := (otd (w.heap.size + 1) (by omega)).trans ((otc (w.heap.size + 1) (by omega)).trans HSD.box);have Xd := (otd w.heap.size (by omega)).trans ((otc w.heap.size (by omega)).trans HSD.res);have Rd' := (HSD.rd.other (otc r (by omega))).other (otd r (by omega))
            have y5 : wc1.cell? ⟨w.heap.size + 1, 5, none⟩ = some (.slice (some ⟨g5, 0, none⟩) (n + 1) cap5) := cZ ((otc (w.heap.size + 1) (by omega)).trans HSD.box) 5
            have z5 : (wc1.cell? ⟨g5, m, none⟩).isSome = true := by
             rw [ROWc.names.cellAt m (by omega), List.getElem?_map, List.getElem?_eq_getElem (by rw [List.length_set, put_len _ _ _ (by rw [HL5.out]; omega), HL5.out]; omega)]; rfl
            obtain ⟨zv, z5⟩ := Option.isSome_iff_exists.1 z5;have e5 : wc1.frozen? ⟨g5, m, none⟩ = false := ROWc.names.frozenAt _;have HWC := zH hwc1;have HWD := zH hwd;have HROWd := zH ROWd;have HKd := zH Kd;have HOd := zH Od;have HXd := zH Xd;have HRd' := zH Rd'
            rw [<- HWC.out];clear hwc1 hwd ROWc0 ROWc ROWd otc otd szc szd Kc Kd Od Xd Rd' nm1 nm0 nf1 x5 x6 hH0;go_upto_region 31 with fail
            rw [<- HWD.out];clear y5 z5 e5;have hm6 : (putAt (m + 1) t ss)[m + 1]? = some t := put_at (m + 1) _ _ (by rw [HL6.out]; omega);obtain ⟨tm, htm⟩ : ∃ tm, ss[m]? = some tm := ⟨_, List.getElem?_eq_getElem (by rw [HL6.out]; omega)⟩;have hm7 : (putAt (m + 1) t ss)[m]? = some tm := (put_ahead m _ _ (by rw [HL6.out]; omega)).trans htm;obtain ⟨Bn, cB, Bs, dB, GTt, u0, u1, u2, u3, u4, u5, u6⟩ := HROWd.out.subAt hm6;obtain ⟨Dn, cD, Ds, dD, GTm, v0, v1, v2, v3, v4, v5, v6⟩ := HROWd.out.subAt hm7;have x6 := cZ HOd.out 6;simp at x6;have HGTt := zH GTt;have HGTm := zH GTm;have HTM := zH htm;have hg6 : g6 < wd.heap.size := World.block_lt_of_cell? _ _ u0;obtain ⟨we, hwe⟩ : ∃ we, we = wd.alloc (.cells #[.int .i64 t.kind, .string t.pkg, .int .i64 t.major, .string t.mod, .string t.name, .slice Bn t.names.length cB, .slice Bs t.subs.length dB] 48) := ⟨_, rfl⟩;have Be : Below wd.heap.size wd we := by rw [hwe]; exact below_new (Below.refl _ _) _
            have Te : we.heap[wd.heap.size]? = some (.cells #[.int .i64 t.kind, .string t.pkg, .int .i64 t.major, .string t.mod, .string t.name, .slice Bn t.names.length cB, .slice Bs t.subs.length dB] 48 (0, 0)) := by rw [hwe]; exact heap_alloc_new wd _
            have hse : wd.heap.size < we.heap.size := (Array.getElem?_eq_some_iff.1 Te).1;have HWE := zH hwe;have HBe := zH Be;have HTe := zH Te;clear hm6 hm7 GTt GTm htm hwe Be Te;go_upto_region 32 with fail
            rw [<- HWE.out];have bce : ∀ o, we.cell? ⟨g6, o, none⟩ = wd.cell? ⟨g6, o, none⟩ := fun o => HBe.out.cell (p := ⟨g6, o, none⟩) hg6
            have x6e : we.cell? ⟨w.heap.size + 1, 6, none⟩ = some (.slice (some ⟨g6, 0, none⟩) (n + 1) cap6) := cZ ((HBe.out.block _ (Array.getElem?_eq_some_iff.1 HOd.out).1).trans HOd.out) 6
            have V : we.cell? ⟨w.heap.size + 1, 6, none⟩ = some (.slice (some ⟨g6, 0, none⟩) (n + 1) cap6) /\ we.cell? ⟨g6, m * 7, none⟩ = some (.int .i64 tm.kind) /\ we.cell? ⟨g6, m * 7 + 1, none⟩ = some (.string tm.pkg) /\ we.cell? ⟨g6, m * 7 + 2, none⟩ = some (.int .i64 tm.major) /\ we.cell? ⟨g6, m * 7 + 3, none⟩ = some (.string tm.mod) /\
              we.cell? ⟨g6, m * 7 + 4, none⟩ = some (.string tm.name) /\ we.cell? ⟨g6, m * 7 + 5, none⟩ = some (.slice Dn tm.names.length cD) /\ we.cell? ⟨g6, m * 7 + 6, none⟩ = some (.slice Ds tm.subs.length dD) :=
             ⟨x6e, (bce _).trans v0, (bce _).trans v1, (bce _).trans v2, (bce _).trans v3, (bce _).trans v4, (bce _).trans v5, (bce _).trans v6⟩
            have ROWe := HROWd.out.keep HBe.out.size (fun b _ hlt => HBe.out.block b hlt);have GTme := HGTm.out.keep HBe.out.size (fun b _ hlt => HBe.out.block b hlt);have GTte := HGTt.out.keep HBe.out.size (fun b _ hlt => HBe.out.block b hlt);have THe : we.drew.there g6 ((m + 1) * 7) 7 := by simpa using ROWe.thereSub (i := m + 1) (by omega)
            have low6 : w.heap.size + 2 <= g6 := by
             obtain ⟨C, -, -, h3, -⟩ := ROWe.subs;exact (h3.lt g6 rfl).1
            obtain ⟨wf, hwf⟩ : ∃ wf, wf = we.drew.setCells g6 ((m + 1) * 7) [.int .i64 tm.kind, .string tm.pkg, .int .i64 tm.major, .string tm.mod, .string tm.name, .slice Dn tm.names.length cD, .slice Ds tm.subs.length dD] := ⟨_, rfl⟩;have ROWe' := ROWe.keep (w' := we.drew) (Nat.le_refl _) (fun b _ _ => rfl)
            obtain ⟨ROWf, MVf⟩ := ROWe'.setSub (m + 1) (by omega) rfl (GTme.keep (w' := we.drew) (Nat.le_refl _) (fun b _ _ => rfl));have GTtf := MVf _ _ (GTte.keep (w' := we.drew) (Nat.le_refl _) (fun b _ _ => rfl));obtain ⟨wg, hwg⟩ : ∃ wg, wg = wf.setCells g6 (m * 7) [.int .i64 t.kind, .string t.pkg, .int .i64 t.major, .string t.mod, .string t.name, .slice Bn t.names.length cB, .slice Bs t.subs.length dB] := ⟨_, rfl⟩;rw [<- hwf] at ROWf GTtf;have THf := ROWf.thereSub (i := m) (by omega);obtain ⟨ROWg, -⟩ := ROWf.setSub m (by omega) rfl GTtf;rw [<- hwg, put_step m _ _ _ HTM.out] at ROWg;have otf : ∀ b, b ≠ g6 -> wf.heap[b]? = we.heap[b]? := fun b hb => by rw [hwf]; exact setCells7_other rfl hb
            have otg : ∀ b, b ≠ g6 -> wg.heap[b]? = wf.heap[b]? := fun b hb => by rw [hwg]; exact setCells7_other rfl hb
            have Kf : Kp r w wf := by rw [hwf]; exact ((HKd.out.trans (Kp.of_below HBe.out)).trans (Kp.of_below (Below.drew (Below.refl _ we)))).putCells g6 _ (by omega) rfl
            have Kg : Kp r w wg := by rw [hwg]; exact Kf.putCells g6 _ (by omega) rfl
            have lwd := (Array.getElem?_eq_some_iff.1 HOd.out).1;have Of := (otf (w.heap.size + 1) (by omega)).trans ((HBe.out.block _ lwd).trans HOd.out);have Og := (otg (w.heap.size + 1) (by omega)).trans Of;have Xg := (otg w.heap.size (by omega)).trans ((otf w.heap.size (by omega)).trans ((HBe.out.block _ (by omega)).trans HXd.out));have Rg := ((HRd'.out.on HBe.out).other (otf r (by omega))).other (otg r (by omega));have x6f := cZ Of 6;simp at x6f;have Tf := (otf wd.heap.size (by omega)).trans HTe.out;obtain ⟨tb0, tb1, tb2, tb3, tb4, tb5, tb6⟩ := cq7 Tf;simp at tb0 tb1 tb2 tb3 tb4 tb5 tb6
            have FIN : Hid (SwI w r (some ⟨g0, o0, none⟩) S cn k (S.T i) t ns ss n g5 cap5 g6 cap6 i2 c2 b2 m wg) := zH ⟨Kg, Og, Xg, ROWg, Rg, by omega, by
             have e := HSB.out.pos
             have e0 : posOf (S.T i) ns (m + 1) = posOf (S.T i) ns m := by
              conv => lhs; unfold posOf
              rw [HNX.out, HQ3.out, if_pos rfl]
             rw [<- e, e0]⟩
            have HWF := zH hwf;have HWG := zH hwg;have HTHf := zH THf
            have hH6 : we.drew.cell? ⟨w.heap.size + 1, 6, none⟩ = some (.slice (some ⟨g6, 0, none⟩) (n + 1) cap6) /\ we.drew.cell? ⟨g6, m * 7, none⟩ = some (.int .i64 tm.kind) /\ we.drew.cell? ⟨g6, m * 7 + 1, none⟩ = some (.string tm.pkg) /\ we.drew.cell? ⟨g6, m * 7 + 2, none⟩ = some (.int .i64 tm.major) /\ we.drew.cell? ⟨g6, m * 7 + 3, none⟩ = some (.string tm.mod) /\
              we.drew.cell? ⟨g6, m * 7 + 4, none⟩ = some (.string tm.name) /\ we.drew.cell? ⟨g6, m * 7 + 5, none⟩ = some (.slice Dn tm.names.length cD) /\ we.drew.cell? ⟨g6, m * 7 + 6, none⟩ = some (.slice Ds tm.subs.length dD) := V
            clear bce x6e V ROWe GTme GTte low6 hwf ROWe' ROWf MVf GTtf hwg THf ROWg otf otg Kf Kg lwd Of Og Xg Rg Tf u0 u1 u2 u3 u4 u5 u6 v0 v1 v2 v3 v4 v5 v6 x6 HGTt HGTm HROWd HKd HOd HXd HRd' HBe HTe HWE HWD HWC HSB;refine AnyX.start (fun wx => wx.cell? ⟨w.heap.size + 1, 6, none⟩ = some (.slice (some ⟨g6, 0, none⟩) (n + 1) cap6) /\ wx.cell? ⟨g6, m * 7, none⟩ = some (.int .i64 tm.kind) /\ wx.cell? ⟨g6, m * 7 + 1, none⟩ = some (.string tm.pkg) /\ wx.cell? ⟨g6, m * 7 + 2, none⟩ = some (.int .i64 tm.major) /\ wx.cell? ⟨g6, m * 7 + 3, none⟩ = some (.string tm.mod) /\ wx.cell? ⟨g6, m * 7 + 4, none⟩ = some (.string tm.name) /\ wx.cell? ⟨g6, m * 7 + 5, none⟩ = some (.slice Dn tm.names.length cD) /\ wx.cell? ⟨g6, m * 7 + 6, none⟩ = some (.slice Ds tm.subs.length dD)) (fun k => k == 10) (by kernel_rfl) ?_;refine AnyX.mv (i := 0) (v := ?_) rfl (fun _ _ _ h => h) (Or.inl ⟨by rfl, ?_⟩) ?_;rotate_left
            ·(intro wS _; go_simp; try with_reducible rfl)
            simp only [getElem_toArray, getElem_cons_succ, getElem_cons_zero];simp only [Act.put, setIfInBounds_toArray, set_cons_zero, set_cons_succ];refine AnyX.tk (i := 1) (v := ?_) rfl (fun _ _ _ h => h) hH6 (Or.inl ⟨by rfl, ?_⟩) ?_;rotate_left
            ·(intro wS hS; (try obtain ⟨hS1, hS2, hS3, hS4, hS5, hS6, hS7, hS8⟩ := hS); go_simp; try with_reducible rfl)
            simp only [getElem_toArray, getElem_cons_succ, getElem_cons_zero];simp only [Act.put, setIfInBounds_toArray, set_cons_zero, set_cons_succ];refine AnyX.mv (i := 2) (v := ?_) rfl (fun _ _ _ h => h) (Or.inl ⟨by rfl, ?_⟩) ?_;rotate_left
            ·(intro wS _; go_simp; try with_reducible rfl)
            simp only [getElem_toArray, getElem_cons_succ, getElem_cons_zero];simp only [Act.put, setIfInBounds_toArray, set_cons_zero, set_cons_succ];refine AnyX.mv (i := 3) (v := ?_) rfl (fun _ _ _ h => h) (Or.inl ⟨by rfl, ?_⟩) ?_;rotate_left
            ·(intro wS _; go_simp; try with_reducible rfl)
            simp only [getElem_toArray, getElem_cons_succ, getElem_cons_zero];simp only [Act.put, setIfInBounds_toArray, set_cons_zero, set_cons_succ];refine AnyX.tk (i := 4) (v := ?_) rfl (fun _ _ _ h => h) hH6 (Or.inl ⟨by rfl, ?_⟩) ?_;rotate_left
            ·(intro wS hS; (try obtain ⟨hS1, hS2, hS3, hS4, hS5, hS6, hS7, hS8⟩ := hS); go_simp; try with_reducible rfl)
            simp only [getElem_toArray, getElem_cons_succ, getElem_cons_zero];simp only [Act.put, setIfInBounds_toArray, set_cons_zero, set_cons_succ];refine AnyX.mv (i := 5) (v := ?_) rfl (fun _ _ _ h => h) (Or.inl ⟨by rfl, ?_⟩) ?_;rotate_left
            ·(intro wS _; go_simp; try with_reducible rfl)
            simp only [getElem_toArray, getElem_cons_succ, getElem_cons_zero];simp only [Act.put, setIfInBounds_toArray, set_cons_zero, set_cons_succ];refine AnyX.mv (i := 6) (v := ?_) rfl (fun _ _ _ h => h) (Or.inl ⟨by rfl, ?_⟩) ?_;rotate_left
            ·(intro wS _; go_simp; try with_reducible rfl)
            simp only [getElem_toArray, getElem_cons_succ, getElem_cons_zero];simp only [Act.put, setIfInBounds_toArray, set_cons_zero, set_cons_succ];refine AnyX.mv (i := 7) (v := ?_) rfl (fun _ _ _ h => h) (Or.inl ⟨by rfl, ?_⟩) ?_;rotate_left
            ·(intro wS _; go_simp; try with_reducible rfl)
            simp only [getElem_toArray, getElem_cons_succ, getElem_cons_zero];simp only [Act.put, setIfInBounds_toArray, set_cons_zero, set_cons_succ];refine AnyX.tk (i := 8) (v := ?_) rfl (fun _ _ _ h => h) hH6 (Or.inl ⟨by rfl, ?_⟩) ?_;rotate_left
            ·(intro wS hS; (try obtain ⟨hS1, hS2, hS3, hS4, hS5, hS6, hS7, hS8⟩ := hS); go_simp; try with_reducible rfl)
            simp only [getElem_toArray, getElem_cons_succ, getElem_cons_zero];simp only [Act.put, setIfInBounds_toArray, set_cons_zero, set_cons_succ];refine AnyX.mv (i := 9) (v := ?_) rfl (fun _ _ _ h => h) (Or.inl ⟨by rfl, ?_⟩) ?_;rotate_left
            ·(intro wS _; go_simp; try with_reducible rfl)
            simp only [getElem_toArray, getElem_cons_succ, getElem_cons_zero];simp only [Act.put, setIfInBounds_toArray, set_cons_zero, set_cons_succ];refine AnyX.go 10 (by kernel_rfl) rfl rfl (fun K hK => ?_);simp only [getElem_toArray, getElem_cons_succ, getElem_cons_zero];refine wp_store_mid _ (.tmp 177) (.tmp 176) rfl g6 ((m + 1) * 7) #[.int .i64 tm.kind, .string tm.pkg, .int .i64 tm.major, .string tm.mod, .string tm.name, .slice Dn tm.names.length cD, .slice Ds tm.subs.length dD] rfl rfl THe tySize tyOne ?_;refine hK.out _ _ (fun hoff _ => absurd hoff (by decide)) ?_;clear hK;(try simp only [Act.put, setIfInBounds_toArray, set_cons_zero, set_cons_succ]);refine AnyX.done (by kernel_rfl) ?_ _;rw [<- HWF.out];clear hH6 THe;go_wp2_with (first | ((with_reducible refine wpList_putMid 48 g6 (m * 7) #[.int .i64 t.kind, .string t.pkg, .int .i64 t.major, .string t.mod, .string t.name, .slice Bn t.names.length cB, .slice Bs t.subs.length dB] ?_ ?_ ?_ ?_ ?_ ?_); exact HTHf.out; exact tySize; exact tyOne; rfl; rfl))
            rw [<- HWG.out];go_roundw
            case rel => exact ⟨m, by omega, by go_num, FIN⟩
            case measure => simp [intOf]
        case rest =>
         obtain ⟨wb, rfl⟩ : ∃ wb : World, wb = wc := ⟨_, rfl⟩;clear SW;have hlb := (Array.getElem?_eq_some_iff.1 hcut.box).1;have Cb := HC0.out.on hcut.kp hr;have IS := zH (is_any Cb hcut.rd z);have HSW := zH hcut;have hrb := hcut.rd.lt;clear hcut Cb;go_wp2_with fail
         refine IS.out.mono ?_; rintro e we ⟨rfl, hbe⟩
         rw [<- HZ.out];obtain ⟨q2, hq2⟩ : ∃ q2, (decide (b2 = 0) && S.sign i2 zl) = q2 := ⟨_, rfl⟩;rw [hq2];have SWe := HSW.out.on hbe;have hse := hbe.size;have HQ2 := zH hq2;have HL5' := HL5.out
         have HL6' := HL6.out
         clear IS HSW hbe hq2;cases q2 with
         | true =>
          obtain ⟨hb20, hF2⟩ := behind_last (k := k) (ns := ns) (ss := ss) HRES.out HQ2.out;subst hb20;rw [HL5'] at hF2;have hsg : S.sign i2 zl = true := by have := HQ2.out; simpa using this
          have hi2 := sign_lt hsg;have h63 : (i2 : Int) + 1 <= 9223372036854775807 := by omega
          have r1 := SWe.rd.c1;have f1 := SWe.rd.f 1;have m1 := SWe.rd.at (i2 + 1);obtain ⟨wf, hwf⟩ : ∃ wf, wf = we.setCell ⟨r, 1, none⟩ (.int .i64 ((i2 : Int) + 1)) := ⟨_, rfl⟩;have ot : ∀ b, b ≠ r -> wf.heap[b]? = we.heap[b]? := fun b hb => by rw [hwf]; exact Below.heap_setCell _ _ _ _ hb
          have Rf : Rd r (some ⟨g0, o0, none⟩) S.n cn (i2 + 1) c2 0 wf := by rw [hwf]; simpa using m1
          have Xf := (ot w.heap.size (by omega)).trans SWe.res;have Of := (ot (w.heap.size + 1) (by omega)).trans SWe.box;have Kf : Kp r w wf := by rw [hwf]; exact SWe.kp.put 1 _
          have ROWf := SWe.rows.keep (w' := wf) (by rw [hwf]; simp) (fun b hb _ => ot b (by omega));have HWF := zH hwf;have HXf := zH Xf;have HOf := zH Of;have HRf := zH Rf;have HKf := zH Kf;have HROWf := zH ROWf;have HF2 := zH (HBE.out.trans hF2);clear m1 hwf ot Rf Xf Of Kf ROWf SWe hF2 HBE HRES;go_upto_region 36 with fail
          rw [<- HWF.out];clear r1 f1;have Xf := HXf.out;have DONE := (HROWf.out).done k (m := w.heap.size + 1) (by omega) (by omega) (by omega);have SEAL := zH (TyOut.seal (n := S.n) (cn := cn) (res := F) (Nat.le_refl _) Xf HKf.out DONE (Nat.lt_succ_self _) hr (⟨i2 + 1, c2, 0, HF2.out, hc2, HRf.out⟩));obtain ⟨x0, x1, x2, x3, x4, x5, x6⟩ := cq7 HOf.out;simp at x0 x1 x2 x3 x4 x5 x6;clear DONE;go_wp2_with (first | ((with_reducible refine wpList_putRow 48 (w.heap.size) #[.int .i64 k, .string ⟨#[]⟩, .int .i64 0, .string ⟨#[]⟩, .string ⟨#[]⟩, .slice (some ⟨g5, 0, none⟩) (n + 1) cap5, .slice (some ⟨g6, 0, none⟩) (n + 1) cap6] _ _ Xf ?_ ?_ ?_ ?_ ?_ ?_); exact tySize; rfl; exact tyOne; iterate 2 (focus (first | (go_simp; done) | rfl))))
          exact ret_agg1 (fn := Tryz.f132) (vs := [.int .i64 k, .string ⟨#[]⟩, .int .i64 0, .string ⟨#[]⟩, .string ⟨#[]⟩, .slice (some ⟨g5, 0, none⟩) (n + 1) cap5, .slice (some ⟨g6, 0, none⟩) (n + 1) cap6]) (b := w.heap.size) rfl rfl Tryz.underlying48 (by kernel_rfl) SEAL.out.1 rfl SEAL.out.2
         | false =>
          have hF2 := behind_more (k := k) (ns := ns) (ss := ss) HRES.out HQ2.out;rw [HL5'] at hF2;have Ce := HC0.out.on SWe.kp hr;have PS := zH (pass_any Ce SWe.rd ⟨#[44]⟩);have HSWe := zH SWe;have HF2 := zH (HBE.out.trans hF2);clear Ce SWe hF2;go_wp2_with fail
          refine PS.out.mono ?_; rintro e w6 ⟨rfl, R6, k6⟩
          have hs6 := k6.size
          have hb2z : psB b2 (S.sign i2 [44]) = 0 -> b2 = 0 := fun e => by
           by_cases hb : b2 = 0
           ·exact hb
           ·rw [psB_bad _ hb] at e; exact e
          have INV' : Hid (PaI w r (some ⟨g0, o0, none⟩) S cn k zl d f F (putAt (posOf (S.T i) ns n) (S.T i) ns) (putAt (posOf (S.T i) ns n) t ss) (n + 1) (some ⟨g5, 0, none⟩) cap5 (some ⟨g6, 0, none⟩) cap6 (psI b2 (S.sign i2 [44]) i2) c2 (psB b2 (S.sign i2 [44])) g' w6) := zH
           ⟨HSWe.out.kp.trans k6, (k6.blk (by omega) (by omega)).trans HSWe.out.box, (k6.blk (by omega) (by omega)).trans HSWe.out.res, HSWe.out.rows.keep hs6 (fun b hb hlt => k6.blk hlt (by omega)), R6, HF2.out, by omega, by omega, hc2⟩
          have MEAS : Hid (rdM r S.n w6 < rdM r S.n wo) := zH (by
           have e1 : Rd r (some ⟨g0, o0, none⟩) S.n cn (psI b2 (S.sign i2 [44]) i2) c2 (psB b2 (S.sign i2 [44])) w6 := R6;rw [e1.m, HRD.out.m];simp only [if_true];split
           ·rename_i hz
            have := behind_fw HRES.out (hb2z hz)
            have hge : i2 <= psI b2 (S.sign i2 [44]) i2 := by unfold psI; split <;> omega
            omega
           ·omega)
          clear R6 k6 hs6 HF2 HSWe PS hb2z;go_wp2_with fail
          go_roundw
          case rel => exact ⟨_, _, n + 1, some ⟨g5, 0, none⟩, cap5, some ⟨g6, 0, none⟩, cap6, _, c2, _, g', INV'⟩
          case measure => exact MEAS.out
end Go.Proofs.YtddlmigofilejaaGreatDoor
