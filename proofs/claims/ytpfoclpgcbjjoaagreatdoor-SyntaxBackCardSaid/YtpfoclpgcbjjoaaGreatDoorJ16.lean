/-
  Several texts in one: The walk of the code's declaration. · The code's module, behind its text's tokens. · The walk of the code's reading of a module.
-/
import Derived.Test.YtpfoclpgcbjjoaaGreatDoorJ15
/- The walk of the code's declaration. -/
namespace Go.Proofs.YtpfoclpgcbjjoaaGreatDoor
open Go.RowKit
open Go.Sort
open M

set_option maxRecDepth 100000 in
set_option maxHeartbeats 4000000 in
theorem cdecl_any {W : World} {q : Nat} {A : Option Addr} {S : Toks} {cn i : Nat} {w : World} (hc : CdCtx W q A S w) (h : CSt q A S.n cn i 0 w) (he : CEnv W) (hi : i < S.n) (n : Nat) (hn : n ≤ 1000) :
    Calls Tryz.prog 92 #[.pointer (some ⟨q, 0, none⟩), .int .i64 n] w (DeOut w q A S.n cn (oneD S i n)) := by
  have hq := h.lt
  have hbig := hc.big
  obtain ⟨w0, hw0⟩ : ∃ w0, w0 = w.alloc (.cells #[.int .i64 0, .string ⟨#[]⟩, .int .i64 0, .string ⟨#[]⟩, .int .i64 0, .string ⟨#[]⟩, .string ⟨#[]⟩, .slice none 0 0, .slice none 0 0] 52) := ⟨_, rfl⟩
  have B0 : Below w.heap.size w w0 := by rw [hw0]; exact below_new (Below.refl _ _) _
  have X0 : w0.heap[w.heap.size]? = some (.cells #[.int .i64 0, .string ⟨#[]⟩, .int .i64 0, .string ⟨#[]⟩, .int .i64 0, .string ⟨#[]⟩, .string ⟨#[]⟩, .slice none 0 0, .slice none 0 0] 52 (0, 0)) := by rw [hw0]; exact heap_alloc_new w _
  have s0 : w0.heap.size = w.heap.size + 1 := by rw [hw0]; simp
  have NX := Lib.hid (next_any (hc.on (Kp.of_below B0) hq) (h.below B0))
  obtain ⟨D, hD⟩ : ∃ D, declAt S i = D := ⟨_, rfl⟩
  have hDt : declK (tAt S 0 i).data.toList = D := by rw [decl_at, if_pos rfl, hD]
  have HD := Lib.hid hD
  have HB0 := Lib.hid B0
  have HX0 := Lib.hid X0
  have HC := Lib.hid hc
  have HH := Lib.hid h
  have HE := Lib.hid he
  have HW0 := Lib.hid hw0
  have SS := Lib.hid s0
  generalize ht : tAt S 0 i = t at hDt NX
  generalize hkk : kAt S 0 i = kk at NX
  clear hc h he hw0 B0 X0 hD ht hkk s0
  go_enter Tryz.func92, Tryz.ntmps92
  go_upto_region 1 with fail
  rw [← HW0.out]
  go_wp2_with fail
  refine NX.out.mono ?_; rintro e w1 ⟨y, rfl, hb1⟩
  unfold tokV
  have hfd : ∀ w : World, (Instr.field 124 (.agg #[.int .i64 kk, .int .i64 y, .string t]) 2).run Tryz.prog w = .ok (.string t) w := fun _ => by kernel_rfl
  have DC := Lib.hid (declares_any t w1)
  rw [hDt] at DC
  have B01 := below_over HB0.out hb1
  obtain ⟨w2, hw2⟩ : ∃ w2, w2 = w1.alloc (.cells #[.int .i64 D, .string ⟨#[]⟩, .int .i64 0, .string ⟨#[]⟩, .int .i64 0, .string ⟨#[]⟩, .string ⟨#[]⟩, .slice none 0 0, .slice none 0 0] 52) := ⟨_, rfl⟩
  have B2 : Below w1.heap.size w1 w2 := by rw [hw2]; exact below_new (Below.refl _ _) _
  have s2 : w2.heap.size = w1.heap.size + 1 := by rw [hw2]; simp
  have hb1s := hb1.size
  have ss := SS.out
  have Y2 : Dx w1.heap.size D ⟨#[]⟩ [.int .i64 0, .string ⟨#[]⟩, .int .i64 0, .string ⟨#[]⟩, .string ⟨#[]⟩, .slice none 0 0, .slice none 0 0] w2 := by rw [hw2]; exact heap_alloc_new w1 _
  have X2 := (B2.block w.heap.size (by omega)).trans ((hb1.block w.heap.size (by omega)).trans HX0.out)
  have B02 := below_over B01 B2
  have MU1 := Lib.hid (must_any (HH.out.below B02) (D != 0) 2 (by decide))
  have c0 := Lib.cell_of_heap Y2 0
  simp at c0
  have HY2 := Lib.hid Y2
  have HX2 := Lib.hid X2
  have HK2 := Lib.hid (Kp.of_below (r := q) B02)
  have HW2 := Lib.hid hw2
  have hd1 : w.heap.size + 1 ≤ w1.heap.size := by omega
  have hd2 : w1.heap.size < w2.heap.size := by omega
  clear hb1 B01 hw2 B2 Y2 X2 B02 s2 hb1s ss hDt NX HB0 HX0 SS
  generalize hdd : w1.heap.size = d at hd1 hd2 HY2 c0
  go_wp2_with fail
  refine DC.out.mono ?_; rintro e wz ⟨rfl, rfl⟩
  clear hfd
  go_upto_region 2 with fail
  rw [← HW2.out]
  clear hdd
  go_wp2_with fail
  refine MU1.out.mono ?_; rintro e w3 ⟨rfl, h3, k3⟩
  have MU2 := Lib.hid (must_any h3 (decide ((n : Int) < 60)) 3 (by decide))
  have hs3 := k3.size
  have HY3 : Hid (Dx d D ⟨#[]⟩ [.int .i64 0, .string ⟨#[]⟩, .int .i64 0, .string ⟨#[]⟩, .string ⟨#[]⟩, .slice none 0 0, .slice none 0 0] w3) := Lib.hid ((k3.blk hd2 (by omega)).trans HY2.out)
  have HX3 := Lib.hid ((k3.blk (by omega) (by omega)).trans HX2.out)
  have HK3 := Lib.hid (HK2.out.trans k3)
  have hd3 := Nat.lt_of_lt_of_le hd2 hs3
  clear h3 k3 MU1 HY2 HX2 HK2 c0 hs3 HW2
  go_wp2_with fail
  refine MU2.out.mono ?_; rintro e w4 ⟨rfl, h4, k4⟩
  obtain ⟨b1, hb1⟩ : ∃ b1, mustB (mustB 0 (D != 0) 2) (decide ((n : Int) < 60)) 3 = b1 := ⟨_, rfl⟩
  have FIN : Hid (badR b1 (upI b1 i) (decR S D (upI b1 i)) = oneD S i n) := Lib.hid (oneD_state HD.out hb1)
  have BZ : Hid (D = 0 → b1 ≠ 0) := Lib.hid (fun e => by
    subst e
    rw [← hb1]
    rw [mustB_bad _ _ (by decide)]
    decide)
  rw [hb1] at h4
  have PS := Lib.hid (cpass_any h4 (fun _ => hi) hbig)
  have hs4 := k4.size
  have HY4 : Hid (Dx d D ⟨#[]⟩ [.int .i64 0, .string ⟨#[]⟩, .int .i64 0, .string ⟨#[]⟩, .string ⟨#[]⟩, .slice none 0 0, .slice none 0 0] w4) := Lib.hid ((k4.blk hd3 (by omega)).trans HY3.out)
  have HX4 := Lib.hid ((k4.blk (by omega) (by omega)).trans HX3.out)
  have HK4 := Lib.hid (HK3.out.trans k4)
  have hd4 := Nat.lt_of_lt_of_le hd3 hs4
  clear h4 k4 MU2 HY3 HX3 HK3 hs4 hb1
  go_wp2_with fail
  refine PS.out.mono ?_; rintro e w5 ⟨rfl, h5, k5⟩
  have hs5 := k5.size
  have Y5 : Dx d D ⟨#[]⟩ [.int .i64 0, .string ⟨#[]⟩, .int .i64 0, .string ⟨#[]⟩, .string ⟨#[]⟩, .slice none 0 0, .slice none 0 0] w5 := (k5.blk hd4 (by omega)).trans HY4.out
  have X5 := (k5.blk (by omega) (by omega)).trans HX4.out
  have K5 := HK4.out.trans k5
  have hd5 := Nat.lt_of_lt_of_le hd4 hs5
  have HY5 := Lib.hid Y5
  have HX5 := Lib.hid X5
  have HK5 := Lib.hid K5
  have HC5 := Lib.hid (HC.out.on K5 hq)
  have H5 := Lib.hid h5
  have hD5 : D = 0 ∨ D = 1 ∨ D = 2 ∨ D = 3 ∨ D = 4 := by rw [← HD.out]; exact declAt_cases S i
  have hup : b1 = 0 → upI b1 i ≤ S.n := fun e => by subst e; rw [upI_0]; omega
  generalize hi5 : upI b1 i = i5 at FIN H5 hup
  clear h5 k5 PS HY4 HX4 HK4 hs5 Y5 X5 K5 HH hi5
  rcases hD5 with rfl | rfl | rfl | rfl | rfl
  · have Y5 := HY5.out
    have X5 := HX5.out
    have SEAL := Lib.hid (DeOut.fin (R := oneD S i n) (k := 0) (s := ⟨#[]⟩) (by decide) (TyAt.zero _) HK5.out hq H5.out X5 (by rw [badR_ne _ _ (BZ.out rfl), ← FIN.out, badR_ne _ _ (BZ.out rfl)]))
    clear HY5 HX5 HK5 HC5 H5 FIN BZ HE HW0 DC
    have HX9 := Lib.hid X5
    have x0 := Lib.cell_of_heap Y5 0
    have x1 := Lib.cell_of_heap Y5 1
    have x2 := Lib.cell_of_heap Y5 2
    have x3 := Lib.cell_of_heap Y5 3
    have x4 := Lib.cell_of_heap Y5 4
    have x5 := Lib.cell_of_heap Y5 5
    have x6 := Lib.cell_of_heap Y5 6
    have x7 := Lib.cell_of_heap Y5 7
    have x8 := Lib.cell_of_heap Y5 8
    simp at x0 x1 x2 x3 x4 x5 x6 x7 x8
    clear Y5
    go_upto_region 17 with fail
    go_wp2_with (first | ((with_reducible refine wpList_putRow 52 (w.heap.size) #[.int .i64 0, .string ⟨#[]⟩, .int .i64 0, .string ⟨#[]⟩, .int .i64 0, .string ⟨#[]⟩, .string ⟨#[]⟩, .slice none 0 0, .slice none 0 0] _ _ X5 ?_ ?_ ?_ ?_ ?_ ?_); exact decSize; rfl; exact decOne; (focus (first | (go_simp; done) | rfl)); (focus (first | (go_simp; done) | rfl))))
    exact ret_agg1 (fn := Tryz.f92) (vs := [.int .i64 0, .string ⟨#[]⟩, .int .i64 0, .string ⟨#[]⟩, .int .i64 0, .string ⟨#[]⟩, .string ⟨#[]⟩, .slice none 0 0, .slice none 0 0]) (b := w.heap.size) rfl rfl Tryz.underlying52 (by kernel_rfl) (cell9 (setRow_heap _ w.heap.size _ _ _ _ HX9.out)) rfl SEAL.out
  · have Y5 := HY5.out
    have c0 := Lib.cell_of_heap Y5 0
    simp at c0
    have WD := Lib.hid (cword_any HC5.out H5.out _ _ asksGreat (by decide))
    clear Y5
    go_wp2_with fail
    refine WD.out.mono ?_; rintro e w6 ⟨s, i6, b6, rfl, z6, h6, k6, hN⟩
    have Y6 : Dx d 1 ⟨#[]⟩ [.int .i64 0, .string ⟨#[]⟩, .int .i64 0, .string ⟨#[]⟩, .string ⟨#[]⟩, .slice none 0 0, .slice none 0 0] w6 := (k6.blk hd5 (by omega)).trans HY5.out
    have X6 := (k6.blk (by omega) (by omega)).trans HX5.out
    have hs6 := k6.size
    obtain ⟨w7, hw7⟩ : ∃ w7, w7 = w6.setCell ⟨d, 1, none⟩ (.string s) := ⟨_, rfl⟩
    have Y7 : Dx d 1 s [.int .i64 0, .string ⟨#[]⟩, .int .i64 0, .string ⟨#[]⟩, .string ⟨#[]⟩, .slice none 0 0, .slice none 0 0] w7 := by rw [hw7]; exact Y6.named
    have o7 : ∀ b, b ≠ d → w7.heap[b]? = w6.heap[b]? := fun b hb => by rw [hw7]; exact Below.heap_setCell _ _ _ _ (by show b ≠ d; exact hb)
    have s7 : w7.heap.size = w6.heap.size := by rw [hw7]; simp
    have X7 := (o7 w.heap.size (by omega)).trans X6
    have K7 : Kp q w w7 := by rw [hw7]; exact (HK5.out.trans k6).putNew _ (by show w.heap.size ≤ d; omega) _
    have h7 : CSt q A S.n cn i6 b6 w7 := h6.keep (o7 q (by omega)) (fun g vs fr hg => o7 g (two_types hg Y6 (by decide)))
    have f1 := Lib.frozen_of_heap Y6 1
    have m1 := Lib.cell_of_heap Y6 1
    simp at m1
    have HW7 := Lib.hid hw7
    have SEAL := Lib.hid (DeOut.fin (R := oneD S i n) (k := 1) (s := s) (by omega) (TyAt.zero _) K7 hq h7 X7 (by rw [← FIN.out]; exact dec_name (by decide) hN))
    clear HY5 HX5 HK5 HC5 H5 FIN BZ HE HW0 DC WD hw7 Y6 X6 o7 s7 K7 h7 h6 k6 hN hs6 c0
    go_upto_region 17 with fail
    rw [← HW7.out]
    clear m1 f1
    have HX9 := Lib.hid X7
    have x0 := Lib.cell_of_heap Y7 0
    have x1 := Lib.cell_of_heap Y7 1
    have x2 := Lib.cell_of_heap Y7 2
    have x3 := Lib.cell_of_heap Y7 3
    have x4 := Lib.cell_of_heap Y7 4
    have x5 := Lib.cell_of_heap Y7 5
    have x6 := Lib.cell_of_heap Y7 6
    have x7 := Lib.cell_of_heap Y7 7
    have x8 := Lib.cell_of_heap Y7 8
    simp at x0 x1 x2 x3 x4 x5 x6 x7 x8
    clear Y7
    go_wp2_with (first | ((with_reducible refine wpList_putRow 52 (w.heap.size) #[.int .i64 1, .string s, .int .i64 0, .string ⟨#[]⟩, .int .i64 0, .string ⟨#[]⟩, .string ⟨#[]⟩, .slice none 0 0, .slice none 0 0] _ _ X7 ?_ ?_ ?_ ?_ ?_ ?_); exact decSize; rfl; exact decOne; (focus (first | (go_simp; done) | rfl)); (focus (first | (go_simp; done) | rfl))))
    exact ret_agg1 (fn := Tryz.f92) (vs := [.int .i64 1, .string s, .int .i64 0, .string ⟨#[]⟩, .int .i64 0, .string ⟨#[]⟩, .string ⟨#[]⟩, .slice none 0 0, .slice none 0 0]) (b := w.heap.size) rfl rfl Tryz.underlying52 (by kernel_rfl) (cell9 (setRow_heap _ w.heap.size _ _ _ _ HX9.out)) rfl SEAL.out
  · have Y5 := HY5.out
    have c0 := Lib.cell_of_heap Y5 0
    simp at c0
    have WD := Lib.hid (cword_any HC5.out H5.out _ _ asksGreat (by decide))
    clear Y5
    go_wp2_with fail
    refine WD.out.mono ?_; rintro e w6 ⟨s, i6, b6, rfl, z6, h6, k6, hN⟩
    have Y6 : Dx d 2 ⟨#[]⟩ [.int .i64 0, .string ⟨#[]⟩, .int .i64 0, .string ⟨#[]⟩, .string ⟨#[]⟩, .slice none 0 0, .slice none 0 0] w6 := (k6.blk hd5 (by omega)).trans HY5.out
    have X6 := (k6.blk (by omega) (by omega)).trans HX5.out
    have hs6 := k6.size
    obtain ⟨w7, hw7⟩ : ∃ w7, w7 = w6.setCell ⟨d, 1, none⟩ (.string s) := ⟨_, rfl⟩
    have Y7 : Dx d 2 s [.int .i64 0, .string ⟨#[]⟩, .int .i64 0, .string ⟨#[]⟩, .string ⟨#[]⟩, .slice none 0 0, .slice none 0 0] w7 := by rw [hw7]; exact Y6.named
    have o7 : ∀ b, b ≠ d → w7.heap[b]? = w6.heap[b]? := fun b hb => by rw [hw7]; exact Below.heap_setCell _ _ _ _ (by show b ≠ d; exact hb)
    have s7 : w7.heap.size = w6.heap.size := by rw [hw7]; simp
    have X7 := (o7 w.heap.size (by omega)).trans X6
    have K7 : Kp q w w7 := by rw [hw7]; exact (HK5.out.trans k6).putNew _ (by show w.heap.size ≤ d; omega) _
    have h7 : CSt q A S.n cn i6 b6 w7 := h6.keep (o7 q (by omega)) (fun g vs fr hg => o7 g (two_types hg Y6 (by decide)))
    have f1 := Lib.frozen_of_heap Y6 1
    have m1 := Lib.cell_of_heap Y6 1
    simp at m1
    have HW7 := Lib.hid hw7
    have SEAL := Lib.hid (DeOut.fin (R := oneD S i n) (k := 2) (s := s) (by omega) (TyAt.zero _) K7 hq h7 X7 (by rw [← FIN.out]; exact dec_name (by decide) hN))
    clear HY5 HX5 HK5 HC5 H5 FIN BZ HE HW0 DC WD hw7 Y6 X6 o7 s7 K7 h7 h6 k6 hN hs6 c0
    go_upto_region 17 with fail
    rw [← HW7.out]
    clear m1 f1
    have HX9 := Lib.hid X7
    have x0 := Lib.cell_of_heap Y7 0
    have x1 := Lib.cell_of_heap Y7 1
    have x2 := Lib.cell_of_heap Y7 2
    have x3 := Lib.cell_of_heap Y7 3
    have x4 := Lib.cell_of_heap Y7 4
    have x5 := Lib.cell_of_heap Y7 5
    have x6 := Lib.cell_of_heap Y7 6
    have x7 := Lib.cell_of_heap Y7 7
    have x8 := Lib.cell_of_heap Y7 8
    simp at x0 x1 x2 x3 x4 x5 x6 x7 x8
    clear Y7
    go_wp2_with (first | ((with_reducible refine wpList_putRow 52 (w.heap.size) #[.int .i64 2, .string s, .int .i64 0, .string ⟨#[]⟩, .int .i64 0, .string ⟨#[]⟩, .string ⟨#[]⟩, .slice none 0 0, .slice none 0 0] _ _ X7 ?_ ?_ ?_ ?_ ?_ ?_); exact decSize; rfl; exact decOne; (focus (first | (go_simp; done) | rfl)); (focus (first | (go_simp; done) | rfl))))
    exact ret_agg1 (fn := Tryz.f92) (vs := [.int .i64 2, .string s, .int .i64 0, .string ⟨#[]⟩, .int .i64 0, .string ⟨#[]⟩, .string ⟨#[]⟩, .slice none 0 0, .slice none 0 0]) (b := w.heap.size) rfl rfl Tryz.underlying52 (by kernel_rfl) (cell9 (setRow_heap _ w.heap.size _ _ _ _ HX9.out)) rfl SEAL.out
  · have Y5 := HY5.out
    have c0 := Lib.cell_of_heap Y5 0
    simp at c0
    have WD := Lib.hid (cword_any HC5.out H5.out _ _ asksGreat (by decide))
    clear Y5
    go_wp2_with fail
    refine WD.out.mono ?_; rintro e w6 ⟨s, i6, b6, rfl, z6, h6, k6, hN⟩
    have Y6 : Dx d 3 ⟨#[]⟩ [.int .i64 0, .string ⟨#[]⟩, .int .i64 0, .string ⟨#[]⟩, .string ⟨#[]⟩, .slice none 0 0, .slice none 0 0] w6 := (k6.blk hd5 (by omega)).trans HY5.out
    have X6 := (k6.blk (by omega) (by omega)).trans HX5.out
    have hs6 := k6.size
    obtain ⟨w7, hw7⟩ : ∃ w7, w7 = w6.setCell ⟨d, 1, none⟩ (.string s) := ⟨_, rfl⟩
    have Y7 : Dx d 3 s [.int .i64 0, .string ⟨#[]⟩, .int .i64 0, .string ⟨#[]⟩, .string ⟨#[]⟩, .slice none 0 0, .slice none 0 0] w7 := by rw [hw7]; exact Y6.named
    have o7 : ∀ b, b ≠ d → w7.heap[b]? = w6.heap[b]? := fun b hb => by rw [hw7]; exact Below.heap_setCell _ _ _ _ (by show b ≠ d; exact hb)
    have s7 : w7.heap.size = w6.heap.size := by rw [hw7]; simp
    have X7 := (o7 w.heap.size (by omega)).trans X6
    have K7 : Kp q w w7 := by rw [hw7]; exact (HK5.out.trans k6).putNew _ (by show w.heap.size ≤ d; omega) _
    have h7 : CSt q A S.n cn i6 b6 w7 := h6.keep (o7 q (by omega)) (fun g vs fr hg => o7 g (two_types hg Y6 (by decide)))
    have f1 := Lib.frozen_of_heap Y6 1
    have m1 := Lib.cell_of_heap Y6 1
    simp at m1
    have HW7 := Lib.hid hw7
    have C7 : CdCtx W q A S w7 := HC.out.on K7 hq
    have SG := Lib.hid (csign_any C7 h7 ⟨#[61]⟩)
    have HC7 := Lib.hid C7
    have HY7 := Lib.hid Y7
    have HX7 := Lib.hid X7
    have HK7 := Lib.hid K7
    have HN := Lib.hid hN
    have hd7 : d < w7.heap.size := by omega
    have hq7 : q < w7.heap.size := by omega
    clear HY5 HX5 HK5 HC5 H5 BZ HW0 DC WD hw7 Y6 X6 Y7 X7 o7 s7 K7 h7 h6 k6 hN hs6 c0 C7
    go_upto_region 11 with fail
    rw [← HW7.out]
    clear m1 f1
    go_wp2_with fail
    refine SG.out.mono ?_; rintro e w8 ⟨rfl, h8, k8⟩
    have hs8 := k8.size
    have C8 := HC7.out.on k8 hq7
    have HI8 := HN.out
    have RE := Lib.hid (ctype_any C8 h8 HE.out (fun e => name_sign_le hup HN.out e))
    have HY8 : Hid (Dx d 3 s [.int .i64 0, .string ⟨#[]⟩, .int .i64 0, .string ⟨#[]⟩, .string ⟨#[]⟩, .slice none 0 0, .slice none 0 0] w8) := Lib.hid ((k8.blk hd7 (by omega)).trans HY7.out)
    have HX8 := Lib.hid ((k8.blk (by omega) (by omega)).trans HX7.out)
    have HK8 := Lib.hid (HK7.out.trans k8)
    have hd8 : d < w8.heap.size := by omega
    clear h8 k8 C8 SG HC7 HY7 HX7 HK7 HI8
    go_wp2_with fail
    refine RE.out.mono ?_; rintro e w9 ⟨l, t, i9, b9, rfl, hT9, k9, h9, hres⟩
    obtain ⟨An, cA, As, cS, rfl, -⟩ := hT9.parts
    have hs9 := k9.size
    have Y9 : Dx d 3 s [.int .i64 0, .string ⟨#[]⟩, .int .i64 0, .string ⟨#[]⟩, .string ⟨#[]⟩, .slice none 0 0, .slice none 0 0] w9 := (k9.blk hd8 (by omega)).trans HY8.out
    have X9 := (k9.blk (by omega) (by omega)).trans HX8.out
    obtain ⟨wa, hwa⟩ : ∃ wa, wa = w9.setCells d 2 [.int .i64 t.kind, .string t.pkg, .int .i64 t.major, .string t.mod, .string t.name, .slice An t.names.length cA, .slice As t.subs.length cS] := ⟨_, rfl⟩
    have Ya : Dx d 3 s [.int .i64 t.kind, .string t.pkg, .int .i64 t.major, .string t.mod, .string t.name, .slice An t.names.length cA, .slice As t.subs.length cS] wa := by rw [hwa]; exact Y9.put
    have oa : ∀ b, b ≠ d → wa.heap[b]? = w9.heap[b]? := fun b hb => by rw [hwa]; exact setCells7_other rfl hb
    have sa : wa.heap.size = w9.heap.size := by rw [hwa]; exact setCells7_size rfl
    have Xa := (oa w.heap.size (by omega)).trans X9
    have Ka : Kp q w wa := by rw [hwa]; exact (HK8.out.trans k9).putCells d 2 (by omega) rfl
    have ha : CSt q A S.n cn i9 b9 wa := h9.keep (oa q (by omega)) (fun g vs fr hg => oa g (two_types hg Y9 (by decide)))
    have Ta : TyAt (strike (· < w.heap.size + 1) wa) [.int .i64 t.kind, .string t.pkg, .int .i64 t.major, .string t.mod, .string t.name, .slice An t.names.length cA, .slice As t.subs.length cS] t := hT9.move (by omega) fun b hb hS => ⟨by omega, oa b (by omega)⟩
    have SEAL := Lib.hid (DeOut.fin (R := oneD S i n) (k := 3) (s := s) (by omega) Ta Ka hq ha Xa (by rw [← FIN.out]; exact dec_alias HN.out hres))
    have TH := Y9.there
    have HWA := Lib.hid hwa
    clear HE hwa Y9 X9 oa sa Ka ha Ta hT9 k9 h9 hres RE HY8 HX8 HK8 HN FIN hs8 hs9
    go_upto_region 17 with (first | ((with_reducible refine wpList_putMid 42 d 2 #[.int .i64 t.kind, .string t.pkg, .int .i64 t.major, .string t.mod, .string t.name, .slice An t.names.length cA, .slice As t.subs.length cS] ?_ ?_ ?_ ?_ ?_ ?_); exact TH; exact tySize; exact tyOne; rfl; rfl))
    rw [← HWA.out]
    have HX9 := Lib.hid Xa
    have x0 := Lib.cell_of_heap Ya 0
    have x1 := Lib.cell_of_heap Ya 1
    have x2 := Lib.cell_of_heap Ya 2
    have x3 := Lib.cell_of_heap Ya 3
    have x4 := Lib.cell_of_heap Ya 4
    have x5 := Lib.cell_of_heap Ya 5
    have x6 := Lib.cell_of_heap Ya 6
    have x7 := Lib.cell_of_heap Ya 7
    have x8 := Lib.cell_of_heap Ya 8
    simp at x0 x1 x2 x3 x4 x5 x6 x7 x8
    clear Ya
    go_wp2_with (first | ((with_reducible refine wpList_putRow 52 (w.heap.size) #[.int .i64 3, .string s, .int .i64 t.kind, .string t.pkg, .int .i64 t.major, .string t.mod, .string t.name, .slice An t.names.length cA, .slice As t.subs.length cS] _ _ Xa ?_ ?_ ?_ ?_ ?_ ?_); exact decSize; rfl; exact decOne; (focus (first | (go_simp; done) | rfl)); (focus (first | (go_simp; done) | rfl))))
    exact ret_agg1 (fn := Tryz.f92) (vs := [.int .i64 3, .string s, .int .i64 t.kind, .string t.pkg, .int .i64 t.major, .string t.mod, .string t.name, .slice An t.names.length cA, .slice As t.subs.length cS]) (b := w.heap.size) rfl rfl Tryz.underlying52 (by kernel_rfl) (cell9 (setRow_heap _ w.heap.size _ _ _ _ HX9.out)) rfl SEAL.out
  · have Y5 := HY5.out
    have c0 := Lib.cell_of_heap Y5 0
    simp at c0
    have WD := Lib.hid (cword_any HC5.out H5.out _ _ asksSmall (by decide))
    clear Y5
    go_wp2_with fail
    refine WD.out.mono ?_; rintro e w6 ⟨s, i6, b6, rfl, z6, h6, k6, hN⟩
    have Y6 : Dx d 4 ⟨#[]⟩ [.int .i64 0, .string ⟨#[]⟩, .int .i64 0, .string ⟨#[]⟩, .string ⟨#[]⟩, .slice none 0 0, .slice none 0 0] w6 := (k6.blk hd5 (by omega)).trans HY5.out
    have X6 := (k6.blk (by omega) (by omega)).trans HX5.out
    have hs6 := k6.size
    obtain ⟨w7, hw7⟩ : ∃ w7, w7 = w6.setCell ⟨d, 1, none⟩ (.string s) := ⟨_, rfl⟩
    have Y7 : Dx d 4 s [.int .i64 0, .string ⟨#[]⟩, .int .i64 0, .string ⟨#[]⟩, .string ⟨#[]⟩, .slice none 0 0, .slice none 0 0] w7 := by rw [hw7]; exact Y6.named
    have o7 : ∀ b, b ≠ d → w7.heap[b]? = w6.heap[b]? := fun b hb => by rw [hw7]; exact Below.heap_setCell _ _ _ _ (by show b ≠ d; exact hb)
    have s7 : w7.heap.size = w6.heap.size := by rw [hw7]; simp
    have X7 := (o7 w.heap.size (by omega)).trans X6
    have K7 : Kp q w w7 := by rw [hw7]; exact (HK5.out.trans k6).putNew _ (by show w.heap.size ≤ d; omega) _
    have h7 : CSt q A S.n cn i6 b6 w7 := h6.keep (o7 q (by omega)) (fun g vs fr hg => o7 g (two_types hg Y6 (by decide)))
    have f1 := Lib.frozen_of_heap Y6 1
    have m1 := Lib.cell_of_heap Y6 1
    simp at m1
    have HW7 := Lib.hid hw7
    have C7 : CdCtx W q A S w7 := HC.out.on K7 hq
    have SG := Lib.hid (csign_any C7 h7 ⟨#[58]⟩)
    have HC7 := Lib.hid C7
    have HY7 := Lib.hid Y7
    have HX7 := Lib.hid X7
    have HK7 := Lib.hid K7
    have HN := Lib.hid hN
    have hd7 : d < w7.heap.size := by omega
    have hq7 : q < w7.heap.size := by omega
    clear HY5 HX5 HK5 HC5 H5 BZ HW0 DC WD hw7 Y6 X6 Y7 X7 o7 s7 K7 h7 h6 k6 hN hs6 c0 C7
    go_upto_region 15 with fail
    rw [← HW7.out]
    clear m1 f1
    go_wp2_with fail
    refine SG.out.mono ?_; rintro e w8 ⟨rfl, h8, k8⟩
    have hs8 := k8.size
    have C8 := HC7.out.on k8 hq7
    have HI8 := HN.out
    have RE := Lib.hid (ctype_any C8 h8 HE.out (fun e => name_sign_le hup HN.out e))
    have HY8 : Hid (Dx d 4 s [.int .i64 0, .string ⟨#[]⟩, .int .i64 0, .string ⟨#[]⟩, .string ⟨#[]⟩, .slice none 0 0, .slice none 0 0] w8) := Lib.hid ((k8.blk hd7 (by omega)).trans HY7.out)
    have HX8 := Lib.hid ((k8.blk (by omega) (by omega)).trans HX7.out)
    have HK8 := Lib.hid (HK7.out.trans k8)
    have hd8 : d < w8.heap.size := by omega
    clear h8 k8 C8 SG HC7 HY7 HX7 HK7 HI8
    go_wp2_with fail
    refine RE.out.mono ?_; rintro e w9 ⟨l, t, i9, b9, rfl, hT9, k9, h9, hres⟩
    obtain ⟨An, cA, As, cS, rfl, -⟩ := hT9.parts
    have hs9 := k9.size
    have Y9 : Dx d 4 s [.int .i64 0, .string ⟨#[]⟩, .int .i64 0, .string ⟨#[]⟩, .string ⟨#[]⟩, .slice none 0 0, .slice none 0 0] w9 := (k9.blk hd8 (by omega)).trans HY8.out
    have X9 := (k9.blk (by omega) (by omega)).trans HX8.out
    obtain ⟨wa, hwa⟩ : ∃ wa, wa = w9.setCells d 2 [.int .i64 t.kind, .string t.pkg, .int .i64 t.major, .string t.mod, .string t.name, .slice An t.names.length cA, .slice As t.subs.length cS] := ⟨_, rfl⟩
    have Ya : Dx d 4 s [.int .i64 t.kind, .string t.pkg, .int .i64 t.major, .string t.mod, .string t.name, .slice An t.names.length cA, .slice As t.subs.length cS] wa := by rw [hwa]; exact Y9.put
    have oa : ∀ b, b ≠ d → wa.heap[b]? = w9.heap[b]? := fun b hb => by rw [hwa]; exact setCells7_other rfl hb
    have sa : wa.heap.size = w9.heap.size := by rw [hwa]; exact setCells7_size rfl
    have Xa := (oa w.heap.size (by omega)).trans X9
    have Ka : Kp q w wa := by rw [hwa]; exact (HK8.out.trans k9).putCells d 2 (by omega) rfl
    have ha : CSt q A S.n cn i9 b9 wa := h9.keep (oa q (by omega)) (fun g vs fr hg => oa g (two_types hg Y9 (by decide)))
    have Ta : TyAt (strike (· < w.heap.size + 1) wa) [.int .i64 t.kind, .string t.pkg, .int .i64 t.major, .string t.mod, .string t.name, .slice An t.names.length cA, .slice As t.subs.length cS] t := hT9.move (by omega) fun b hb hS => ⟨by omega, oa b (by omega)⟩
    have SEAL := Lib.hid (DeOut.fin (R := oneD S i n) (k := 4) (s := s) (by omega) Ta Ka hq ha Xa (by rw [← FIN.out]; exact dec_val HN.out hres))
    have TH := Y9.there
    have HWA := Lib.hid hwa
    clear HE hwa Y9 X9 oa sa Ka ha Ta hT9 k9 h9 hres RE HY8 HX8 HK8 HN FIN hs8 hs9
    go_upto_region 17 with (first | ((with_reducible refine wpList_putMid 42 d 2 #[.int .i64 t.kind, .string t.pkg, .int .i64 t.major, .string t.mod, .string t.name, .slice An t.names.length cA, .slice As t.subs.length cS] ?_ ?_ ?_ ?_ ?_ ?_); exact TH; exact tySize; exact tyOne; rfl; rfl))
    rw [← HWA.out]
    have HX9 := Lib.hid Xa
    have x0 := Lib.cell_of_heap Ya 0
    have x1 := Lib.cell_of_heap Ya 1
    have x2 := Lib.cell_of_heap Ya 2
    have x3 := Lib.cell_of_heap Ya 3
    have x4 := Lib.cell_of_heap Ya 4
    have x5 := Lib.cell_of_heap Ya 5
    have x6 := Lib.cell_of_heap Ya 6
    have x7 := Lib.cell_of_heap Ya 7
    have x8 := Lib.cell_of_heap Ya 8
    simp at x0 x1 x2 x3 x4 x5 x6 x7 x8
    clear Ya
    go_wp2_with (first | ((with_reducible refine wpList_putRow 52 (w.heap.size) #[.int .i64 4, .string s, .int .i64 t.kind, .string t.pkg, .int .i64 t.major, .string t.mod, .string t.name, .slice An t.names.length cA, .slice As t.subs.length cS] _ _ Xa ?_ ?_ ?_ ?_ ?_ ?_); exact decSize; rfl; exact decOne; (focus (first | (go_simp; done) | rfl)); (focus (first | (go_simp; done) | rfl))))
    exact ret_agg1 (fn := Tryz.f92) (vs := [.int .i64 4, .string s, .int .i64 t.kind, .string t.pkg, .int .i64 t.major, .string t.mod, .string t.name, .slice An t.names.length cA, .slice As t.subs.length cS]) (b := w.heap.size) rfl rfl Tryz.underlying52 (by kernel_rfl) (cell9 (setRow_heap _ w.heap.size _ _ _ _ HX9.out)) rfl SEAL.out

end Go.Proofs.YtpfoclpgcbjjoaaGreatDoor

/- The code's module, behind its text's tokens. -/
namespace Go.Proofs.YtpfoclpgcbjjoaaGreatDoor
open Go.RowKit
open Go.Sort
open M

theorem decR_ok {S : Toks} {k : Int} {i j c : Nat} {x : De} (h : decR S k i = .ok x j c) : i < j := by
  have ht : ∀ {i : Nat} {s : ByteArray} {k : Int}, typD k s (atR S i) = .ok x j c → i < j := fun {i s k} h => by
    cases hR : atR S i with
    | err b m => rw [hR] at h; cases h
    | ok t m c' =>
      rw [hR] at h
      cases h
      exact atR_le hR
  unfold decR at h
  split at h
  · split at h
    · cases h
    · cases h; omega
  split at h
  · split at h
    · cases h
    split at h
    · cases h
    · have := ht h; omega
  · split at h
    · cases h
    split at h
    · cases h
    · have := ht h; omega
theorem oneD_ok {S : Toks} {i n j c : Nat} {x : De} (h : oneD S i n = .ok x j c) : i + 1 < j ∧ n < 60 := by
  unfold oneD at h
  split at h
  · cases h
  split at h
  · cases h
  · exact ⟨decR_ok h, by omega⟩

/-- The module, behind its imports and some declarations. -/
def restD (S : Toks) (s : ByteArray) (l : List Im) (i : Nat) (xs : List De) : Res Mo :=
  match decsR S (61 - xs.length) i xs with
  | .err b i => .err b i
  | .ok ds i _ => .ok ⟨s, l, ds⟩ i 0
theorem rest_no {S : Toks} {s : ByteArray} {l : List Im} {i b : Nat} {xs : List De} (hn : xs.length ≤ 60 ∨ b ≠ 0) (h : (decide (b = 0) && decide (i < S.n)) = false) : badR b i (restD S s l i xs) = badR b i (.ok ⟨s, l, xs⟩ i 0) := by
  by_cases hb : b = 0
  · subst hb
    have hi : S.n ≤ i := by simpa using h
    rw [badR_0, badR_0]
    unfold restD
    rw [show 61 - xs.length = (60 - xs.length) + 1 by omega]
    unfold decsR
    rw [if_pos hi]
  · rw [badR_ne _ _ hb, badR_ne _ _ hb]
theorem rest_yes {S : Toks} {s : ByteArray} {l : List Im} {i i5 b5 : Nat} {xs : List De} {x : De} (hn : xs.length ≤ 60) (hi : i < S.n) (h : badR b5 i5 (.ok x i5 0) = oneD S i xs.length) :
    restD S s l i xs = badR b5 i5 (restD S s l i5 (xs ++ [x])) ∧ (b5 = 0 → xs.length < 60 ∧ i + 1 < i5) := by
  have e0 : ∀ f, decsR S (f + 1) i xs = if S.n ≤ i then .ok xs i 0 else match oneD S i xs.length with
      | .err b j => .err b j
      | .ok x j _ => decsR S f j (xs ++ [x]) := fun f => rfl
  have e1 : (xs ++ [x]).length = xs.length + 1 := by simp
  unfold restD
  rw [show 61 - xs.length = (60 - xs.length) + 1 by omega, e0, if_neg (by omega), ← h, e1, show 61 - (xs.length + 1) = 60 - xs.length by omega]
  by_cases hb : b5 = 0
  · subst hb
    have h6 := oneD_ok h.symm
    rw [badR_0, badR_0]
    exact ⟨rfl, fun _ => ⟨h6.2, h6.1⟩⟩
  · rw [badR_ne _ _ hb, badR_ne _ _ hb]
    exact ⟨rfl, fun e => absurd e hb⟩
theorem mod_chain {S : Toks} {s : ByteArray} {l : List Im} {i2 b2 i3 b3 : Nat}
    (h1 : NameOut S (decide (psI 0 (keyS S 0 kModule) 0 < S.n) && smallK (S.K (psI 0 (keyS S 0 kModule) 0)) (S.T (psI 0 (keyS S 0 kModule) 0))) (psI 0 (keyS S 0 kModule) 0) (psB 0 (keyS S 0 kModule)) s i2 b2)
    (h2 : badR b2 i2 (impsR S 21 i2 []) = badR b3 i3 (.ok l i3 0)) : badR b3 i3 (restD S s l i3 []) = modR S := by
  have a := nameOut_res h1 (fun s j => restM S s (impsR S 21 j []))
  rw [small_k] at a
  have b := sign_res (keyS S 0 kModule) 0 0 (fun j => if S.small j = false then Res.err 2 j else restM S (S.T j) (impsR S 21 (j + 1) []))
  have c : badR b3 i3 (restD S s l i3 []) = badR b2 i2 (restM S s (impsR S 21 i2 [])) := by
    by_cases hb : b2 = 0
    · subst hb
      rw [badR_0] at h2
      rw [badR_0]
      rw [h2]
      by_cases hb3 : b3 = 0
      · subst hb3; rfl
      · rw [badR_ne _ _ hb3, badR_ne _ _ hb3]; rfl
    · rw [badR_ne _ _ hb] at h2
      rw [badR_ne _ _ hb]
      by_cases hb3 : b3 = 0
      · subst hb3; cases h2
      · rw [badR_ne _ _ hb3] at h2
        rw [badR_ne _ _ hb3]
        cases h2
        rfl
  rw [c, a, b, badR_0]
  rfl

/-- A module's box. -/
def Mx (d : Nat) (nm : ByteArray) (Ai : Option Addr) (ni ci : Nat) (Ad : Option Addr) (nd cd : Nat) (w : World) : Prop := w.heap[d]? = some (.cells #[.string nm, .slice Ai ni ci, .slice Ad nd cd] 25 (0, 0))
/-- A declaration more, in the module's box. -/
theorem decs_more {q lo d g cap c B : Nat} {xs : List De} {A Ai : Option Addr} {nm : ByteArray} {ni ci n cn i b : Nat} {As : Option Addr} {w w1 w3 : World} {o : Obj} {l : List Value} {x : De} {C : List (List Value)}
    (h : Row deR lo xs A c w1) (hlo : lo ≤ B) (hwo : ∀ b, (Value.slice A xs.length c).ownBlock = some b → b < B)
    (hC1 : C.length = xs.length) (hC4 : ∀ (i : Nat) (l : List Value) (x : De), C[i]? = some l → xs[i]? = some x → deE (strike (fun b => b < lo ∨ (Value.slice A xs.length c).ownBlock = some b) w1) l x)
    (hE : deE (strike (· < B) w1) l x) (hown : w3.ownsRow lo 52 9 (.slice (some ⟨g, 0, none⟩) (xs.length + 1) cap) (xs.length + 1) (C.flatten ++ l)) (hgrow : (w1.alloc o).grownBy w3 (Value.slice A xs.length c).ownBlock)
    (hat : (Value.slice A xs.length c).ownBlock = some g ∨ g = (w1.alloc o).heap.size)
    (hB1 : B ≤ w1.heap.size) (hd : d < lo) (hwd : w.heap.size ≤ d) (hql : q < w.heap.size) (hbox : Mx d nm Ai ni ci A xs.length c w1) (hK : Kp q w w1) (hc : CSt q As n cn i b w1) :
    Row deR lo (xs ++ [x]) (some ⟨g, 0, none⟩) cap (w3.setCell ⟨d, 2, none⟩ (.slice (some ⟨g, 0, none⟩) (xs.length + 1) cap)) ∧
    Mx d nm Ai ni ci (some ⟨g, 0, none⟩) (xs.length + 1) cap (w3.setCell ⟨d, 2, none⟩ (.slice (some ⟨g, 0, none⟩) (xs.length + 1) cap)) ∧
    Kp q w (w3.setCell ⟨d, 2, none⟩ (.slice (some ⟨g, 0, none⟩) (xs.length + 1) cap)) ∧ CSt q As n cn i b (w3.setCell ⟨d, 2, none⟩ (.slice (some ⟨g, 0, none⟩) (xs.length + 1) cap)) ∧
    (∀ b, b < lo → b ≠ d → (w3.setCell ⟨d, 2, none⟩ (.slice (some ⟨g, 0, none⟩) (xs.length + 1) cap)).heap[b]? = w1.heap[b]?) ∧
    w3.cell? ⟨d, 2, none⟩ = some (.slice A xs.length c) ∧ w3.frozen? ⟨d, 2, none⟩ = false ∧ w1.heap.size ≤ (w3.setCell ⟨d, 2, none⟩ (.slice (some ⟨g, 0, none⟩) (xs.length + 1) cap)).heap.size := by
  obtain ⟨R3, old3, hs3⟩ := Row.more (R := deR) h hlo hwo hC1 hC4 hE hown hgrow hat
  have hlow : ∀ b, (Value.slice A xs.length c).ownBlock = some b → lo ≤ b := fun b e => (h.lt e).1
  have hd1 : d < w1.heap.size := (Array.getElem?_eq_some_iff.1 hbox).1
  have B3 := (old3 d (fun e => by have := hlow d e; omega) hd1).trans hbox
  have ot : ∀ b, b ≠ d → (w3.setCell ⟨d, 2, none⟩ (.slice (some ⟨g, 0, none⟩) (xs.length + 1) cap)).heap[b]? = w3.heap[b]? := fun b hb => Below.heap_setCell _ _ _ _ (by show b ≠ d; exact hb)
  have K3 : Kp q w w3 := (hK.alloc o).grow hgrow fun b e => by have := hlow b e; omega
  have c3 : CSt q As n cn i b w3 := hc.keep (old3 q (fun e => by have := hlow q e; omega) hc.lt) (fun g vs fr hg => old3 g (fun e => by
    obtain ⟨C', -, h3, -⟩ := h.cells
    rcases h3.2 with ⟨e1, -⟩ | ⟨g6, cap6, cur6, hv, -, hg6, -⟩
    · rw [e1] at e; simp [Value.ownBlock] at e
    · rw [hv] at e; simp [Value.ownBlock] at e
      subst e
      exact two_types hg hg6 (by decide) rfl) (Array.getElem?_eq_some_iff.1 hg).1)
  refine ⟨R3.keep (by simp) (fun b hb hlt => ot b (by omega)), ?_, K3.putNew _ (by show w.heap.size ≤ d; omega) _, c3.keep (ot q (by omega)) (fun g vs fr hg => ot g (two_types hg B3 (by decide))), fun b hb hne => (ot b hne).trans (old3 b (fun e => by have := hlow b e; omega) (by omega)), ?_, Lib.frozen_of_heap B3 2, by simp; omega⟩
  · have h2 := Joins.block_setCell (i := 2) B3 (.slice (some ⟨g, 0, none⟩) (xs.length + 1) cap)
    simpa [Mx] using h2
  · have := Lib.cell_of_heap B3 2
    simpa using this

/-- While the code reads declarations. -/
structure MpI (w : World) (q : Nat) (A : Option Addr) (S : Toks) (cn : Nat) (F : Res Mo) (d lo B6 : Nat) (nm : ByteArray) (l : List Im) (Ai : Option Addr) (ci : Nat) (xs : List De) (Ad : Option Addr) (cd i b : Nat) (wr : World) : Prop where
  kp : Kp q w wr
  box : Mx d nm Ai l.length ci Ad xs.length cd wr
  res : wr.heap[w.heap.size]? = some (.cells #[.string ⟨#[]⟩, .slice none 0 0, .slice none 0 0] 25 (0, 0))
  ims : RowIn imR (strike (fun b => b < B6 ∨ lo ≤ b) wr) Ai l
  rows : Row deR lo xs Ad cd wr
  cur : CSt q A S.n cn i b wr
  fin : F = badR b i (restD S nm l i xs)
  most : b = 0 → xs.length ≤ 60
  some : xs.length ≤ 61
  lole : lo ≤ wr.heap.size
/-- What reading a module leaves. -/
def MrOut (w : World) (q : Nat) (A : Option Addr) (n cn : Nat) (R : Res Mo) (e : Ending) (w' : World) : Prop :=
  ∃ (l : List Value) (m : Mo) (i b : Nat), e = .returned (.agg l.toArray) ∧ MoAt (strike (· < w.heap.size) w') l m ∧ Kp q w w' ∧ CSt q A n cn i b w' ∧ badR b i (.ok m i 0) = R
theorem MpI.fin2 {w : World} {q : Nat} {A : Option Addr} {S : Toks} {cn : Nat} {F : Res Mo} {d lo B6 : Nat} {nm : ByteArray} {l : List Im} {Ai : Option Addr} {ci : Nat} {xs : List De} {Ad : Option Addr} {cd i b : Nat} {wr : World}
    (h : MpI w q A S cn F d lo B6 nm l Ai ci xs Ad cd i b wr) (hz : nm.size ≤ 9223372036854775807) (hl : l.length ≤ 1000) (h6 : w.heap.size < B6) (hlo : w.heap.size < lo) (hq : q < w.heap.size) (hno : (decide (b = 0) && decide (i < S.n)) = false) :
    MrOut w q A S.n cn F (.returned (.agg #[.string nm, .slice Ai l.length ci, .slice Ad xs.length cd])) (wr.setRow w.heap.size #[.string nm, .slice Ai l.length ci, .slice Ad xs.length cd]) := by
  have mv : ∀ b, b ≠ w.heap.size → (wr.setRow w.heap.size #[.string nm, .slice Ai l.length ci, .slice Ad xs.length cd]).heap[b]? = wr.heap[b]? := fun b hb => setRow_other wr w.heap.size b _ hb
  refine ⟨[.string nm, .slice Ai l.length ci, .slice Ad xs.length cd], ⟨nm, l, xs⟩, i, b, rfl, ⟨Ai, ci, Ad, cd, rfl, hz, by show l.length ≤ _; omega, by have := h.some; show xs.length ≤ _; omega, ?_, ?_⟩, ?_, ?_, ?_⟩
  · exact h.ims.move (by simp) fun b hb hS => ⟨fun e => hS (.inl (by omega)), mv b (fun e => hS (.inl (by omega)))⟩
  · exact (h.rows.done (Nat.le_refl _)).move (by simp) fun b hb hS => ⟨by omega, mv b (by omega)⟩
  · have hk := h.kp
    exact ⟨hk.os, hk.tape, hk.output, by have := hk.size; simpa using this, fun j hj hne => (mv j (by omega)).trans (hk.block j hj hne)⟩
  · exact h.cur.keep (mv q (by omega)) (fun g vs fr hg => mv g (two_types hg h.res (by decide)))
  · rw [h.fin]
    exact (rest_no (by
      by_cases hb : b = 0
      · exact .inl (h.most hb)
      · exact .inr hb) hno).symm

end Go.Proofs.YtpfoclpgcbjjoaaGreatDoor

/- The walk of the code's reading of a module. -/
namespace Go.Proofs.YtpfoclpgcbjjoaaGreatDoor
open Go.RowKit
open Go.Sort
open M

theorem modSize : (Tryz.prog.info? 25).map (·.size) = some 3 := by kernel_rfl
theorem modOne {s : ByteArray} {A5 A6 : Option Addr} {n5 c5 n6 c6 : Nat} : (#[.string s, .slice A5 n5 c5, .slice A6 n6 c6] : Array Value).all (·.oneCell') = true := Array.all_eq_true_iff_forall_mem.2 (fun v hv => by simp at hv; rcases hv with rfl | rfl | rfl <;> rfl)
theorem dec_info : (Tryz.prog.info? 52).map (fun i => (i.zero, i.size, i.bytes)) = some (some (.agg #[.int .i64 0, .string ⟨#[]⟩, .int .i64 0, .string ⟨#[]⟩, .int .i64 0, .string ⟨#[]⟩, .string ⟨#[]⟩, .slice none 0 0, .slice none 0 0]), 9, 136) := by kernel_rfl

set_option maxRecDepth 100000 in
set_option maxHeartbeats 4000000 in
theorem cmod_any {W : World} {q : Nat} {A : Option Addr} {S : Toks} {cn : Nat} {w : World} (hc : CdCtx W q A S w) (h : CSt q A S.n cn 0 0 w) (he : CEnv W) :
    Calls Tryz.prog 44 #[.pointer (some ⟨q, 0, none⟩)] w (MrOut w q A S.n cn (modR S)) := by
  have hq := h.lt
  have hbig := hc.big
  obtain ⟨w0, hw0⟩ : ∃ w0, w0 = w.alloc (.cells #[.string ⟨#[]⟩, .slice none 0 0, .slice none 0 0] 25) := ⟨_, rfl⟩
  have B0 : Below w.heap.size w w0 := by rw [hw0]; exact below_new (Below.refl _ _) _
  have X0 : w0.heap[w.heap.size]? = some (.cells #[.string ⟨#[]⟩, .slice none 0 0, .slice none 0 0] 25 (0, 0)) := by rw [hw0]; exact heap_alloc_new w _
  have s0 : w0.heap.size = w.heap.size + 1 := by rw [hw0]; simp
  have K0 := Kp.of_below (r := q) B0
  have C0 := hc.on K0 hq
  have KY := Lib.hid (ckey_any C0 (h.below B0) ⟨#[109, 111, 100, 117, 108, 101]⟩)
  have HC := Lib.hid hc
  have HE := Lib.hid he
  have HX0 := Lib.hid X0
  have HK0 := Lib.hid K0
  have HW0 := Lib.hid hw0
  have hl0 : w.heap.size < w0.heap.size := by omega
  clear hc h he hw0 B0 X0 K0 C0 s0
  go_enter Tryz.func44, Tryz.ntmps44
  go_upto_region 1 with fail
  rw [← HW0.out]
  go_wp2_with fail
  refine KY.out.mono ?_; rintro e w1 ⟨rfl, h1, k1⟩
  have K1 := HK0.out.trans k1
  have WD := Lib.hid (cword_any (HC.out.on K1 hq) h1 _ _ asksSmall (by decide))
  have HX1 := Lib.hid ((k1.blk hl0 (by omega)).trans HX0.out)
  have HK1 := Lib.hid K1
  have hl1 := Nat.lt_of_lt_of_le hl0 k1.size
  clear h1 k1 K1 KY HX0 HK0 HW0
  go_wp2_with fail
  refine WD.out.mono ?_; rintro e w2 ⟨nm, i2, b2, rfl, z2, h2, k2, hN2⟩
  obtain ⟨w3, hw3⟩ : ∃ w3, w3 = w2.alloc (.cells #[.string nm, .slice none 0 0, .slice none 0 0] 25) := ⟨_, rfl⟩
  have B3 : Below w2.heap.size w2 w3 := by rw [hw3]; exact below_new (Below.refl _ _) _
  have s3 : w3.heap.size = w2.heap.size + 1 := by rw [hw3]; simp
  have hs2 := k2.size
  have Y3 : Mx w2.heap.size nm none 0 0 none 0 0 w3 := by rw [hw3]; exact heap_alloc_new w2 _
  have X3 := (B3.block w.heap.size (by omega)).trans ((k2.blk hl1 (by omega)).trans HX1.out)
  have K3 := (HK1.out.trans k2).trans (Kp.of_below B3)
  have IM := Lib.hid (cimps_any (HC.out.on K3 hq) (h2.below B3) HE.out)
  have HY3 := Lib.hid Y3
  have HX3 := Lib.hid X3
  have HK3 := Lib.hid K3
  have HN2 := Lib.hid hN2
  have HW3 := Lib.hid hw3
  have hd1 : w.heap.size + 1 ≤ w2.heap.size := by omega
  have hd3 : w2.heap.size < w3.heap.size := by omega
  clear h2 k2 hN2 hw3 B3 Y3 X3 K3 WD HX1 HK1 hl1 hl0 hs2
  generalize hdd : w2.heap.size = d at hd1 hd3 HY3 s3
  go_upto_region 3 with fail
  rw [← HW3.out]
  clear hdd
  go_wp2_with fail
  refine IM.out.mono ?_; rintro e w4 ⟨l, Ai, ci, i4, b4, rfl, k4, hrow4, h4, hF4, hl21⟩
  have hs4 := k4.size
  have Y4 : Mx d nm none 0 0 none 0 0 w4 := (k4.blk hd3 (by omega)).trans HY3.out
  have X4 := (k4.blk (by omega) (by omega)).trans HX3.out
  obtain ⟨w5, hw5⟩ : ∃ w5, w5 = w4.setCell ⟨d, 1, none⟩ (.slice Ai l.length ci) := ⟨_, rfl⟩
  have s5 : w5.heap.size = w4.heap.size := by rw [hw5]; simp
  have o5 : ∀ b, b ≠ d → w5.heap[b]? = w4.heap[b]? := fun b hb => by rw [hw5]; exact Below.heap_setCell _ _ _ _ (by show b ≠ d; exact hb)
  have Y5 : Mx d nm Ai l.length ci none 0 0 w5 := by
    have h2 := Joins.block_setCell (i := 1) Y4 (.slice Ai l.length ci)
    rw [hw5]; simpa [Mx] using h2
  have INV : Hid (MpI w q A S cn (modR S) d w5.heap.size w3.heap.size nm l Ai ci [] none 0 i4 b4 w5) := Lib.hid
    ⟨by rw [hw5]; exact (HK3.out.trans k4).putNew _ (by show w.heap.size ≤ d; omega) _, Y5, (o5 _ (by omega)).trans X4,
      (hrow4.done (Nat.le_refl _)).move (by omega) fun b hb hS => ⟨by omega, o5 b (by omega)⟩, Row.start _ _ _,
      h4.keep (o5 q (by omega)) (fun g vs fr hg => o5 g (two_types hg Y4 (by decide))), (mod_chain HN2.out hF4).symm, fun _ => by simp, by simp, Nat.le_refl _⟩
  have f1 := Lib.frozen_of_heap Y4 1
  have m1 := Lib.cell_of_heap Y4 1
  simp at m1
  have HW5 := Lib.hid hw5
  have hw35 : w3.heap.size ≤ w5.heap.size := by omega
  clear k4 hrow4 h4 hF4 hs4 Y4 X4 hw5 s5 o5 Y5 IM HY3 HX3 HK3 HN2
  go_upto_region 4 with fail
  rw [← HW5.out]
  clear m1 f1 HW5
  generalize hlo : w5.heap.size = lo at INV hw35
  go_loopw [] (fun wr => ∃ (xs : List De) (Ad : Option Addr) (cd i b : Nat), Hid (MpI w q A S cn (modR S) d lo w3.heap.size nm l Ai ci xs Ad cd i b wr)) (fun wr => cuM q S.n wr)
  case atStart => exact ⟨[], none, 0, i4, b4, INV⟩
  case round =>
    obtain ⟨xs, Ad, cd, i, b, HI⟩ := hrel
    obtain ⟨wo, rfl⟩ : ∃ wo : World, wo = wr := ⟨_, rfl⟩
    have DN := Lib.hid (done_any HI.out.cur hbig)
    have hso := HI.out.kp.size
    have hlole := HI.out.lole
    go_wp2_with fail
    refine DN.out.mono ?_; rintro e w6 ⟨rfl, hb6⟩
    have hs6 := hb6.size
    have I6 : MpI w q A S cn (modR S) d lo w3.heap.size nm l Ai ci xs Ad cd i b w6 :=
      ⟨HI.out.kp.trans (Kp.of_below hb6), (hb6.block d (by omega)).trans HI.out.box, (hb6.block _ (by omega)).trans HI.out.res,
        HI.out.ims.move hs6 fun b hb hS => ⟨hS, hb6.block b hb⟩, HI.out.rows.keep hs6 (fun b _ hlt => hb6.block b hlt), HI.out.cur.below hb6, HI.out.fin, HI.out.most, HI.out.some, by omega⟩
    obtain ⟨v, hv⟩ : ∃ v, (decide (b = 0) && decide (i < S.n)) = v := ⟨_, rfl⟩
    rw [hv]
    have HV := Lib.hid hv
    have HI6 := Lib.hid I6
    have MI := Lib.hid HI.out.cur.m
    clear hv I6 hb6 DN HI
    cases v with
    | false =>
      have SEAL := Lib.hid (HI6.out.fin2 (by omega) (by omega) (by omega) (by omega) hq HV.out)
      have Y6 := HI6.out.box
      have x0 := Lib.cell_of_heap Y6 0
      have x1 := Lib.cell_of_heap Y6 1
      have x2 := Lib.cell_of_heap Y6 2
      simp at x0 x1 x2
      have X6 := HI6.out.res
      have HX6 := Lib.hid X6
      clear Y6 HI6 INV
      go_upto_region 6 with fail
      go_wp2_with (first | ((with_reducible refine wpList_putRow 25 (w.heap.size) #[.string nm, .slice Ai l.length ci, .slice Ad xs.length cd] _ _ X6 ?_ ?_ ?_ ?_ ?_ ?_); exact modSize; rfl; exact modOne; (focus (first | (go_simp; done) | rfl)); (focus (first | (go_simp; done) | rfl))))
      exact ret_agg1 (fn := Tryz.f44) (vs := [.string nm, .slice Ai l.length ci, .slice Ad xs.length cd]) (b := w.heap.size) rfl rfl Tryz.underlying25 (by kernel_rfl) (cell3 (setRow_heap _ w.heap.size _ _ _ _ HX6.out)) rfl SEAL.out
    | true =>
      have hbk : b = 0 ∧ i < S.n := by have := HV.out; simpa using this
      obtain ⟨hb0, hin⟩ := hbk
      subst hb0
      have h60 := HI6.out.most rfl
      have HF : Hid (modR S = restD S nm l i xs) := Lib.hid (by have := HI6.out.fin; rwa [badR_0] at this)
      have hn63 : ¬ ((xs.length : Int) > 9223372036854775807) := by omega
      have BD : Below w6.heap.size w6 w6.drew := Below.drew (Below.refl _ _)
      have CA := Lib.hid (cdecl_any (HC.out.on (HI6.out.kp.trans (Kp.of_below BD)) hq) (HI6.out.cur.below BD) HE.out hin xs.length (by omega))
      have hH0 : w6.drew.cell? ⟨d, 2, none⟩ = some (.slice Ad xs.length cd) := by
        have := Lib.cell_of_heap HI6.out.box 2
        simpa using this
      have hd6 : d < w6.heap.size := by omega
      clear INV
      go_upto_region 5 with fail
      refine AnyX.start (fun wx => wx.cell? ⟨d, 2, none⟩ = some (.slice Ad xs.length cd)) (fun k => k == 10) (by kernel_rfl) ?_
      refine AnyX.move (i := 0) (v := ?_) rfl (by kernel_rfl) (by kernel_rfl) (by kernel_rfl) (by kernel_rfl) (fun _ _ _ h => h) (Or.inl ⟨by rfl, ?_⟩) ?_
      rotate_left
      · (intro wS _; go_simp; try with_reducible rfl)
      simp only [List.getElem_toArray, List.getElem_cons_succ, List.getElem_cons_zero]
      simp only [Act.put, List.setIfInBounds_toArray]
      simp only [List.set_cons_zero, List.set_cons_succ]
      refine AnyX.take (i := 1) (v := ?_) rfl (by kernel_rfl) (by kernel_rfl) (by kernel_rfl) (by kernel_rfl) (by kernel_rfl) (fun _ _ _ h => h) hH0 (Or.inl ⟨by rfl, ?_⟩) ?_
      rotate_left
      · (intro wS hS; (try obtain hc := hS); go_simp; try with_reducible rfl)
      simp only [List.getElem_toArray, List.getElem_cons_succ, List.getElem_cons_zero]
      simp only [Act.put, List.setIfInBounds_toArray]
      simp only [List.set_cons_zero, List.set_cons_succ]
      refine AnyX.move (i := 2) (v := ?_) rfl (by kernel_rfl) (by kernel_rfl) (by kernel_rfl) (by kernel_rfl) (fun _ _ _ h => h) (Or.inl ⟨by rfl, ?_⟩) ?_
      rotate_left
      · (intro wS _; go_simp; try with_reducible rfl)
      simp only [List.getElem_toArray, List.getElem_cons_succ, List.getElem_cons_zero]
      simp only [Act.put, List.setIfInBounds_toArray]
      simp only [List.set_cons_zero, List.set_cons_succ]
      refine AnyX.move (i := 3) (v := ?_) rfl (by kernel_rfl) (by kernel_rfl) (by kernel_rfl) (by kernel_rfl) (fun _ _ _ h => h) (Or.inl ⟨by rfl, ?_⟩) ?_
      rotate_left
      · (intro wS _; go_simp; try with_reducible rfl)
      simp only [List.getElem_toArray, List.getElem_cons_succ, List.getElem_cons_zero]
      simp only [Act.put, List.setIfInBounds_toArray]
      simp only [List.set_cons_zero, List.set_cons_succ]
      refine AnyX.take (i := 4) (v := ?_) rfl (by kernel_rfl) (by kernel_rfl) (by kernel_rfl) (by kernel_rfl) (by kernel_rfl) (fun _ _ _ h => h) hH0 (Or.inl ⟨by rfl, ?_⟩) ?_
      rotate_left
      · (intro wS hS; (try obtain hc := hS); go_simp; try with_reducible rfl)
      simp only [List.getElem_toArray, List.getElem_cons_succ, List.getElem_cons_zero]
      simp only [Act.put, List.setIfInBounds_toArray]
      simp only [List.set_cons_zero, List.set_cons_succ]
      refine AnyX.move (i := 5) (v := ?_) rfl (by kernel_rfl) (by kernel_rfl) (by kernel_rfl) (by kernel_rfl) (fun _ _ _ h => h) (Or.inl ⟨by rfl, ?_⟩) ?_
      rotate_left
      · (intro wS _; go_simp; try with_reducible rfl)
      simp only [List.getElem_toArray, List.getElem_cons_succ, List.getElem_cons_zero]
      simp only [Act.put, List.setIfInBounds_toArray]
      simp only [List.set_cons_zero, List.set_cons_succ]
      refine AnyX.go 6 (by kernel_rfl) rfl rfl (fun K hK => ?_)
      simp only [List.getElem_toArray, List.getElem_cons_succ, List.getElem_cons_zero]
      go_simp
      refine CA.out.mono ?_
      rintro e w7 ⟨l7, x, i7, b7, he7, z7, hT7, k7, h7, hres⟩
      obtain ⟨t, ht⟩ : ∃ t, t = x.typ := ⟨_, rfl⟩
      rw [← ht] at hT7
      have HTY := Lib.hid ht
      clear ht
      obtain ⟨An, cA, As, cS, rfl, -⟩ := hT7.parts
      have he7' : e = .returned (.agg #[.int .i64 x.kind, .string x.name, .int .i64 t.kind, .string t.pkg, .int .i64 t.major, .string t.mod, .string t.name, .slice An t.names.length cA, .slice As t.subs.length cS]) := he7
      subst he7'
      have hsd : w6.drew.heap.size = w6.heap.size := rfl
      have hs7 := k7.size
      have Y7 : Mx d nm Ai l.length ci Ad xs.length cd w7 := (k7.blk hd6 (by omega)).trans HI6.out.box
      have y7 : w7.cell? ⟨d, 2, none⟩ = some (.slice Ad xs.length cd) := by
        have := Lib.cell_of_heap Y7 2
        simpa using this
      have ROW7 := HI6.out.rows.keep (w' := w7) (by omega) (fun b hb hlt => k7.blk hlt (by omega))
      have K7 := (HI6.out.kp.trans (Kp.of_below BD)).trans k7
      have IMS7 : RowIn imR (strike (fun b => b < w3.heap.size ∨ lo ≤ b) w7) Ai l := HI6.out.ims.move (by omega) fun b hb hS => ⟨hS, k7.blk hb (fun e => hS (.inl (by omega)))⟩
      have X7 := (k7.blk (show w.heap.size < w6.heap.size by omega) (by omega)).trans HI6.out.res
      simp only []
      refine hK.out _ _ (fun hoff _ => y7) ?_
      clear hK
      try simp only [Act.put, List.setIfInBounds_toArray]
      try simp only [List.set_cons_zero, List.set_cons_succ]
      refine AnyX.go 7 (by kernel_rfl) rfl rfl (fun K hK => ?_)
      simp only [List.getElem_toArray, List.getElem_cons_succ, List.getElem_cons_zero]
      go_simp
      refine hK.out _ _ (fun hoff _ => cell_alloc y7) ?_
      clear hK
      try simp only [Act.put, List.setIfInBounds_toArray]
      try simp only [List.set_cons_zero, List.set_cons_succ]
      obtain ⟨C, hC1, hown, hC4⟩ := ROW7.cells
      obtain ⟨inf, hi1', hy0, hy1, hy2⟩ := info_parts dec_info
      have hMX : xs.length + 1 ≤ maxLen := by unfold maxLen; omega
      have hwo : ∀ b, (Value.slice Ad xs.length cd).ownBlock = some b → b < w6.heap.size := fun b e => (HI6.out.rows.lt e).2
      have hAL : ∀ oo, lo ≤ (w7.alloc oo).heap.size := fun oo => by have e1 : (w7.alloc oo).heap.size = w7.heap.size + 1 := (by simp); omega
      refine AnyX.go 8 (by kernel_rfl) rfl rfl (fun K hK => ?_)
      simp only [List.getElem_toArray, List.getElem_cons_succ, List.getElem_cons_zero]
      refine wp_append_lies _ (.tmp 16) (.tmp 22) 23 rfl lo 52 inf _ 9 136 Tryz.underlying23 hi1' hy0 hy1 hy2 (by rfl) (Nat.zero_lt_succ 8) (.slice Ad xs.length cd) xs.length _ rfl (hown.alloc _) ⟨w7.heap.size, 0, none⟩ 1 1 [.int .i64 x.kind, .string x.name, .int .i64 t.kind, .string t.pkg, .int .i64 t.major, .string t.mod, .string t.name, .slice An t.names.length cA, .slice As t.subs.length cS] rfl rfl (fun q u hq => by rw [WideShapes.add_plain, Nat.zero_add, Lib.cell_of_heap (heap_alloc_new w7 _), ← hq, ← List.getElem?_toArray]) (fun u hu => by simp at hu; rcases hu with rfl | rfl | rfl | rfl | rfl | rfl | rfl | rfl | rfl <;> rfl) Nat.one_pos hMX (by omega) (hAL _) _ rfl ?_
      intro gb cap w8 hown8 hgrow hat hlt8
      have MORE := decs_more (w := w) (x := x) ROW7 (B := w6.heap.size) (by omega) hwo hC1 hC4 ⟨z7, _, rfl, by rw [← HTY.out]; exact hT7⟩ hown8 hgrow hat (by omega) (by omega) (by omega) hq Y7 K7 h7
      obtain ⟨ROW9, Y9, K9, h9, old9, z9, e9, hs9⟩ := MORE
      refine hK.out _ _ (fun hoff _ => z9) ?_
      clear hK
      try simp only [Act.put, List.setIfInBounds_toArray]
      try simp only [List.set_cons_zero, List.set_cons_succ]
      refine AnyX.move (i := 9) (v := ?_) rfl (by kernel_rfl) (by kernel_rfl) (by kernel_rfl) (by kernel_rfl) (fun _ _ _ h => h) (Or.inl ⟨by rfl, ?_⟩) ?_
      rotate_left
      · (intro wS _; go_simp; try with_reducible rfl)
      simp only [List.getElem_toArray, List.getElem_cons_succ, List.getElem_cons_zero]
      simp only [Act.put, List.setIfInBounds_toArray]
      simp only [List.set_cons_zero, List.set_cons_succ]
      refine AnyX.go 10 (by kernel_rfl) rfl rfl (fun K hK => ?_)
      simp only [List.getElem_toArray, List.getElem_cons_succ, List.getElem_cons_zero]
      go_simp
      refine hK.out _ _ (fun hoff _ => absurd hoff (by decide)) ?_
      clear hK
      try simp only [Act.put, List.setIfInBounds_toArray]
      try simp only [List.set_cons_zero, List.set_cons_succ]
      refine AnyX.done (by kernel_rfl) ?_ _
      obtain ⟨hF9, hlim⟩ := rest_yes (s := nm) (l := l) h60 hin hres
      have hlen : (xs ++ [x]).length = xs.length + 1 := by simp
      have INV9 : Hid (MpI w q A S cn (modR S) d lo w3.heap.size nm l Ai ci (xs ++ [x]) (some ⟨gb, 0, none⟩) cap i7 b7 (w8.setCell ⟨d, 2, none⟩ (.slice (some ⟨gb, 0, none⟩) (xs.length + 1) cap))) := Lib.hid
        ⟨K9, by rw [hlen]; exact Y9, (old9 _ (by omega) (by omega)).trans X7, IMS7.move hs9 fun b hb hS => ⟨hS, old9 b (by omega) (by omega)⟩, ROW9, h9, by rw [HF.out]; exact hF9, fun e => by have := (hlim e).1; omega, by omega, by omega⟩
      have MEAS : Hid (cuM q S.n (w8.setCell ⟨d, 2, none⟩ (.slice (some ⟨gb, 0, none⟩) (xs.length + 1) cap)) < cuM q S.n wo) := Lib.hid (by
        rw [MI.out, h9.m]
        simp only [if_true]
        split
        · rename_i e
          have := hlim e
          omega
        · omega)
      clear hT7 k7 h7 hres ROW7 K7 hC1 hown hC4 hi1' hy0 hy1 hy2 hown8 hgrow hat hlt8 ROW9 Y9 K9 old9 z9 e9 hs9 h9 hlim hF9 CA IMS7 X7 Y7 y7 hwo hAL HI6 HF
      go_wp2_with fail
      go_roundw
      case rel => exact ⟨xs ++ [x], some ⟨gb, 0, none⟩, cap, i7, b7, INV9⟩
      case measure => exact MEAS.out

end Go.Proofs.YtpfoclpgcbjjoaaGreatDoor
