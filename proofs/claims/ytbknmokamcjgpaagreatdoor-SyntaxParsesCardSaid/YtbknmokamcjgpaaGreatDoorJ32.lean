/-
  Several texts in one: The walk of the code's reading of a module. · The code's Parse of a module's text.
-/
import Derived.Test.YtbknmokamcjgpaaGreatDoorJ31
/- The walk of the code's reading of a module. -/
namespace Go.Proofs.YtbknmokamcjgpaaGreatDoor
open Go.RowKit
open Go.Sort
open M

theorem modSize : (Tryz.prog.info? 49).map (·.size) = some 3 := by kernel_rfl
theorem modOne {s : ByteArray} {A5 A6 : Option Addr} {n5 c5 n6 c6 : Nat} : (#[.string s, .slice A5 n5 c5, .slice A6 n6 c6] : Array Value).all (·.oneCell') = true := Array.all_eq_true_iff_forall_mem.2 (fun v hv => by simp at hv; rcases hv with rfl | rfl | rfl <;> rfl)
theorem dec_info : (Tryz.prog.info? 84).map (fun i => (i.zero, i.size, i.bytes)) = some (some (.agg #[.int .i64 0, .string ⟨#[]⟩, .int .i64 0, .string ⟨#[]⟩, .int .i64 0, .string ⟨#[]⟩, .string ⟨#[]⟩, .slice none 0 0, .slice none 0 0]), 9, 136) := by kernel_rfl

set_option maxRecDepth 100000 in
set_option maxHeartbeats 4000000 in
theorem cmod_any {W : World} {q : Nat} {A : Option Addr} {S : Toks} {cn : Nat} {w : World} (hc : CdCtx W q A S w) (h : CSt q A S.n cn 0 0 w) (he : CEnv W) :
    Calls Tryz.prog 50 #[.pointer (some ⟨q, 0, none⟩)] w (MrOut w q A S.n cn (modR S)) := by
  have hq := h.lt
  have hbig := hc.big
  obtain ⟨w0, hw0⟩ : ∃ w0, w0 = w.alloc (.cells #[.string ⟨#[]⟩, .slice none 0 0, .slice none 0 0] 49) := ⟨_, rfl⟩
  have B0 : Below w.heap.size w w0 := by rw [hw0]; exact below_new (Below.refl _ _) _
  have X0 : w0.heap[w.heap.size]? = some (.cells #[.string ⟨#[]⟩, .slice none 0 0, .slice none 0 0] 49 (0, 0)) := by rw [hw0]; exact heap_alloc_new w _
  have s0 : w0.heap.size = w.heap.size + 1 := by rw [hw0]; simp
  have K0 := Kp.of_below (r := q) B0
  have C0 := hc.on K0 hq
  have KY := Lib.hid (ckey_any C0 (h.below B0) ⟨#[109, 111, 100, 117, 108, 101]⟩)
  have HC := Lib.hid hc
  have HE := Lib.hid he
  have HX0 := Lib.hid X0
  have HK0 := Lib.hid K0
  have HW0 := Lib.hid hw0
  have hl0 : w.heap.size < w0.heap.size := by omega
  clear hc h he hw0 B0 X0 K0 C0 s0
  go_enter Tryz.func50, Tryz.ntmps50
  go_upto_region 1 with fail
  rw [← HW0.out]
  go_wp2_with fail
  refine KY.out.mono ?_; rintro e w1 ⟨rfl, h1, k1⟩
  have K1 := HK0.out.trans k1
  have WD := Lib.hid (cword_any (HC.out.on K1 hq) h1 _ _ asksSmall (by decide))
  have HX1 := Lib.hid ((k1.blk hl0 (by omega)).trans HX0.out)
  have HK1 := Lib.hid K1
  have hl1 := Nat.lt_of_lt_of_le hl0 k1.size
  clear h1 k1 K1 KY HX0 HK0 HW0
  go_wp2_with fail
  refine WD.out.mono ?_; rintro e w2 ⟨nm, i2, b2, rfl, z2, h2, k2, hN2⟩
  obtain ⟨w3, hw3⟩ : ∃ w3, w3 = w2.alloc (.cells #[.string nm, .slice none 0 0, .slice none 0 0] 49) := ⟨_, rfl⟩
  have B3 : Below w2.heap.size w2 w3 := by rw [hw3]; exact below_new (Below.refl _ _) _
  have s3 : w3.heap.size = w2.heap.size + 1 := by rw [hw3]; simp
  have hs2 := k2.size
  have Y3 : Mx w2.heap.size nm none 0 0 none 0 0 w3 := by rw [hw3]; exact heap_alloc_new w2 _
  have X3 := (B3.block w.heap.size (by omega)).trans ((k2.blk hl1 (by omega)).trans HX1.out)
  have K3 := (HK1.out.trans k2).trans (Kp.of_below B3)
  have IM := Lib.hid (cimps_any (HC.out.on K3 hq) (h2.below B3) HE.out)
  have HY3 := Lib.hid Y3
  have HX3 := Lib.hid X3
  have HK3 := Lib.hid K3
  have HN2 := Lib.hid hN2
  have HW3 := Lib.hid hw3
  have hd1 : w.heap.size + 1 ≤ w2.heap.size := by omega
  have hd3 : w2.heap.size < w3.heap.size := by omega
  clear h2 k2 hN2 hw3 B3 Y3 X3 K3 WD HX1 HK1 hl1 hl0 hs2
  generalize hdd : w2.heap.size = d at hd1 hd3 HY3 s3
  go_upto_region 3 with fail
  rw [← HW3.out]
  clear hdd
  go_wp2_with fail
  refine IM.out.mono ?_; rintro e w4 ⟨l, Ai, ci, i4, b4, rfl, k4, hrow4, h4, hF4, hl21⟩
  have hs4 := k4.size
  have Y4 : Mx d nm none 0 0 none 0 0 w4 := (k4.blk hd3 (by omega)).trans HY3.out
  have X4 := (k4.blk (by omega) (by omega)).trans HX3.out
  obtain ⟨w5, hw5⟩ : ∃ w5, w5 = w4.setCell ⟨d, 1, none⟩ (.slice Ai l.length ci) := ⟨_, rfl⟩
  have s5 : w5.heap.size = w4.heap.size := by rw [hw5]; simp
  have o5 : ∀ b, b ≠ d → w5.heap[b]? = w4.heap[b]? := fun b hb => by rw [hw5]; exact Below.heap_setCell _ _ _ _ (by show b ≠ d; exact hb)
  have Y5 : Mx d nm Ai l.length ci none 0 0 w5 := by
    have h2 := Joins.block_setCell (i := 1) Y4 (.slice Ai l.length ci)
    rw [hw5]; simpa [Mx] using h2
  have INV : Hid (MpI w q A S cn (modR S) d w5.heap.size w3.heap.size nm l Ai ci [] none 0 i4 b4 w5) := Lib.hid
    ⟨by rw [hw5]; exact (HK3.out.trans k4).putNew _ (by show w.heap.size ≤ d; omega) _, Y5, (o5 _ (by omega)).trans X4,
      (hrow4.done (Nat.le_refl _)).move (by omega) fun b hb hS => ⟨by omega, o5 b (by omega)⟩, Row.start _ _ _,
      h4.keep (o5 q (by omega)) (fun g vs fr hg => o5 g (two_types hg Y4 (by decide))), (mod_chain HN2.out hF4).symm, fun _ => by simp, by simp, Nat.le_refl _⟩
  have f1 := Lib.frozen_of_heap Y4 1
  have m1 := Lib.cell_of_heap Y4 1
  simp at m1
  have HW5 := Lib.hid hw5
  have hw35 : w3.heap.size ≤ w5.heap.size := by omega
  clear k4 hrow4 h4 hF4 hs4 Y4 X4 hw5 s5 o5 Y5 IM HY3 HX3 HK3 HN2
  go_upto_region 4 with fail
  rw [← HW5.out]
  clear m1 f1 HW5
  generalize hlo : w5.heap.size = lo at INV hw35
  go_loopw [] (fun wr => ∃ (xs : List De) (Ad : Option Addr) (cd i b : Nat), Hid (MpI w q A S cn (modR S) d lo w3.heap.size nm l Ai ci xs Ad cd i b wr)) (fun wr => cuM q S.n wr)
  case atStart => exact ⟨[], none, 0, i4, b4, INV⟩
  case round =>
    obtain ⟨xs, Ad, cd, i, b, HI⟩ := hrel
    obtain ⟨wo, rfl⟩ : ∃ wo : World, wo = wr := ⟨_, rfl⟩
    have DN := Lib.hid (done_any HI.out.cur hbig)
    have hso := HI.out.kp.size
    have hlole := HI.out.lole
    go_wp2_with fail
    refine DN.out.mono ?_; rintro e w6 ⟨rfl, hb6⟩
    have hs6 := hb6.size
    have I6 : MpI w q A S cn (modR S) d lo w3.heap.size nm l Ai ci xs Ad cd i b w6 :=
      ⟨HI.out.kp.trans (Kp.of_below hb6), (hb6.block d (by omega)).trans HI.out.box, (hb6.block _ (by omega)).trans HI.out.res,
        HI.out.ims.move hs6 fun b hb hS => ⟨hS, hb6.block b hb⟩, HI.out.rows.keep hs6 (fun b _ hlt => hb6.block b hlt), HI.out.cur.below hb6, HI.out.fin, HI.out.most, HI.out.some, by omega⟩
    obtain ⟨v, hv⟩ : ∃ v, (decide (b = 0) && decide (i < S.n)) = v := ⟨_, rfl⟩
    rw [hv]
    have HV := Lib.hid hv
    have HI6 := Lib.hid I6
    have MI := Lib.hid HI.out.cur.m
    clear hv I6 hb6 DN HI
    cases v with
    | false =>
      have SEAL := Lib.hid (HI6.out.fin2 (by omega) (by omega) (by omega) (by omega) hq HV.out)
      have Y6 := HI6.out.box
      have x0 := Lib.cell_of_heap Y6 0
      have x1 := Lib.cell_of_heap Y6 1
      have x2 := Lib.cell_of_heap Y6 2
      simp at x0 x1 x2
      have X6 := HI6.out.res
      have HX6 := Lib.hid X6
      clear Y6 HI6 INV
      go_upto_region 6 with fail
      go_wp2_with (first | ((with_reducible refine wpList_putRow 49 (w.heap.size) #[.string nm, .slice Ai l.length ci, .slice Ad xs.length cd] _ _ X6 ?_ ?_ ?_ ?_ ?_ ?_); exact modSize; rfl; exact modOne; (focus (first | (go_simp; done) | rfl)); (focus (first | (go_simp; done) | rfl))))
      exact ret_agg1 (fn := Tryz.f50) (vs := [.string nm, .slice Ai l.length ci, .slice Ad xs.length cd]) (b := w.heap.size) rfl rfl Tryz.underlying49 (by kernel_rfl) (cell3 (setRow_heap _ w.heap.size _ _ _ _ HX6.out)) rfl SEAL.out
    | true =>
      have hbk : b = 0 ∧ i < S.n := by have := HV.out; simpa using this
      obtain ⟨hb0, hin⟩ := hbk
      subst hb0
      have h60 := HI6.out.most rfl
      have HF : Hid (modR S = restD S nm l i xs) := Lib.hid (by have := HI6.out.fin; rwa [badR_0] at this)
      have hn63 : ¬ ((xs.length : Int) > 9223372036854775807) := by omega
      have BD : Below w6.heap.size w6 w6.drew := Below.drew (Below.refl _ _)
      have CA := Lib.hid (cdecl_any (HC.out.on (HI6.out.kp.trans (Kp.of_below BD)) hq) (HI6.out.cur.below BD) HE.out hin xs.length (by omega))
      have hH0 : w6.drew.cell? ⟨d, 2, none⟩ = some (.slice Ad xs.length cd) := by
        have := Lib.cell_of_heap HI6.out.box 2
        simpa using this
      have hd6 : d < w6.heap.size := by omega
      clear INV
      go_upto_region 5 with fail
      refine AnyX.start (fun wx => wx.cell? ⟨d, 2, none⟩ = some (.slice Ad xs.length cd)) (fun k => k == 10) (by kernel_rfl) ?_
      refine AnyX.move (i := 0) (v := ?_) rfl (by kernel_rfl) (by kernel_rfl) (by kernel_rfl) (by kernel_rfl) (fun _ _ _ h => h) (Or.inl ⟨by rfl, ?_⟩) ?_
      rotate_left
      · (intro wS _; go_simp; try with_reducible rfl)
      simp only [List.getElem_toArray, List.getElem_cons_succ, List.getElem_cons_zero]
      simp only [Act.put, List.setIfInBounds_toArray]
      simp only [List.set_cons_zero, List.set_cons_succ]
      refine AnyX.take (i := 1) (v := ?_) rfl (by kernel_rfl) (by kernel_rfl) (by kernel_rfl) (by kernel_rfl) (by kernel_rfl) (fun _ _ _ h => h) hH0 (Or.inl ⟨by rfl, ?_⟩) ?_
      rotate_left
      · (intro wS hS; (try obtain hc := hS); go_simp; try with_reducible rfl)
      simp only [List.getElem_toArray, List.getElem_cons_succ, List.getElem_cons_zero]
      simp only [Act.put, List.setIfInBounds_toArray]
      simp only [List.set_cons_zero, List.set_cons_succ]
      refine AnyX.move (i := 2) (v := ?_) rfl (by kernel_rfl) (by kernel_rfl) (by kernel_rfl) (by kernel_rfl) (fun _ _ _ h => h) (Or.inl ⟨by rfl, ?_⟩) ?_
      rotate_left
      · (intro wS _; go_simp; try with_reducible rfl)
      simp only [List.getElem_toArray, List.getElem_cons_succ, List.getElem_cons_zero]
      simp only [Act.put, List.setIfInBounds_toArray]
      simp only [List.set_cons_zero, List.set_cons_succ]
      refine AnyX.move (i := 3) (v := ?_) rfl (by kernel_rfl) (by kernel_rfl) (by kernel_rfl) (by kernel_rfl) (fun _ _ _ h => h) (Or.inl ⟨by rfl, ?_⟩) ?_
      rotate_left
      · (intro wS _; go_simp; try with_reducible rfl)
      simp only [List.getElem_toArray, List.getElem_cons_succ, List.getElem_cons_zero]
      simp only [Act.put, List.setIfInBounds_toArray]
      simp only [List.set_cons_zero, List.set_cons_succ]
      refine AnyX.take (i := 4) (v := ?_) rfl (by kernel_rfl) (by kernel_rfl) (by kernel_rfl) (by kernel_rfl) (by kernel_rfl) (fun _ _ _ h => h) hH0 (Or.inl ⟨by rfl, ?_⟩) ?_
      rotate_left
      · (intro wS hS; (try obtain hc := hS); go_simp; try with_reducible rfl)
      simp only [List.getElem_toArray, List.getElem_cons_succ, List.getElem_cons_zero]
      simp only [Act.put, List.setIfInBounds_toArray]
      simp only [List.set_cons_zero, List.set_cons_succ]
      refine AnyX.move (i := 5) (v := ?_) rfl (by kernel_rfl) (by kernel_rfl) (by kernel_rfl) (by kernel_rfl) (fun _ _ _ h => h) (Or.inl ⟨by rfl, ?_⟩) ?_
      rotate_left
      · (intro wS _; go_simp; try with_reducible rfl)
      simp only [List.getElem_toArray, List.getElem_cons_succ, List.getElem_cons_zero]
      simp only [Act.put, List.setIfInBounds_toArray]
      simp only [List.set_cons_zero, List.set_cons_succ]
      refine AnyX.go 6 (by kernel_rfl) rfl rfl (fun K hK => ?_)
      simp only [List.getElem_toArray, List.getElem_cons_succ, List.getElem_cons_zero]
      go_simp
      refine CA.out.mono ?_
      rintro e w7 ⟨l7, x, i7, b7, he7, z7, hT7, k7, h7, hres⟩
      obtain ⟨t, ht⟩ : ∃ t, t = x.typ := ⟨_, rfl⟩
      rw [← ht] at hT7
      have HTY := Lib.hid ht
      clear ht
      obtain ⟨An, cA, As, cS, rfl, -⟩ := hT7.parts
      have he7' : e = .returned (.agg #[.int .i64 x.kind, .string x.name, .int .i64 t.kind, .string t.pkg, .int .i64 t.major, .string t.mod, .string t.name, .slice An t.names.length cA, .slice As t.subs.length cS]) := he7
      subst he7'
      have hsd : w6.drew.heap.size = w6.heap.size := rfl
      have hs7 := k7.size
      have Y7 : Mx d nm Ai l.length ci Ad xs.length cd w7 := (k7.blk hd6 (by omega)).trans HI6.out.box
      have y7 : w7.cell? ⟨d, 2, none⟩ = some (.slice Ad xs.length cd) := by
        have := Lib.cell_of_heap Y7 2
        simpa using this
      have ROW7 := HI6.out.rows.keep (w' := w7) (by omega) (fun b hb hlt => k7.blk hlt (by omega))
      have K7 := (HI6.out.kp.trans (Kp.of_below BD)).trans k7
      have IMS7 : RowIn imR (strike (fun b => b < w3.heap.size ∨ lo ≤ b) w7) Ai l := HI6.out.ims.move (by omega) fun b hb hS => ⟨hS, k7.blk hb (fun e => hS (.inl (by omega)))⟩
      have X7 := (k7.blk (show w.heap.size < w6.heap.size by omega) (by omega)).trans HI6.out.res
      simp only []
      refine hK.out _ _ (fun hoff _ => y7) ?_
      clear hK
      try simp only [Act.put, List.setIfInBounds_toArray]
      try simp only [List.set_cons_zero, List.set_cons_succ]
      refine AnyX.go 7 (by kernel_rfl) rfl rfl (fun K hK => ?_)
      simp only [List.getElem_toArray, List.getElem_cons_succ, List.getElem_cons_zero]
      go_simp
      refine hK.out _ _ (fun hoff _ => cell_alloc y7) ?_
      clear hK
      try simp only [Act.put, List.setIfInBounds_toArray]
      try simp only [List.set_cons_zero, List.set_cons_succ]
      obtain ⟨C, hC1, hown, hC4⟩ := ROW7.cells
      obtain ⟨inf, hi1', hy0, hy1, hy2⟩ := info_parts dec_info
      have hMX : xs.length + 1 ≤ maxLen := by unfold maxLen; omega
      have hwo : ∀ b, (Value.slice Ad xs.length cd).ownBlock = some b → b < w6.heap.size := fun b e => (HI6.out.rows.lt e).2
      have hAL : ∀ oo, lo ≤ (w7.alloc oo).heap.size := fun oo => by have e1 : (w7.alloc oo).heap.size = w7.heap.size + 1 := (by simp); omega
      refine AnyX.go 8 (by kernel_rfl) rfl rfl (fun K hK => ?_)
      simp only [List.getElem_toArray, List.getElem_cons_succ, List.getElem_cons_zero]
      refine wp_append_lies _ (.tmp 16) (.tmp 22) 47 rfl lo 84 inf _ 9 136 Tryz.underlying47 hi1' hy0 hy1 hy2 (by rfl) (Nat.zero_lt_succ 8) (.slice Ad xs.length cd) xs.length _ rfl (hown.alloc _) ⟨w7.heap.size, 0, none⟩ 1 1 [.int .i64 x.kind, .string x.name, .int .i64 t.kind, .string t.pkg, .int .i64 t.major, .string t.mod, .string t.name, .slice An t.names.length cA, .slice As t.subs.length cS] rfl rfl (fun q u hq => by rw [WideShapes.add_plain, Nat.zero_add, Lib.cell_of_heap (heap_alloc_new w7 _), ← hq, ← List.getElem?_toArray]) (fun u hu => by simp at hu; rcases hu with rfl | rfl | rfl | rfl | rfl | rfl | rfl | rfl | rfl <;> rfl) Nat.one_pos hMX (by omega) (hAL _) _ rfl ?_
      intro gb cap w8 hown8 hgrow hat hlt8
      have MORE := decs_more (w := w) (x := x) ROW7 (B := w6.heap.size) (by omega) hwo hC1 hC4 ⟨z7, _, rfl, by rw [← HTY.out]; exact hT7⟩ hown8 hgrow hat (by omega) (by omega) (by omega) hq Y7 K7 h7
      obtain ⟨ROW9, Y9, K9, h9, old9, z9, e9, hs9⟩ := MORE
      refine hK.out _ _ (fun hoff _ => z9) ?_
      clear hK
      try simp only [Act.put, List.setIfInBounds_toArray]
      try simp only [List.set_cons_zero, List.set_cons_succ]
      refine AnyX.move (i := 9) (v := ?_) rfl (by kernel_rfl) (by kernel_rfl) (by kernel_rfl) (by kernel_rfl) (fun _ _ _ h => h) (Or.inl ⟨by rfl, ?_⟩) ?_
      rotate_left
      · (intro wS _; go_simp; try with_reducible rfl)
      simp only [List.getElem_toArray, List.getElem_cons_succ, List.getElem_cons_zero]
      simp only [Act.put, List.setIfInBounds_toArray]
      simp only [List.set_cons_zero, List.set_cons_succ]
      refine AnyX.go 10 (by kernel_rfl) rfl rfl (fun K hK => ?_)
      simp only [List.getElem_toArray, List.getElem_cons_succ, List.getElem_cons_zero]
      go_simp
      refine hK.out _ _ (fun hoff _ => absurd hoff (by decide)) ?_
      clear hK
      try simp only [Act.put, List.setIfInBounds_toArray]
      try simp only [List.set_cons_zero, List.set_cons_succ]
      refine AnyX.done (by kernel_rfl) ?_ _
      obtain ⟨hF9, hlim⟩ := rest_yes (s := nm) (l := l) h60 hin hres
      have hlen : (xs ++ [x]).length = xs.length + 1 := by simp
      have INV9 : Hid (MpI w q A S cn (modR S) d lo w3.heap.size nm l Ai ci (xs ++ [x]) (some ⟨gb, 0, none⟩) cap i7 b7 (w8.setCell ⟨d, 2, none⟩ (.slice (some ⟨gb, 0, none⟩) (xs.length + 1) cap))) := Lib.hid
        ⟨K9, by rw [hlen]; exact Y9, (old9 _ (by omega) (by omega)).trans X7, IMS7.move hs9 fun b hb hS => ⟨hS, old9 b (by omega) (by omega)⟩, ROW9, h9, by rw [HF.out]; exact hF9, fun e => by have := (hlim e).1; omega, by omega, by omega⟩
      have MEAS : Hid (cuM q S.n (w8.setCell ⟨d, 2, none⟩ (.slice (some ⟨gb, 0, none⟩) (xs.length + 1) cap)) < cuM q S.n wo) := Lib.hid (by
        rw [MI.out, h9.m]
        simp only [if_true]
        split
        · rename_i e
          have := hlim e
          omega
        · omega)
      clear hT7 k7 h7 hres ROW7 K7 hC1 hown hC4 hi1' hy0 hy1 hy2 hown8 hgrow hat hlt8 ROW9 Y9 K9 old9 z9 e9 hs9 h9 hlim hF9 CA IMS7 X7 Y7 y7 hwo hAL HI6 HF
      go_wp2_with fail
      go_roundw
      case rel => exact ⟨xs ++ [x], some ⟨gb, 0, none⟩, cap, i7, b7, INV9⟩
      case measure => exact MEAS.out

end Go.Proofs.YtbknmokamcjgpaaGreatDoor

/- The code's Parse of a module's text. -/
namespace Go.Proofs.YtbknmokamcjgpaaGreatDoor
open Go.RowKit
open Go.Sort
open M

theorem tkS_big {ts : List Tok} (h : ts.length ≤ 20000) : (tkS ts).n ≤ 9223372036854775806 := by show ts.length ≤ _; omega
/-- What Parse leaves. -/
def PmOut (w : World) (R : Res Mo) (e : Ending) (w' : World) : Prop :=
  Below w.heap.size w w' ∧
  ((∃ (l : List Value) (m : Mo) (j : Nat), R = .ok m j 0 ∧ e = .returned (.tuple #[.agg l.toArray, .nilIface]) ∧ MoAt (strike (· < w.heap.size) w') l m) ∨
   (∃ (b j g : Nat), R = .err b j ∧ b ≠ 0 ∧ e = .returned (.tuple #[.agg #[.string ⟨#[]⟩, .slice none 0 0, .slice none 0 0], .iface 63 (.pointer (some ⟨g, 0, none⟩))]) ∧ SpC g j b w'))

set_option maxRecDepth 100000 in
set_option maxHeartbeats 4000000 in
theorem cmparse_large (s : ByteArray) (w : World) (hs : 20000 < s.size) : Calls Tryz.prog 22 #[.string s] w fun e w' => e = .returned (.tuple #[.agg #[.string ⟨#[]⟩, .slice none 0 0, .slice none 0 0], .iface 31 (.int .i64 3)]) ∧ Below w.heap.size w w' := by
  obtain ⟨w0, hw0⟩ : ∃ w0, w0 = w.alloc (.cells #[.string ⟨#[]⟩, .slice none 0 0, .slice none 0 0] 49) := ⟨_, rfl⟩
  have B0 : Below w.heap.size w w0 := by rw [hw0]; exact below_new (Below.refl _ _) _
  have X0 : w0.heap[w.heap.size]? = some (.cells #[.string ⟨#[]⟩, .slice none 0 0, .slice none 0 0] 49 (0, 0)) := by rw [hw0]; exact heap_alloc_new w _
  have FIN : Hid (Below w.heap.size w (w0.setRow w.heap.size #[.string ⟨#[]⟩, .slice none 0 0, .slice none 0 0])) := Lib.hid (setRow_below B0 (Nat.le_refl _) _)
  have HX0 := Lib.hid X0
  have HW0 := Lib.hid hw0
  have TK := Lib.hid (tokens_large s w0 hs)
  clear hw0 B0
  go_enter Tryz.func22, Tryz.ntmps22
  go_upto_region 1 with fail
  rw [← HW0.out]
  go_wp2_with fail
  refine TK.out.mono ?_; rintro e w1 ⟨rfl, rfl⟩
  go_upto_region 3 with fail
  go_wp2_with (first | ((with_reducible refine wpList_putRow 49 (w.heap.size) #[.string ⟨#[]⟩, .slice none 0 0, .slice none 0 0] _ _ X0 ?_ ?_ ?_ ?_ ?_ ?_); exact modSize; rfl; exact modOne; (focus (first | (go_simp; done) | rfl)); (focus (first | (go_simp; done) | rfl))))
  exact ret_agg (fn := Tryz.f22) (vs := [.string ⟨#[]⟩, .slice none 0 0, .slice none 0 0]) (b := w.heap.size) rfl rfl rfl Tryz.underlying49 (by kernel_rfl) (cell3 (setRow_heap w0 w.heap.size _ _ _ _ HX0.out)) rfl ⟨rfl, FIN.out⟩

set_option maxRecDepth 100000 in
set_option maxHeartbeats 4000000 in
theorem cmparse_any (s : ByteArray) (w : World) (hs : s.size ≤ 20000) (he : CEnv w) : Calls Tryz.prog 22 #[.string s] w (PmOut w (parM s)) := by
  obtain ⟨w0, hw0⟩ : ∃ w0, w0 = w.alloc (.cells #[.string ⟨#[]⟩, .slice none 0 0, .slice none 0 0] 49) := ⟨_, rfl⟩
  have B0 : Below w.heap.size w w0 := by rw [hw0]; exact below_new (Below.refl _ _) _
  have X0 : w0.heap[w.heap.size]? = some (.cells #[.string ⟨#[]⟩, .slice none 0 0, .slice none 0 0] 49 (0, 0)) := by rw [hw0]; exact heap_alloc_new w _
  have s0 : w.heap.size < w0.heap.size := by rw [hw0]; simp
  have HX0 := Lib.hid X0
  have HB0 := Lib.hid B0
  have HW0 := Lib.hid hw0
  have HE := Lib.hid he
  clear hw0 B0 X0 he
  rcases toks_cases s with ⟨ts, hf⟩ | ⟨k, hf⟩
  rotate_left
  · have TK := Lib.hid (tokens_no s k w0 hs hf)
    have HP := Lib.hid (parM_no hf)
    clear hf
    go_enter Tryz.func22, Tryz.ntmps22
    go_upto_region 1 with fail
    rw [← HW0.out]
    go_wp2_with fail
    refine TK.out.mono ?_; rintro e w1 ⟨b, rfl, hb0, hb1, c0, c1, B1⟩
    have X1 := (B1.block _ s0).trans HX0.out
    have FIN : Hid (PmOut w (parM s) (.returned (.tuple #[.agg #[.string ⟨#[]⟩, .slice none 0 0, .slice none 0 0], .iface 63 (.pointer (some ⟨b, 0, none⟩))])) (w1.setRow w.heap.size #[.string ⟨#[]⟩, .slice none 0 0, .slice none 0 0])) := Lib.hid
      ⟨setRow_below (below_over HB0.out B1) (Nat.le_refl _) _, .inr ⟨2, k, b, HP.out, by decide, rfl, SpC.row (show SpC b (k : Int) 2 w1 from ⟨hb1, c0, c1⟩) (by omega) _⟩⟩
    have HX1 := Lib.hid X1
    clear hb0 hb1 c0 c1 B1 TK
    go_upto_region 3 with fail
    go_wp2_with (first | ((with_reducible refine wpList_putRow 49 (w.heap.size) #[.string ⟨#[]⟩, .slice none 0 0, .slice none 0 0] _ _ X1 ?_ ?_ ?_ ?_ ?_ ?_); exact modSize; rfl; exact modOne; (focus (first | (go_simp; done) | rfl)); (focus (first | (go_simp; done) | rfl))))
    exact ret_agg (fn := Tryz.f22) (vs := [.string ⟨#[]⟩, .slice none 0 0, .slice none 0 0]) (b := w.heap.size) rfl rfl rfl Tryz.underlying49 (by kernel_rfl) (cell3 (setRow_heap w1 w.heap.size _ _ _ _ HX1.out)) rfl FIN.out
  have hsz : ∀ t ∈ ts, t.text.size ≤ 20000 := fun t ht => Nat.le_trans (fin_size s hf t ht) hs
  have TK := Lib.hid (tokens_yes s ts w0 hs hf)
  have hlen : ts.length ≤ 20000 := Nat.le_trans (fin_len s hf) hs
  have HP := Lib.hid (parM_yes hf)
  have HSZ := Lib.hid hsz
  clear hf hsz
  go_enter Tryz.func22, Tryz.ntmps22
  go_upto_region 1 with fail
  rw [← HW0.out]
  go_wp2_with fail
  refine TK.out.mono ?_; rintro e w1 ⟨A, cn, rfl, hlen', hrow, B1⟩
  have B01 := below_over HB0.out B1
  have s1 : w.heap.size < w1.heap.size := Nat.lt_of_lt_of_le s0 B1.size
  have NW := Lib.hid (new_any A (tkS ts).n cn 0 w1)
  obtain ⟨w2, hw2⟩ : ∃ w2, w2 = w1.alloc (.cells #[.slice A (tkS ts).n cn, .int .i64 0, .nilIface] 117) := ⟨_, rfl⟩
  have B2 : Below w1.heap.size w1 w2 := by rw [hw2]; exact below_new (Below.refl _ _) _
  have s2 : w2.heap.size = w1.heap.size + 1 := by rw [hw2]; simp
  have G2 : CSt w1.heap.size A (tkS ts).n cn 0 0 w2 := .inl ⟨rfl, by unfold CGd; rw [hw2]; exact heap_alloc_new w1 _⟩
  have C2 : CdCtx w1 w1.heap.size A (tkS ts) w2 := ⟨hrow.toks HSZ.out, B2, Nat.le_refl _, tkS_big hlen, tkS_small HSZ.out⟩
  have RE := Lib.hid (cmod_any C2 G2 (HE.out.on B01))
  have HX2 := Lib.hid ((B2.block w.heap.size s1).trans ((B1.block _ s0).trans HX0.out))
  have HB02 := Lib.hid (below_over B01 B2)
  have HW2 := Lib.hid hw2
  clear hrow B1 B01 hw2 B2 G2 C2 TK HX0 HB0
  go_upto_region 4 with fail
  go_wp2_with fail
  refine NW.out.mono ?_; rintro e wz ⟨rfl, rfl⟩
  go_upto_region 5 with fail
  rw [← HW2.out]
  go_wp2_with fail
  refine RE.out.mono ?_
  rintro e w3 ⟨l, m, i3, b3, rfl, hM, k3, h3, hres⟩
  obtain ⟨Ai, ci, Ad, cd, rfl, -⟩ := hM.free
  have hs3 := k3.size
  obtain ⟨w4, hw4⟩ : ∃ w4, w4 = w3.alloc (.cells #[.string m.name, .slice Ai m.imps.length ci, .slice Ad m.decs.length cd] 49) := ⟨_, rfl⟩
  have B4 : Below w3.heap.size w3 w4 := by rw [hw4]; exact below_new (Below.refl _ _) _
  have O4 : w4.heap[w3.heap.size]? = some (.cells #[.string m.name, .slice Ai m.imps.length ci, .slice Ad m.decs.length cd] 49 (0, 0)) := by rw [hw4]; exact heap_alloc_new w3 _
  have h4 := h3.below B4
  have X4 := (B4.block w.heap.size (by omega)).trans ((k3.blk (show w.heap.size < w2.heap.size by omega) (by omega)).trans HX2.out)
  have B24 : Below w.heap.size w w4 := HB02.out.trans (((k3.trans (Kp.of_below B4)).below (by omega)).mono (by omega))
  have M4 : MoAt (strike (· < w2.heap.size) w4) [.string m.name, .slice Ai m.imps.length ci, .slice Ad m.decs.length cd] m := hM.move B4.size fun b hb hS => ⟨hS, B4.block b hb⟩
  have HW4 := Lib.hid hw4
  have HM4 := Lib.hid M4
  have HB4 := Lib.hid B24
  have H4 := Lib.hid h4
  have HX4 := Lib.hid X4
  have HO4 := Lib.hid O4
  have HRS := Lib.hid hres
  have hs24 : w2.heap.size ≤ w4.heap.size := by have := B4.size; omega
  clear hM k3 h3 hres B4 O4 h4 X4 B24 M4 hw4 RE HX2 HB02 NW
  go_upto_region 6 with fail
  rw [← HW4.out]
  by_cases hb : b3 = 0
  · subst hb
    have CE := Lib.hid (cerr_no H4.out)
    have hok : parM s = .ok m i3 0 := by rw [HP.out, ← HRS.out]; rfl
    have O4 := HO4.out
    have x0 := Lib.cell_of_heap O4 0
    have x1 := Lib.cell_of_heap O4 1
    have x2 := Lib.cell_of_heap O4 2
    simp at x0 x1 x2
    have X4 := HX4.out
    have FIN : Hid (PmOut w (parM s) (.returned (.tuple #[.agg #[.string m.name, .slice Ai m.imps.length ci, .slice Ad m.decs.length cd], .nilIface])) (w4.setRow w.heap.size #[.string m.name, .slice Ai m.imps.length ci, .slice Ad m.decs.length cd])) := Lib.hid
      ⟨setRow_below HB4.out (Nat.le_refl _) _, .inl ⟨_, m, i3, hok, rfl, HM4.out.move (by simp) fun b hb hS => ⟨fun e => hS (by omega), setRow_other w4 w.heap.size b _ (by omega)⟩⟩⟩
    clear hok O4
    go_wp2_with fail
    refine CE.out.mono ?_; rintro e w5 ⟨rfl, rfl⟩
    go_upto_region 9 with fail
    go_wp2_with (first | ((with_reducible refine wpList_putRow 49 (w.heap.size) #[.string m.name, .slice Ai m.imps.length ci, .slice Ad m.decs.length cd] _ _ X4 ?_ ?_ ?_ ?_ ?_ ?_); exact modSize; rfl; exact modOne; (focus (first | (go_simp; done) | rfl)); (focus (first | (go_simp; done) | rfl))))
    exact ret_agg (fn := Tryz.f22) (vs := [.string m.name, .slice Ai m.imps.length ci, .slice Ad m.decs.length cd]) (b := w.heap.size) rfl rfl rfl Tryz.underlying49 (by kernel_rfl) (cell3 (setRow_heap w4 w.heap.size _ _ _ _ HX4.out)) rfl FIN.out
  · have CE := Lib.hid (cerr_yes H4.out hb)
    have herr : parM s = .err b3 i3 := by rw [HP.out, ← HRS.out]; exact badR_ne _ _ hb
    have X4 := HX4.out
    have FIN : Hid (∀ g, w4.heap[g]? = some (.cells #[.int .i64 i3, .iface 31 (.int .i64 b3)] 65 (0, 0)) → PmOut w (parM s) (.returned (.tuple #[.agg #[.string ⟨#[]⟩, .slice none 0 0, .slice none 0 0], .iface 63 (.pointer (some ⟨g, 0, none⟩))])) (w4.setRow w.heap.size #[.string ⟨#[]⟩, .slice none 0 0, .slice none 0 0])) := Lib.hid (fun g hg =>
      ⟨setRow_below HB4.out (Nat.le_refl _) _, .inr ⟨b3, i3, g, herr, hb, rfl, (SpAt.cells hg).row (two_types hg HX4.out (by decide)) _⟩⟩)
    clear herr
    go_wp2_with fail
    refine CE.out.mono ?_; rintro e w5 ⟨g, rfl, rfl, hg⟩
    have HFG := Lib.hid (FIN.out g hg)
    clear hg FIN CE
    go_upto_region 8 with fail
    go_wp2_with (first | ((with_reducible refine wpList_putRow 49 (w.heap.size) #[.string ⟨#[]⟩, .slice none 0 0, .slice none 0 0] _ _ X4 ?_ ?_ ?_ ?_ ?_ ?_); exact modSize; rfl; exact modOne; (focus (first | (go_simp; done) | rfl)); (focus (first | (go_simp; done) | rfl))))
    exact ret_agg (fn := Tryz.f22) (vs := [.string ⟨#[]⟩, .slice none 0 0, .slice none 0 0]) (b := w.heap.size) rfl rfl rfl Tryz.underlying49 (by kernel_rfl) (cell3 (setRow_heap w4 w.heap.size _ _ _ _ HX4.out)) rfl HFG.out

end Go.Proofs.YtbknmokamcjgpaaGreatDoor
