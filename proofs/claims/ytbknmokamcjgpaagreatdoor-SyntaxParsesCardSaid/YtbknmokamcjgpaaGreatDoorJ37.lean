/-
  The walk of the reference's Parse of modules.
-/
import Derived.Test.YtbknmokamcjgpaaGreatDoorJ36
namespace Go.Proofs.YtbknmokamcjgpaaGreatDoor
open Go.RowKit
open Go.Sort
open M

/-- What the reference's Parse leaves. -/
def RmOut (w : World) (R : Res Mo) (e : Ending) (w' : World) : Prop :=
  Below w.heap.size w w' ∧
  ((∃ (l : List Value) (m : Mo) (j : Nat), R = .ok m j 0 ∧ e = .returned (.tuple #[.agg l.toArray, .int .i64 0, .int .i64 (-1)]) ∧ MoAt w' l m) ∨
   (∃ (b j : Nat), R = .err b j ∧ b ≠ 0 ∧ e = .returned (.tuple #[.agg #[.string ⟨#[]⟩, .slice none 0 0, .slice none 0 0], .int .i64 b, .int .i64 j])))

/-- How far the reader is from its end. -/
def rmM (r n : Nat) (w : World) : Nat :=
  match w.heap[r]? with
  | some (Obj.cells cs _ _) => (match cs[1]?, cs[2]? with
    | some (Value.int _ i), some (Value.int _ b) => if b = 0 then n + 3 - i.toNat + 1 else 0
    | _, _ => 0)
  | _ => 0
theorem Rm.m {r : Nat} {A : Option Addr} {n cn i b : Nat} {w : World} (h : Rm r A n cn i b w) : rmM r n w = if b = 0 then n + 3 - i + 1 else 0 := by
  unfold rmM
  unfold Rm at h
  rw [h]
  by_cases hb : b = 0
  · subst hb; simp
  · simp [hb]
theorem RdCtx.to {W w : World} {r : Nat} {A : Option Addr} {S : Toks} (hT : TokAt W A S) (hb : Below W.heap.size W w) (hr : W.heap.size ≤ r) (hn : S.n ≤ 20000) : RdCtx W r A S w := ⟨hT, hb, hr, by omega⟩

set_option maxRecDepth 100000 in
set_option maxHeartbeats 8000000 in
theorem rmparse_any (s : ByteArray) (w : World) (hs : s.size ≤ 20000) : Calls Tryz.prog 24 #[.string s] w (RmOut w (parM s)) := by
  obtain ⟨w0, hw0⟩ : ∃ w0, w0 = w.alloc (.cells #[.string ⟨#[]⟩, .slice none 0 0, .slice none 0 0] 49) := ⟨_, rfl⟩
  have B0 : Below w.heap.size w w0 := by rw [hw0]; exact below_new (Below.refl _ _) _
  have X0 : w0.heap[w.heap.size]? = some (.cells #[.string ⟨#[]⟩, .slice none 0 0, .slice none 0 0] 49 (0, 0)) := by rw [hw0]; exact heap_alloc_new w _
  have s0 : w.heap.size < w0.heap.size := by rw [hw0]; simp
  have HX0 := Lib.hid X0
  have HB0 := Lib.hid B0
  have HW0 := Lib.hid hw0
  clear hw0 B0 X0
  rcases toks_cases s with ⟨ts, hf⟩ | ⟨k, hf⟩
  rotate_left
  · have TK := Lib.hid (ref_no s k w0 hs hf)
    have HP := Lib.hid (parM_no hf)
    clear hf
    go_enter Tryz.func24, Tryz.ntmps24
    go_upto_region 1 with fail
    rw [← HW0.out]
    go_wp2_with fail
    refine TK.out.mono ?_; rintro e w1 ⟨rfl, B1⟩
    have X1 := (B1.block _ s0).trans HX0.out
    have FIN : Hid (RmOut w (parM s) (.returned (.tuple #[.agg #[.string ⟨#[]⟩, .slice none 0 0, .slice none 0 0], .int .i64 2, .int .i64 k])) (w1.setRow w.heap.size #[.string ⟨#[]⟩, .slice none 0 0, .slice none 0 0])) := Lib.hid
      ⟨setRow_below (below_over HB0.out B1) (Nat.le_refl _) _, .inr ⟨2, k, HP.out, by decide, rfl⟩⟩
    have HX1 := Lib.hid X1
    have hk0 : (0 : Int) ≤ (k : Int) := by omega
    clear B1 TK
    go_upto_region 3 with fail
    go_wp2_with (first | ((with_reducible refine wpList_putRow 49 (w.heap.size) #[.string ⟨#[]⟩, .slice none 0 0, .slice none 0 0] _ _ X1 ?_ ?_ ?_ ?_ ?_ ?_); exact modSize; rfl; exact modOne; (focus (first | (go_simp; done) | rfl)); (focus (first | (go_simp; done) | rfl))))
    exact ret_agg3 (fn := Tryz.f24) (vs := [.string ⟨#[]⟩, .slice none 0 0, .slice none 0 0]) (b := w.heap.size) rfl rfl rfl rfl Tryz.underlying49 (by kernel_rfl) (cell3 (setRow_heap w1 w.heap.size _ _ _ _ HX1.out)) rfl FIN.out
  have hsz : ∀ t ∈ ts, t.text.size ≤ 20000 := fun t ht => Nat.le_trans (fin_size s hf t ht) hs
  have TK := Lib.hid (ref_yes s ts w0 hs hf)
  have hlen : ts.length ≤ 20000 := Nat.le_trans (fin_len s hf) hs
  have HP := Lib.hid (parM_yes hf)
  have KY := Lib.hid (keyed_fin hf)
  have HSZ := Lib.hid hsz
  clear hf hsz
  go_enter Tryz.func24, Tryz.ntmps24
  go_upto_region 1 with fail
  rw [← HW0.out]
  go_wp2_with fail
  refine TK.out.mono ?_; rintro e W ⟨A, cn, rfl, hrow, B1⟩
  obtain ⟨S, hS⟩ : ∃ S, S = tkS ts := ⟨_, rfl⟩
  have hSn : S.n = ts.length := by rw [hS]; rfl
  have TA : Hid (TokAt W A S) := Lib.hid (by rw [hS]; exact hrow.toks HSZ.out)
  rw [← hS] at HP KY
  rw [← hSn] at hlen ⊢
  have HBW := Lib.hid (below_over HB0.out B1)
  have HXW := Lib.hid ((B1.block _ s0).trans HX0.out)
  have hwW : w.heap.size < W.heap.size := Nat.lt_of_lt_of_le s0 B1.size
  obtain ⟨F, hF⟩ : ∃ F, modR S = F := ⟨_, rfl⟩
  have HF := Lib.hid hF
  have HPF : Hid (parM s = F) := Lib.hid (by rw [HP.out, hF])
  clear hrow B1 TK HX0 HB0 HW0 hS hSn HSZ hF HP s0
  -- the reader, and the module's box
  obtain ⟨w1, hw1⟩ : ∃ w1, w1 = W.alloc (.cells #[.slice A S.n cn, .int .i64 0, .int .i64 0] 106) := ⟨_, rfl⟩
  have B1 : Below W.heap.size W w1 := by rw [hw1]; exact below_new (Below.refl _ _) _
  have R1 : Rm W.heap.size A S.n cn 0 0 w1 := by rw [hw1]; exact heap_alloc_new W _
  have s1 : w1.heap.size = W.heap.size + 1 := by rw [hw1]; simp
  obtain ⟨w2, hw2⟩ : ∃ w2, w2 = w1.alloc (.cells #[.string ⟨#[]⟩, .slice none 0 0, .slice none 0 0] 49) := ⟨_, rfl⟩
  have B2 : Below w1.heap.size w1 w2 := by rw [hw2]; exact below_new (Below.refl _ _) _
  have Y2 : Mx w1.heap.size ⟨#[]⟩ none 0 0 none 0 0 w2 := by rw [hw2]; exact heap_alloc_new w1 _
  have s2 : w2.heap.size = w1.heap.size + 1 := by rw [hw2]; simp
  have HR2 := Lib.hid (R1.on B2)
  have HY2 := Lib.hid Y2
  have HB2 := Lib.hid (below_over B1 B2)
  have HW1 := Lib.hid hw1
  have HW2 := Lib.hid hw2
  have hr1 : W.heap.size < w1.heap.size := by omega
  have hd1 : w1.heap.size < w2.heap.size := by omega
  clear hw1 B1 R1 s1 hw2 B2 Y2 s2
  generalize hrr : W.heap.size = r at hwW hr1 HR2
  generalize hdd : w1.heap.size = d at hr1 hd1 HY2
  have hrW : r ≤ W.heap.size := by omega
  have hWr : W.heap.size ≤ r := by omega
  go_upto_region 5 with fail
  rw [← HW1.out]
  go_upto_region 6 with fail
  rw [← HW2.out]
  have HRR := Lib.hid hrr
  clear hrr hdd HW1 HW2
  have WD := Lib.hid (rwK_any (W := W) (S := S) ⟨TA.out, HB2.out, hWr, by omega⟩ HR2.out 1 ⟨#[109, 111, 100, 117, 108, 101]⟩)
  go_wp2_with fail
  refine WD.out.mono ?_; rintro e w3 ⟨sq, i3, b3, rfl, zq, h3, k3, hN3⟩
  have hps := nameOut_ps hN3
  rw [show (okW S 0 1 fun s => s.data.toList == [109, 111, 100, 117, 108, 101]) = keyS S 0 kModule from okW_key S 0 ⟨#[109, 111, 100, 117, 108, 101]⟩] at hps
  obtain ⟨e3, e3b⟩ := hps
  subst e3 e3b
  have kb3 : Below W.heap.size W w3 := HB2.out.trans ((k3.below HR2.out.lt).mono hWr)
  have WD2 := Lib.hid (rwS_any (W := W) (S := S) ⟨TA.out, kb3, hWr, by omega⟩ h3 1)
  have HY3 : Hid (Mx d ⟨#[]⟩ none 0 0 none 0 0 w3) := Lib.hid ((k3.blk hd1 (by omega)).trans HY2.out)
  have hs3 := k3.size
  have HB3 := Lib.hid kb3
  have hr3 := Lib.hid h3.lt
  clear h3 k3 hN3 kb3 WD HY2 HB2 HR2
  go_wp2_with fail
  refine WD2.out.mono ?_; rintro e w4 ⟨nm, i4, b4, rfl, z4, h4, k4, hN4⟩
  have kb4 : Below W.heap.size W w4 := HB3.out.trans ((k4.below hr3.out).mono hWr)
  have hs4 := k4.size
  have Y4 : Mx d ⟨#[]⟩ none 0 0 none 0 0 w4 := (k4.blk (by omega) (by omega)).trans HY3.out
  obtain ⟨w5, hw5⟩ : ∃ w5, w5 = w4.setCell ⟨d, 0, none⟩ (.string nm) := ⟨_, rfl⟩
  have s5 : w5.heap.size = w4.heap.size := by rw [hw5]; simp
  have o5 : ∀ b, b ≠ d → w5.heap[b]? = w4.heap[b]? := fun b hb => by rw [hw5]; exact Below.heap_setCell _ _ _ _ (by show b ≠ d; exact hb)
  have Y5 : Mx d nm none 0 0 none 0 0 w5 := by
    have h2 := Joins.block_setCell (i := 0) Y4 (.string nm)
    rw [hw5]; simpa [Mx] using h2
  have kb5 : Below W.heap.size W w5 := by
    rw [hw5]
    exact below_put kb4 (by show W.heap.size ≤ d; omega) _
  have ff := Lib.frozen_of_heap Y4 0
  have mm := Lib.cell_of_heap Y4 0
  simp at mm
  have INV : Hid (J1 W w r d w5.heap.size A S cn F nm [] none 0 i4 b4 w5) := Lib.hid
    ⟨kb5, Y5, Row.start _ _ _, h4.other (o5 r (by omega)), by rw [← HF.out]; rw [okW_small] at hN4; exact (mod_start hN4).symm, by simp, Nat.le_refl _⟩
  have HW5 := Lib.hid hw5
  have hd5 : d < w5.heap.size := by omega
  clear h4 k4 hN4 kb4 hs4 Y4 hw5 s5 o5 Y5 kb5 WD2 HY3 HB3 hr3 hs3
  go_upto_region 8 with fail
  rw [← HW5.out]
  clear ff mm HW5
  generalize hlo : w5.heap.size = lo at INV hd5
  go_loopw [] (fun wr => ∃ (xs : List Im) (Ai : Option Addr) (ci i b : Nat), Hid (J1 W w r d lo A S cn F nm xs Ai ci i b wr)) (fun wr => rmM r S.n wr)
  case atStart => exact ⟨[], none, 0, i4, b4, INV⟩
  case round =>
    obtain ⟨xs, Ai, ci, i, b, HI⟩ := hrel
    obtain ⟨wo, rfl⟩ : ∃ wo : World, wo = wr := ⟨_, rfl⟩
    have IS := Lib.hid (ris6_any (RdCtx.to TA.out HI.out.kb hWr hlen) HI.out.cur ⟨#[105, 109, 112, 111, 114, 116]⟩)
    have hlole := HI.out.lole
    go_wp2_with fail
    refine IS.out.mono ?_; rintro e w6 ⟨rfl, hb6⟩
    have hs6 := hb6.size
    have I6 : J1 W w r d lo A S cn F nm xs Ai ci i b w6 :=
      ⟨below_over HI.out.kb hb6, (hb6.block d (by omega)).trans HI.out.box, HI.out.rows.keep hs6 (fun b _ hlt => hb6.block b hlt), HI.out.cur.on hb6, HI.out.fin, HI.out.most, by omega⟩
    obtain ⟨v, hv⟩ : ∃ v, (decide (b = 0) && keyS S i (ByteArray.mk #[105, 109, 112, 111, 114, 116]).data.toList) = v := ⟨_, rfl⟩
    rw [hv]
    have HV : Hid ((decide (b = 0) && keyS S i kImport) = v) := Lib.hid hv
    have HI6 := Lib.hid I6
    have MI := Lib.hid HI.out.cur.m
    clear hv I6 hb6 IS HI INV
    cases v with
    | true =>
      have hbk : b = 0 ∧ keyS S i kImport = true := by have := HV.out; simpa using this
      obtain ⟨hb0, hk⟩ := hbk
      subst hb0
      have hin := key_lt hk
      have h20 := HI6.out.most
      have HFI : Hid (F = restM S nm (impsR S (21 - xs.length) i xs)) := Lib.hid (by have := HI6.out.fin; rwa [badR_0] at this)
      have hd6 : d < w6.heap.size := by omega
      have y6 : w6.cell? ⟨d, 1, none⟩ = some (.slice Ai xs.length ci) := by
        have := Lib.cell_of_heap HI6.out.box 1
        simpa using this
      have c1 := HI6.out.cur.c1
      have hlm : ¬ ((xs.length : Int) > 9223372036854775807) := by omega
      by_cases h20' : xs.length = 20
      · have hq : ((xs.length : Int) == 20) = true := by simp [h20']
        have HX6 := Lib.hid ((HI6.out.kb.block w.heap.size (by omega)).trans HXW.out)
        have FIN : Hid (RmOut w (parM s) (.returned (.tuple #[.agg #[.string ⟨#[]⟩, .slice none 0 0, .slice none 0 0], .int .i64 3, .int .i64 i])) (w6.drew.setRow w.heap.size #[.string ⟨#[]⟩, .slice none 0 0, .slice none 0 0])) := Lib.hid
          ⟨setRow_below (below_over (below_over HBW.out HI6.out.kb) (Below.drew (Below.refl _ _))) (Nat.le_refl _) _, .inr ⟨3, i, by rw [HPF.out, HFI.out]; exact imp6_many h20' hk, by decide, rfl⟩⟩
        have SX : _ := HX6.out
        clear HI6
        go_upto_region 10 with fail
        refine AnyX.start (fun wx => wx.cell? ⟨r, 1, none⟩ = some (.int .i64 i)) (fun _ => false) (by kernel_rfl) ?_
        have hH0 : w6.drew.cell? ⟨r, 1, none⟩ = some (.int .i64 i) := c1
        refine AnyX.move (i := 0) (v := ?_) rfl (by kernel_rfl) (by kernel_rfl) (by kernel_rfl) (by kernel_rfl) (fun _ _ _ h => h) (Or.inl ⟨by rfl, ?_⟩) ?_
        rotate_left
        · (intro wS _; go_simp; try with_reducible rfl)
        simp only [List.getElem_toArray, List.getElem_cons_succ, List.getElem_cons_zero]
        simp only [Act.put, List.setIfInBounds_toArray]
        simp only [List.set_cons_zero, List.set_cons_succ]
        refine AnyX.move (i := 1) (v := ?_) rfl (by kernel_rfl) (by kernel_rfl) (by kernel_rfl) (by kernel_rfl) (fun _ _ _ h => h) (Or.inl ⟨by rfl, ?_⟩) ?_
        rotate_left
        · (intro wS _; go_simp; try with_reducible rfl)
        simp only [List.getElem_toArray, List.getElem_cons_succ, List.getElem_cons_zero]
        simp only [Act.put, List.setIfInBounds_toArray]
        simp only [List.set_cons_zero, List.set_cons_succ]
        refine AnyX.move (i := 2) (v := ?_) rfl (by kernel_rfl) (by kernel_rfl) (by kernel_rfl) (by kernel_rfl) (fun _ _ _ h => h) (Or.inl ⟨by rfl, ?_⟩) ?_
        rotate_left
        · (intro wS _; go_simp; try with_reducible rfl)
        simp only [List.getElem_toArray, List.getElem_cons_succ, List.getElem_cons_zero]
        simp only [Act.put, List.setIfInBounds_toArray]
        simp only [List.set_cons_zero, List.set_cons_succ]
        refine AnyX.move (i := 3) (v := ?_) rfl (by kernel_rfl) (by kernel_rfl) (by kernel_rfl) (by kernel_rfl) (fun _ _ _ h => h) (Or.inl ⟨by rfl, ?_⟩) ?_
        rotate_left
        · (intro wS _; go_simp; try with_reducible rfl)
        simp only [List.getElem_toArray, List.getElem_cons_succ, List.getElem_cons_zero]
        simp only [Act.put, List.setIfInBounds_toArray]
        simp only [List.set_cons_zero, List.set_cons_succ]
        refine AnyX.take (i := 4) (v := ?_) rfl (by kernel_rfl) (by kernel_rfl) (by kernel_rfl) (by kernel_rfl) (by kernel_rfl) (fun _ _ _ h => h) hH0 (Or.inl ⟨by rfl, ?_⟩) ?_
        rotate_left
        · (intro wS hS; (try obtain hc := hS); go_simp; try with_reducible rfl)
        simp only [List.getElem_toArray, List.getElem_cons_succ, List.getElem_cons_zero]
        simp only [Act.put, List.setIfInBounds_toArray]
        simp only [List.set_cons_zero, List.set_cons_succ]
        refine AnyX.go 5 (by kernel_rfl) rfl rfl (fun K hK => ?_)
        simp only [List.getElem_toArray, List.getElem_cons_succ, List.getElem_cons_zero]
        refine wp_store_row 49 (.tmp 2) (.tmp 32) rfl w.heap.size #[.string ⟨#[]⟩, .slice none 0 0, .slice none 0 0] rfl rfl _ _ SX modSize rfl modOne ?_
        refine hK.out _ _ (fun hoff _ => (World.cell?_of_block (a := ⟨r, 1, none⟩) (setRow_other w6.drew w.heap.size r _ (by omega))).trans hH0) ?_
        clear hK
        try simp only [Act.put, List.setIfInBounds_toArray]
        try simp only [List.set_cons_zero, List.set_cons_succ]
        refine AnyX.move (i := 6) (v := ?_) rfl (by kernel_rfl) (by kernel_rfl) (by kernel_rfl) (by kernel_rfl) (fun _ _ _ h => h) (Or.inl ⟨by rfl, ?_⟩) ?_
        rotate_left
        · (intro wS _; go_simp; try with_reducible rfl)
        simp only [List.getElem_toArray, List.getElem_cons_succ, List.getElem_cons_zero]
        simp only [Act.put, List.setIfInBounds_toArray]
        simp only [List.set_cons_zero, List.set_cons_succ]
        refine AnyX.move (i := 7) (v := ?_) rfl (by kernel_rfl) (by kernel_rfl) (by kernel_rfl) (by kernel_rfl) (fun _ _ _ h => h) (Or.inl ⟨by rfl, ?_⟩) ?_
        rotate_left
        · (intro wS _; go_simp; try with_reducible rfl)
        simp only [List.getElem_toArray, List.getElem_cons_succ, List.getElem_cons_zero]
        simp only [Act.put, List.setIfInBounds_toArray]
        simp only [List.set_cons_zero, List.set_cons_succ]
        refine AnyX.done (by kernel_rfl) ?_ _
        go_wp2_with fail
        exact ret_agg3 (fn := Tryz.f24) (vs := [.string ⟨#[]⟩, .slice none 0 0, .slice none 0 0]) (b := w.heap.size) rfl rfl rfl rfl Tryz.underlying49 (by kernel_rfl) (cell3 (setRow_heap _ w.heap.size _ _ _ _ SX)) rfl FIN.out
      · have hq : ((xs.length : Int) == 20) = false := by simp; omega
        have BD : Below w6.heap.size w6 w6.drew := Below.drew (Below.refl _ _)
        have KD := below_over HI6.out.kb BD
        have CA := Lib.hid (rimp6_any (RdCtx.to TA.out KD hWr hlen) (HI6.out.cur.on BD) hin)
        have hH0 : w6.drew.cell? ⟨d, 1, none⟩ = some (.slice Ai xs.length ci) := y6
        go_upto_region 11 with fail
        refine AnyX.start (fun wx => wx.cell? ⟨d, 1, none⟩ = some (.slice Ai xs.length ci)) (fun k => k == 7) (by kernel_rfl) ?_
        refine AnyX.move (i := 0) (v := ?_) rfl (by kernel_rfl) (by kernel_rfl) (by kernel_rfl) (by kernel_rfl) (fun _ _ _ h => h) (Or.inl ⟨by rfl, ?_⟩) ?_
        rotate_left
        · (intro wS _; go_simp; try with_reducible rfl)
        simp only [List.getElem_toArray, List.getElem_cons_succ, List.getElem_cons_zero]
        simp only [Act.put, List.setIfInBounds_toArray]
        simp only [List.set_cons_zero, List.set_cons_succ]
        refine AnyX.take (i := 1) (v := ?_) rfl (by kernel_rfl) (by kernel_rfl) (by kernel_rfl) (by kernel_rfl) (by kernel_rfl) (fun _ _ _ h => h) hH0 (Or.inl ⟨by rfl, ?_⟩) ?_
        rotate_left
        · (intro wS hS; (try obtain hc := hS); go_simp; try with_reducible rfl)
        simp only [List.getElem_toArray, List.getElem_cons_succ, List.getElem_cons_zero]
        simp only [Act.put, List.setIfInBounds_toArray]
        simp only [List.set_cons_zero, List.set_cons_succ]
        refine AnyX.move (i := 2) (v := ?_) rfl (by kernel_rfl) (by kernel_rfl) (by kernel_rfl) (by kernel_rfl) (fun _ _ _ h => h) (Or.inl ⟨by rfl, ?_⟩) ?_
        rotate_left
        · (intro wS _; go_simp; try with_reducible rfl)
        simp only [List.getElem_toArray, List.getElem_cons_succ, List.getElem_cons_zero]
        simp only [Act.put, List.setIfInBounds_toArray]
        simp only [List.set_cons_zero, List.set_cons_succ]
        refine AnyX.go 3 (by kernel_rfl) rfl rfl (fun K hK => ?_)
        simp only [List.getElem_toArray, List.getElem_cons_succ, List.getElem_cons_zero]
        go_simp
        refine CA.out.mono ?_
        rintro e w7 ⟨x, i7, b7, rfl, z1, z2, z3, k7, h7, hres⟩
        have hsd : w6.drew.heap.size = w6.heap.size := rfl
        have hs7 := k7.size
        have Y7 : Mx d nm Ai xs.length ci none 0 0 w7 := (k7.blk hd6 (by omega)).trans HI6.out.box
        have y7 : w7.cell? ⟨d, 1, none⟩ = some (.slice Ai xs.length ci) := by
          have := Lib.cell_of_heap Y7 1
          simpa using this
        have ROW7 := HI6.out.rows.keep (w' := w7) (by omega) (fun b hb hlt => k7.blk hlt (by omega))
        have kb7 : Below W.heap.size W w7 := KD.trans ((k7.below (by omega)).mono hWr)
        simp only []
        refine hK.out _ _ (fun hoff _ => y7) ?_
        clear hK
        try simp only [Act.put, List.setIfInBounds_toArray]
        try simp only [List.set_cons_zero, List.set_cons_succ]
        refine AnyX.go 4 (by kernel_rfl) rfl rfl (fun K hK => ?_)
        simp only [List.getElem_toArray, List.getElem_cons_succ, List.getElem_cons_zero]
        go_simp
        refine hK.out _ _ (fun hoff _ => cell_alloc y7) ?_
        clear hK
        try simp only [Act.put, List.setIfInBounds_toArray]
        try simp only [List.set_cons_zero, List.set_cons_succ]
        obtain ⟨C, hC1, hown, hC4⟩ := ROW7.cells
        obtain ⟨inf, hi1', hy0, hy1, hy2⟩ := info_parts imp_info
        have hMX : xs.length + 1 ≤ maxLen := by unfold maxLen; omega
        have hwo : ∀ b, (Value.slice Ai xs.length ci).ownBlock = some b → b < w6.heap.size := fun b e => (HI6.out.rows.lt e).2
        have hAL : ∀ oo, lo ≤ (w7.alloc oo).heap.size := fun oo => by have e1 : (w7.alloc oo).heap.size = w7.heap.size + 1 := (by simp); omega
        refine AnyX.go 5 (by kernel_rfl) rfl rfl (fun K hK => ?_)
        simp only [List.getElem_toArray, List.getElem_cons_succ, List.getElem_cons_zero]
        refine wp_append_lies _ (.tmp 38) (.tmp 41) 46 rfl lo 97 inf _ 4 56 Tryz.underlying46 hi1' hy0 hy1 hy2 (by rfl) (Nat.zero_lt_succ 3) (.slice Ai xs.length ci) xs.length _ rfl (hown.alloc _) ⟨w7.heap.size, 0, none⟩ 1 1 [.string x.pkg, .int .i64 x.major, .string x.mod, .string x.asn] rfl rfl (fun q u hq => by rw [WideShapes.add_plain, Nat.zero_add, Lib.cell_of_heap (heap_alloc_new w7 _), ← hq, ← List.getElem?_toArray]) (fun u hu => by simp at hu; rcases hu with rfl | rfl | rfl | rfl <;> rfl) Nat.one_pos hMX (by omega) (hAL _) _ rfl ?_
        intro gb cap w8 hown8 hgrow hat hlt8
        have MORE := row_more (R := imR) (x := x) (k := 1) ROW7 (B := w6.heap.size) (by omega) (by omega) hwo hC1 hC4 ⟨rfl, z1, z2, z3⟩ hown8 hgrow hat (by omega) Y7 rfl
        obtain ⟨ROW9, Y9, old9, bel9, z9, e9, hs9⟩ := MORE
        refine hK.out _ _ (fun hoff _ => z9) ?_
        clear hK
        try simp only [Act.put, List.setIfInBounds_toArray]
        try simp only [List.set_cons_zero, List.set_cons_succ]
        refine AnyX.move (i := 6) (v := ?_) rfl (by kernel_rfl) (by kernel_rfl) (by kernel_rfl) (by kernel_rfl) (fun _ _ _ h => h) (Or.inl ⟨by rfl, ?_⟩) ?_
        rotate_left
        · (intro wS _; go_simp; try with_reducible rfl)
        simp only [List.getElem_toArray, List.getElem_cons_succ, List.getElem_cons_zero]
        simp only [Act.put, List.setIfInBounds_toArray]
        simp only [List.set_cons_zero, List.set_cons_succ]
        refine AnyX.go 7 (by kernel_rfl) rfl rfl (fun K hK => ?_)
        simp only [List.getElem_toArray, List.getElem_cons_succ, List.getElem_cons_zero]
        go_simp
        refine hK.out _ _ (fun hoff _ => absurd hoff (by decide)) ?_
        clear hK
        try simp only [Act.put, List.setIfInBounds_toArray]
        try simp only [List.set_cons_zero, List.set_cons_succ]
        refine AnyX.done (by kernel_rfl) ?_ _
        have hlen9 : (xs ++ [x]).length = xs.length + 1 := by simp
        have h9 := h7.other (old9 r (by omega) (by omega))
        obtain ⟨hF9, hlim⟩ := imp6_yes (xs := xs) (nm := nm) (by omega) hk hres
        have INV9 : Hid (J1 W w r d lo A S cn F nm (xs ++ [x]) (some ⟨gb, 0, none⟩) cap i7 b7 (w8.setCell ⟨d, 1, none⟩ (.slice (some ⟨gb, 0, none⟩) (xs.length + 1) cap))) := Lib.hid
          ⟨kb7.trans (bel9 _ (by omega)), by rw [hlen9]; exact Y9, ROW9, h9, by rw [HFI.out]; exact hF9, by omega, by omega⟩
        have MEAS : Hid (rmM r S.n (w8.setCell ⟨d, 1, none⟩ (.slice (some ⟨gb, 0, none⟩) (xs.length + 1) cap)) < rmM r S.n wo) := Lib.hid (by
          rw [MI.out, h9.m]
          simp only [if_true]
          split
          · rename_i e
            have := hlim e
            omega
          · omega)
        clear  k7 h7 hres ROW7 kb7 hC1 hown hC4 hi1' hy0 hy1 hy2 hown8 hgrow hat hlt8 ROW9 Y9 old9 bel9 z9 e9 hs9 h9 hlim hF9 CA Y7 y7 hwo hAL HI6 HFI KD BD
        go_wp2_with fail
        go_roundw
        case rel => exact ⟨xs ++ [x], some ⟨gb, 0, none⟩, cap, i7, b7, INV9⟩
        case measure => exact MEAS.out
    | false =>
      have L2 : Hid (∃ l2, l2 = w6.heap.size) := Lib.hid ⟨_, rfl⟩
      obtain ⟨l2, hl2⟩ := L2.out
      have hd6 : d < w6.heap.size := by omega
      have INV2 : Hid (J2 W w r d lo l2 A S cn F nm xs Ai ci [] none 0 i b w6) := Lib.hid
        ⟨HI6.out.kb, HI6.out.box, (HI6.out.rows.done (Nat.le_refl _)).move (Nat.le_refl _) fun b hb hS => ⟨by omega, rfl⟩, Row.start _ _ _, HI6.out.cur, by rw [HI6.out.fin]; exact imp6_no HI6.out.most HV.out, by simp, by omega⟩
      have hlo2 : lo ≤ l2 := by have := HI6.out.lole; omega
      have hxs := HI6.out.most
      obtain ⟨l, hl⟩ : ∃ l, l = xs := ⟨_, rfl⟩
      rw [← hl] at INV2 hxs
      clear HI6 hl L2 hl2 MI HV hlole hs6
      go_upto_region 12 with fail
      go_loopw [] (fun wr => ∃ (xs : List De) (Ad : Option Addr) (cd i b : Nat), Hid (J2 W w r d lo l2 A S cn F nm l Ai ci xs Ad cd i b wr)) (fun wr => rmM r S.n wr)
      case atStart => exact ⟨[], none, 0, i, b, INV2⟩
      case round =>
        obtain ⟨xs, Ad, cd, i, b, HI⟩ := hrel
        obtain ⟨wo, rfl⟩ : ∃ wo : World, wo = wr := ⟨_, rfl⟩
        have KE := Lib.hid (rkey6_any (RdCtx.to TA.out HI.out.kb hWr hlen) HI.out.cur)
        have hlole := HI.out.lole
        clear INV2
        go_wp2_with fail
        refine KE.out.mono ?_; rintro e w6 ⟨rfl, hb6⟩
        have hs6 := hb6.size
        have I6 : J2 W w r d lo l2 A S cn F nm l Ai ci xs Ad cd i b w6 :=
          ⟨below_over HI.out.kb hb6, (hb6.block d (by omega)).trans HI.out.box, HI.out.ims.move hs6 fun b hb hS => ⟨hS, hb6.block b hb⟩, HI.out.rows.keep hs6 (fun b _ hlt => hb6.block b hlt), HI.out.cur.on hb6, HI.out.fin, HI.out.most, by omega⟩
        obtain ⟨v, hv⟩ : ∃ v, (decide (b = 0) && decAt S i) = v := ⟨_, rfl⟩
        rw [hv]
        have HV := Lib.hid hv
        have HI6 := Lib.hid I6
        have MI := Lib.hid HI.out.cur.m
        clear hv I6 hb6 KE HI
        have hd6 : d < w6.heap.size := by omega
        have HX6 := Lib.hid ((HI6.out.kb.block w.heap.size (by omega)).trans HXW.out)
        cases v with
        | true =>
          have hbk : b = 0 ∧ decAt S i = true := by have := HV.out; simpa using this
          obtain ⟨hb0, hk⟩ := hbk
          subst hb0
          obtain ⟨hin, hdk⟩ := decAt_yes hk
          have h60 := HI6.out.most
          have HFI : Hid (F = restD S nm l i xs) := Lib.hid (by have := HI6.out.fin; rwa [badR_0] at this)
          have y6 : w6.cell? ⟨d, 2, none⟩ = some (.slice Ad xs.length cd) := by
            have := Lib.cell_of_heap HI6.out.box 2
            simpa using this
          have c1 := HI6.out.cur.c1
          have hlm : ¬ ((xs.length : Int) > 9223372036854775807) := by omega
          by_cases h60' : xs.length = 60
          · have hq : ((xs.length : Int) == 60) = true := by simp [h60']
            have FIN : Hid (RmOut w (parM s) (.returned (.tuple #[.agg #[.string ⟨#[]⟩, .slice none 0 0, .slice none 0 0], .int .i64 3, .int .i64 i])) (w6.drew.setRow w.heap.size #[.string ⟨#[]⟩, .slice none 0 0, .slice none 0 0])) := Lib.hid
              ⟨setRow_below (below_over (below_over HBW.out HI6.out.kb) (Below.drew (Below.refl _ _))) (Nat.le_refl _) _, .inr ⟨3, i, by rw [HPF.out, HFI.out]; exact rest_err (by omega) hin (oneD_many hin hdk (by omega)), by decide, rfl⟩⟩
            have SX := HX6.out
            clear HI6
            go_upto_region 14 with fail
            refine AnyX.start (fun wx => wx.cell? ⟨r, 1, none⟩ = some (.int .i64 i)) (fun _ => false) (by kernel_rfl) ?_
            have hH0 : w6.drew.cell? ⟨r, 1, none⟩ = some (.int .i64 i) := c1
            refine AnyX.move (i := 0) (v := ?_) rfl (by kernel_rfl) (by kernel_rfl) (by kernel_rfl) (by kernel_rfl) (fun _ _ _ h => h) (Or.inl ⟨by rfl, ?_⟩) ?_
            rotate_left
            · (intro wS _; go_simp; try with_reducible rfl)
            simp only [List.getElem_toArray, List.getElem_cons_succ, List.getElem_cons_zero]
            simp only [Act.put, List.setIfInBounds_toArray]
            simp only [List.set_cons_zero, List.set_cons_succ]
            refine AnyX.move (i := 1) (v := ?_) rfl (by kernel_rfl) (by kernel_rfl) (by kernel_rfl) (by kernel_rfl) (fun _ _ _ h => h) (Or.inl ⟨by rfl, ?_⟩) ?_
            rotate_left
            · (intro wS _; go_simp; try with_reducible rfl)
            simp only [List.getElem_toArray, List.getElem_cons_succ, List.getElem_cons_zero]
            simp only [Act.put, List.setIfInBounds_toArray]
            simp only [List.set_cons_zero, List.set_cons_succ]
            refine AnyX.move (i := 2) (v := ?_) rfl (by kernel_rfl) (by kernel_rfl) (by kernel_rfl) (by kernel_rfl) (fun _ _ _ h => h) (Or.inl ⟨by rfl, ?_⟩) ?_
            rotate_left
            · (intro wS _; go_simp; try with_reducible rfl)
            simp only [List.getElem_toArray, List.getElem_cons_succ, List.getElem_cons_zero]
            simp only [Act.put, List.setIfInBounds_toArray]
            simp only [List.set_cons_zero, List.set_cons_succ]
            refine AnyX.move (i := 3) (v := ?_) rfl (by kernel_rfl) (by kernel_rfl) (by kernel_rfl) (by kernel_rfl) (fun _ _ _ h => h) (Or.inl ⟨by rfl, ?_⟩) ?_
            rotate_left
            · (intro wS _; go_simp; try with_reducible rfl)
            simp only [List.getElem_toArray, List.getElem_cons_succ, List.getElem_cons_zero]
            simp only [Act.put, List.setIfInBounds_toArray]
            simp only [List.set_cons_zero, List.set_cons_succ]
            refine AnyX.take (i := 4) (v := ?_) rfl (by kernel_rfl) (by kernel_rfl) (by kernel_rfl) (by kernel_rfl) (by kernel_rfl) (fun _ _ _ h => h) hH0 (Or.inl ⟨by rfl, ?_⟩) ?_
            rotate_left
            · (intro wS hS; (try obtain hc := hS); go_simp; try with_reducible rfl)
            simp only [List.getElem_toArray, List.getElem_cons_succ, List.getElem_cons_zero]
            simp only [Act.put, List.setIfInBounds_toArray]
            simp only [List.set_cons_zero, List.set_cons_succ]
            refine AnyX.go 5 (by kernel_rfl) rfl rfl (fun K hK => ?_)
            simp only [List.getElem_toArray, List.getElem_cons_succ, List.getElem_cons_zero]
            refine wp_store_row 49 (.tmp 2) (.tmp 50) rfl w.heap.size #[.string ⟨#[]⟩, .slice none 0 0, .slice none 0 0] rfl rfl _ _ SX modSize rfl modOne ?_
            refine hK.out _ _ (fun hoff _ => (World.cell?_of_block (a := ⟨r, 1, none⟩) (setRow_other w6.drew w.heap.size r _ (by omega))).trans hH0) ?_
            clear hK
            try simp only [Act.put, List.setIfInBounds_toArray]
            try simp only [List.set_cons_zero, List.set_cons_succ]
            refine AnyX.move (i := 6) (v := ?_) rfl (by kernel_rfl) (by kernel_rfl) (by kernel_rfl) (by kernel_rfl) (fun _ _ _ h => h) (Or.inl ⟨by rfl, ?_⟩) ?_
            rotate_left
            · (intro wS _; go_simp; try with_reducible rfl)
            simp only [List.getElem_toArray, List.getElem_cons_succ, List.getElem_cons_zero]
            simp only [Act.put, List.setIfInBounds_toArray]
            simp only [List.set_cons_zero, List.set_cons_succ]
            refine AnyX.move (i := 7) (v := ?_) rfl (by kernel_rfl) (by kernel_rfl) (by kernel_rfl) (by kernel_rfl) (fun _ _ _ h => h) (Or.inl ⟨by rfl, ?_⟩) ?_
            rotate_left
            · (intro wS _; go_simp; try with_reducible rfl)
            simp only [List.getElem_toArray, List.getElem_cons_succ, List.getElem_cons_zero]
            simp only [Act.put, List.setIfInBounds_toArray]
            simp only [List.set_cons_zero, List.set_cons_succ]
            refine AnyX.done (by kernel_rfl) ?_ _
            go_wp2_with fail
            exact ret_agg3 (fn := Tryz.f24) (vs := [.string ⟨#[]⟩, .slice none 0 0, .slice none 0 0]) (b := w.heap.size) rfl rfl rfl rfl Tryz.underlying49 (by kernel_rfl) (cell3 (setRow_heap _ w.heap.size _ _ _ _ SX)) rfl FIN.out
          · have hq : ((xs.length : Int) == 60) = false := by simp; omega
            have BD : Below w6.heap.size w6 w6.drew := Below.drew (Below.refl _ _)
            have KD := below_over HI6.out.kb BD
            have CA := Lib.hid (rdecl6_any (RdCtx.to TA.out KD hWr hlen) (HI6.out.cur.on BD) hin hdk)
            have hH0 : w6.drew.cell? ⟨d, 2, none⟩ = some (.slice Ad xs.length cd) := y6
            go_upto_region 15 with fail
            refine AnyX.start (fun wx => wx.cell? ⟨d, 2, none⟩ = some (.slice Ad xs.length cd)) (fun k => k == 7) (by kernel_rfl) ?_
            refine AnyX.move (i := 0) (v := ?_) rfl (by kernel_rfl) (by kernel_rfl) (by kernel_rfl) (by kernel_rfl) (fun _ _ _ h => h) (Or.inl ⟨by rfl, ?_⟩) ?_
            rotate_left
            · (intro wS _; go_simp; try with_reducible rfl)
            simp only [List.getElem_toArray, List.getElem_cons_succ, List.getElem_cons_zero]
            simp only [Act.put, List.setIfInBounds_toArray]
            simp only [List.set_cons_zero, List.set_cons_succ]
            refine AnyX.take (i := 1) (v := ?_) rfl (by kernel_rfl) (by kernel_rfl) (by kernel_rfl) (by kernel_rfl) (by kernel_rfl) (fun _ _ _ h => h) hH0 (Or.inl ⟨by rfl, ?_⟩) ?_
            rotate_left
            · (intro wS hS; (try obtain hc := hS); go_simp; try with_reducible rfl)
            simp only [List.getElem_toArray, List.getElem_cons_succ, List.getElem_cons_zero]
            simp only [Act.put, List.setIfInBounds_toArray]
            simp only [List.set_cons_zero, List.set_cons_succ]
            refine AnyX.move (i := 2) (v := ?_) rfl (by kernel_rfl) (by kernel_rfl) (by kernel_rfl) (by kernel_rfl) (fun _ _ _ h => h) (Or.inl ⟨by rfl, ?_⟩) ?_
            rotate_left
            · (intro wS _; go_simp; try with_reducible rfl)
            simp only [List.getElem_toArray, List.getElem_cons_succ, List.getElem_cons_zero]
            simp only [Act.put, List.setIfInBounds_toArray]
            simp only [List.set_cons_zero, List.set_cons_succ]
            refine AnyX.go 3 (by kernel_rfl) rfl rfl (fun K hK => ?_)
            simp only [List.getElem_toArray, List.getElem_cons_succ, List.getElem_cons_zero]
            go_simp
            refine CA.out.mono ?_
            rintro e w7 ⟨l7, x, i7, b7, he7, z7, hT7, k7, h7, hres⟩
            obtain ⟨t, ht⟩ : ∃ t, t = x.typ := ⟨_, rfl⟩
            rw [← ht] at hT7
            have HTY := Lib.hid ht
            clear ht
            obtain ⟨An, cA, As, cS, rfl, -⟩ := hT7.parts
            have he7' : e = .returned (.agg #[.int .i64 x.kind, .string x.name, .int .i64 t.kind, .string t.pkg, .int .i64 t.major, .string t.mod, .string t.name, .slice An t.names.length cA, .slice As t.subs.length cS]) := he7
            subst he7'
            have hsd : w6.drew.heap.size = w6.heap.size := rfl
            have hs7 := k7.size
            have Y7 : Mx d nm Ai l.length ci Ad xs.length cd w7 := (k7.blk hd6 (by omega)).trans HI6.out.box
            have y7 : w7.cell? ⟨d, 2, none⟩ = some (.slice Ad xs.length cd) := by
              have := Lib.cell_of_heap Y7 2
              simpa using this
            have ROW7 := HI6.out.rows.keep (w' := w7) (by omega) (fun b hb hlt => k7.blk hlt (by omega))
            have kb7 : Below W.heap.size W w7 := KD.trans ((k7.below (by omega)).mono hWr)
            have IMS7 : RowIn imR (strike (fun b => b < lo ∨ l2 ≤ b) w7) Ai l := HI6.out.ims.move (by omega) fun b hb hS => ⟨hS, k7.blk hb (fun e => hS (.inl (by omega)))⟩
            simp only []
            refine hK.out _ _ (fun hoff _ => y7) ?_
            clear hK
            try simp only [Act.put, List.setIfInBounds_toArray]
            try simp only [List.set_cons_zero, List.set_cons_succ]
            refine AnyX.go 4 (by kernel_rfl) rfl rfl (fun K hK => ?_)
            simp only [List.getElem_toArray, List.getElem_cons_succ, List.getElem_cons_zero]
            go_simp
            refine hK.out _ _ (fun hoff _ => cell_alloc y7) ?_
            clear hK
            try simp only [Act.put, List.setIfInBounds_toArray]
            try simp only [List.set_cons_zero, List.set_cons_succ]
            obtain ⟨C, hC1, hown, hC4⟩ := ROW7.cells
            obtain ⟨inf, hi1', hy0, hy1, hy2⟩ := info_parts dec_info
            have hMX : xs.length + 1 ≤ maxLen := by unfold maxLen; omega
            have hwo : ∀ b, (Value.slice Ad xs.length cd).ownBlock = some b → b < w6.heap.size := fun b e => (HI6.out.rows.lt e).2
            have hAL : ∀ oo, l2 ≤ (w7.alloc oo).heap.size := fun oo => by have e1 : (w7.alloc oo).heap.size = w7.heap.size + 1 := (by simp); omega
            refine AnyX.go 5 (by kernel_rfl) rfl rfl (fun K hK => ?_)
            simp only [List.getElem_toArray, List.getElem_cons_succ, List.getElem_cons_zero]
            refine wp_append_lies _ (.tmp 56) (.tmp 59) 47 rfl l2 84 inf _ 9 136 Tryz.underlying47 hi1' hy0 hy1 hy2 (by rfl) (Nat.zero_lt_succ 8) (.slice Ad xs.length cd) xs.length _ rfl (hown.alloc _) ⟨w7.heap.size, 0, none⟩ 1 1 [.int .i64 x.kind, .string x.name, .int .i64 t.kind, .string t.pkg, .int .i64 t.major, .string t.mod, .string t.name, .slice An t.names.length cA, .slice As t.subs.length cS] rfl rfl (fun q u hq => by rw [WideShapes.add_plain, Nat.zero_add, Lib.cell_of_heap (heap_alloc_new w7 _), ← hq, ← List.getElem?_toArray]) (fun u hu => by simp at hu; rcases hu with rfl | rfl | rfl | rfl | rfl | rfl | rfl | rfl | rfl <;> rfl) Nat.one_pos hMX (by omega) (hAL _) _ rfl ?_
            intro gb cap w8 hown8 hgrow hat hlt8
            have MORE := row_more (R := deR) (x := x) (k := 2) ROW7 (B := w6.heap.size) (by omega) (by omega) hwo hC1 hC4 ⟨z7, _, rfl, by rw [← HTY.out]; exact hT7⟩ hown8 hgrow hat (by omega) Y7 rfl
            obtain ⟨ROW9, Y9, old9, bel9, z9, e9, hs9⟩ := MORE
            refine hK.out _ _ (fun hoff _ => z9) ?_
            clear hK
            try simp only [Act.put, List.setIfInBounds_toArray]
            try simp only [List.set_cons_zero, List.set_cons_succ]
            refine AnyX.move (i := 6) (v := ?_) rfl (by kernel_rfl) (by kernel_rfl) (by kernel_rfl) (by kernel_rfl) (fun _ _ _ h => h) (Or.inl ⟨by rfl, ?_⟩) ?_
            rotate_left
            · (intro wS _; go_simp; try with_reducible rfl)
            simp only [List.getElem_toArray, List.getElem_cons_succ, List.getElem_cons_zero]
            simp only [Act.put, List.setIfInBounds_toArray]
            simp only [List.set_cons_zero, List.set_cons_succ]
            refine AnyX.go 7 (by kernel_rfl) rfl rfl (fun K hK => ?_)
            simp only [List.getElem_toArray, List.getElem_cons_succ, List.getElem_cons_zero]
            go_simp
            refine hK.out _ _ (fun hoff _ => absurd hoff (by decide)) ?_
            clear hK
            try simp only [Act.put, List.setIfInBounds_toArray]
            try simp only [List.set_cons_zero, List.set_cons_succ]
            refine AnyX.done (by kernel_rfl) ?_ _
            have hlen9 : (xs ++ [x]).length = xs.length + 1 := by simp
            have h9 := h7.other (old9 r (by omega) (by omega))
            obtain ⟨hF9, hlim⟩ := rest_yes (xs := xs) (s := nm) (l := l) (by omega) hin (hres.trans (oneD_at hin hdk (by omega)).symm)
            have INV9 : Hid (J2 W w r d lo l2 A S cn F nm l Ai ci (xs ++ [x]) (some ⟨gb, 0, none⟩) cap i7 b7 (w8.setCell ⟨d, 2, none⟩ (.slice (some ⟨gb, 0, none⟩) (xs.length + 1) cap))) := Lib.hid
              ⟨kb7.trans (bel9 _ (by omega)), by rw [hlen9]; exact Y9, IMS7.move hs9 fun b hb hS => ⟨hS, old9 b (by omega) (by omega)⟩, ROW9, h9, by rw [HFI.out]; exact hF9, by omega, by omega⟩
            have MEAS : Hid (rmM r S.n (w8.setCell ⟨d, 2, none⟩ (.slice (some ⟨gb, 0, none⟩) (xs.length + 1) cap)) < rmM r S.n wo) := Lib.hid (by
              rw [MI.out, h9.m]
              simp only [if_true]
              split
              · rename_i e
                have := hlim e
                omega
              · omega)
            clear hT7 IMS7 HTY k7 h7 hres ROW7 kb7 hC1 hown hC4 hi1' hy0 hy1 hy2 hown8 hgrow hat hlt8 ROW9 Y9 old9 bel9 z9 e9 hs9 h9 hlim hF9 CA Y7 y7 hwo hAL HI6 HFI KD BD
            go_wp2_with fail
            go_roundw
            case rel => exact ⟨xs ++ [x], some ⟨gb, 0, none⟩, cap, i7, b7, INV9⟩
            case measure => exact MEAS.out
        | false =>
          have v1 := HI6.out.cur.c1
          have v2 := HI6.out.cur.c2
          have SX := HX6.out
          by_cases hb : b = 0
          · subst hb
            simp at v2
            by_cases hin : i < S.n
            · have hdn := decAt_no KY.out (by have := HV.out; simpa using this) hin
              have f2 := HI6.out.cur.f 2
              obtain ⟨w7, hw7⟩ : ∃ w7, w7 = w6.setCell ⟨r, 2, none⟩ (.int .i64 2) := ⟨_, rfl⟩
              have C7 : Rm r A S.n cn i 2 w7 := by rw [hw7]; exact HI6.out.cur.bad 2
              have B7 : Below W.heap.size W w7 := by rw [hw7]; exact below_put HI6.out.kb (by show W.heap.size ≤ r; omega) _
              have X7 := (B7.block w.heap.size (by omega)).trans HXW.out
              have FIN : Hid (RmOut w (parM s) (.returned (.tuple #[.agg #[.string ⟨#[]⟩, .slice none 0 0, .slice none 0 0], .int .i64 2, .int .i64 i])) (w7.drew.setRow w.heap.size #[.string ⟨#[]⟩, .slice none 0 0, .slice none 0 0])) := Lib.hid
                ⟨setRow_below (below_over (below_over HBW.out B7) (Below.drew (Below.refl _ _))) (Nat.le_refl _) _, .inr ⟨2, i, by rw [HPF.out]; have := HI6.out.fin; rw [badR_0] at this; rw [this]; exact rest_err HI6.out.most hin (oneD_none hdn), by decide, rfl⟩⟩
              have HW7 := Lib.hid hw7
              have HV1 := Lib.hid C7.c1
              have HV2 := Lib.hid C7.c2
              have HX7 := Lib.hid X7
              clear hw7 C7 B7 X7 HI6 HX6 hdn SX
              go_upto_region 18 with fail
              rw [← HW7.out]
              clear v1 v2 f2 HW7
              have v1 := HV1.out
              have v2 := HV2.out
              simp at v2
              have SX := HX7.out
              go_upto_region 19 with fail
              refine AnyX.start (fun wx => wx.cell? ⟨r, 2, none⟩ = some (.int .i64 2) ∧ wx.cell? ⟨r, 1, none⟩ = some (.int .i64 i)) (fun _ => false) (by kernel_rfl) ?_
              have hH0 : w7.drew.cell? ⟨r, 2, none⟩ = some (.int .i64 2) ∧ w7.drew.cell? ⟨r, 1, none⟩ = some (.int .i64 i) := ⟨v2, v1⟩
              refine AnyX.move (i := 0) (v := ?_) rfl (by kernel_rfl) (by kernel_rfl) (by kernel_rfl) (by kernel_rfl) (fun _ _ _ h => h) (Or.inl ⟨by rfl, ?_⟩) ?_
              rotate_left
              · (intro wS _; go_simp; try with_reducible rfl)
              simp only [List.getElem_toArray, List.getElem_cons_succ, List.getElem_cons_zero]
              simp only [Act.put, List.setIfInBounds_toArray]
              simp only [List.set_cons_zero, List.set_cons_succ]
              refine AnyX.move (i := 1) (v := ?_) rfl (by kernel_rfl) (by kernel_rfl) (by kernel_rfl) (by kernel_rfl) (fun _ _ _ h => h) (Or.inl ⟨by rfl, ?_⟩) ?_
              rotate_left
              · (intro wS _; go_simp; try with_reducible rfl)
              simp only [List.getElem_toArray, List.getElem_cons_succ, List.getElem_cons_zero]
              simp only [Act.put, List.setIfInBounds_toArray]
              simp only [List.set_cons_zero, List.set_cons_succ]
              refine AnyX.move (i := 2) (v := ?_) rfl (by kernel_rfl) (by kernel_rfl) (by kernel_rfl) (by kernel_rfl) (fun _ _ _ h => h) (Or.inl ⟨by rfl, ?_⟩) ?_
              rotate_left
              · (intro wS _; go_simp; try with_reducible rfl)
              simp only [List.getElem_toArray, List.getElem_cons_succ, List.getElem_cons_zero]
              simp only [Act.put, List.setIfInBounds_toArray]
              simp only [List.set_cons_zero, List.set_cons_succ]
              refine AnyX.move (i := 3) (v := ?_) rfl (by kernel_rfl) (by kernel_rfl) (by kernel_rfl) (by kernel_rfl) (fun _ _ _ h => h) (Or.inl ⟨by rfl, ?_⟩) ?_
              rotate_left
              · (intro wS _; go_simp; try with_reducible rfl)
              simp only [List.getElem_toArray, List.getElem_cons_succ, List.getElem_cons_zero]
              simp only [Act.put, List.setIfInBounds_toArray]
              simp only [List.set_cons_zero, List.set_cons_succ]
              refine AnyX.take (i := 4) (v := ?_) rfl (by kernel_rfl) (by kernel_rfl) (by kernel_rfl) (by kernel_rfl) (by kernel_rfl) (fun _ _ _ h => h) hH0 (Or.inl ⟨by rfl, ?_⟩) ?_
              rotate_left
              · (intro wS hS; (try obtain ⟨hS0, hS1⟩ := hS); go_simp; try with_reducible rfl)
              simp only [List.getElem_toArray, List.getElem_cons_succ, List.getElem_cons_zero]
              simp only [Act.put, List.setIfInBounds_toArray]
              simp only [List.set_cons_zero, List.set_cons_succ]
              refine AnyX.move (i := 5) (v := ?_) rfl (by kernel_rfl) (by kernel_rfl) (by kernel_rfl) (by kernel_rfl) (fun _ _ _ h => h) (Or.inl ⟨by rfl, ?_⟩) ?_
              rotate_left
              · (intro wS _; go_simp; try with_reducible rfl)
              simp only [List.getElem_toArray, List.getElem_cons_succ, List.getElem_cons_zero]
              simp only [Act.put, List.setIfInBounds_toArray]
              simp only [List.set_cons_zero, List.set_cons_succ]
              refine AnyX.move (i := 6) (v := ?_) rfl (by kernel_rfl) (by kernel_rfl) (by kernel_rfl) (by kernel_rfl) (fun _ _ _ h => h) (Or.inl ⟨by rfl, ?_⟩) ?_
              rotate_left
              · (intro wS _; go_simp; try with_reducible rfl)
              simp only [List.getElem_toArray, List.getElem_cons_succ, List.getElem_cons_zero]
              simp only [Act.put, List.setIfInBounds_toArray]
              simp only [List.set_cons_zero, List.set_cons_succ]
              refine AnyX.move (i := 7) (v := ?_) rfl (by kernel_rfl) (by kernel_rfl) (by kernel_rfl) (by kernel_rfl) (fun _ _ _ h => h) (Or.inl ⟨by rfl, ?_⟩) ?_
              rotate_left
              · (intro wS _; go_simp; try with_reducible rfl)
              simp only [List.getElem_toArray, List.getElem_cons_succ, List.getElem_cons_zero]
              simp only [Act.put, List.setIfInBounds_toArray]
              simp only [List.set_cons_zero, List.set_cons_succ]
              refine AnyX.take (i := 8) (v := ?_) rfl (by kernel_rfl) (by kernel_rfl) (by kernel_rfl) (by kernel_rfl) (by kernel_rfl) (fun _ _ _ h => h) hH0 (Or.inl ⟨by rfl, ?_⟩) ?_
              rotate_left
              · (intro wS hS; (try obtain ⟨hS0, hS1⟩ := hS); go_simp; try with_reducible rfl)
              simp only [List.getElem_toArray, List.getElem_cons_succ, List.getElem_cons_zero]
              simp only [Act.put, List.setIfInBounds_toArray]
              simp only [List.set_cons_zero, List.set_cons_succ]
              refine AnyX.go 9 (by kernel_rfl) rfl rfl (fun K hK => ?_)
              simp only [List.getElem_toArray, List.getElem_cons_succ, List.getElem_cons_zero]
              refine wp_store_row 49 (.tmp 2) (.tmp 84) rfl w.heap.size #[.string ⟨#[]⟩, .slice none 0 0, .slice none 0 0] rfl rfl _ _ SX modSize rfl modOne ?_
              refine hK.out _ _ (fun hoff _ => ⟨(World.cell?_of_block (a := ⟨r, 2, none⟩) (setRow_other w7.drew w.heap.size r _ (by omega))).trans hH0.1, (World.cell?_of_block (a := ⟨r, 1, none⟩) (setRow_other w7.drew w.heap.size r _ (by omega))).trans hH0.2⟩) ?_
              clear hK
              try simp only [Act.put, List.setIfInBounds_toArray]
              try simp only [List.set_cons_zero, List.set_cons_succ]
              refine AnyX.move (i := 10) (v := ?_) rfl (by kernel_rfl) (by kernel_rfl) (by kernel_rfl) (by kernel_rfl) (fun _ _ _ h => h) (Or.inl ⟨by rfl, ?_⟩) ?_
              rotate_left
              · (intro wS _; go_simp; try with_reducible rfl)
              simp only [List.getElem_toArray, List.getElem_cons_succ, List.getElem_cons_zero]
              simp only [Act.put, List.setIfInBounds_toArray]
              simp only [List.set_cons_zero, List.set_cons_succ]
              refine AnyX.move (i := 11) (v := ?_) rfl (by kernel_rfl) (by kernel_rfl) (by kernel_rfl) (by kernel_rfl) (fun _ _ _ h => h) (Or.inl ⟨by rfl, ?_⟩) ?_
              rotate_left
              · (intro wS _; go_simp; try with_reducible rfl)
              simp only [List.getElem_toArray, List.getElem_cons_succ, List.getElem_cons_zero]
              simp only [Act.put, List.setIfInBounds_toArray]
              simp only [List.set_cons_zero, List.set_cons_succ]
              refine AnyX.done (by kernel_rfl) ?_ _
              go_wp2_with fail
              exact ret_agg3 (fn := Tryz.f24) (vs := [.string ⟨#[]⟩, .slice none 0 0, .slice none 0 0]) (b := w.heap.size) rfl rfl rfl rfl Tryz.underlying49 (by kernel_rfl) (cell3 (setRow_heap _ w.heap.size _ _ _ _ SX)) rfl FIN.out
            · have hin' : ¬ (i : Int) < S.n := by omega
              have x0 := Lib.cell_of_heap HI6.out.box 0
              have x1 := Lib.cell_of_heap HI6.out.box 1
              have x2 := Lib.cell_of_heap HI6.out.box 2
              simp at x0 x1 x2
              have mv : ∀ b, b ≠ w.heap.size → (w6.setRow w.heap.size #[.string nm, .slice Ai l.length ci, .slice Ad xs.length cd]).heap[b]? = w6.heap[b]? := fun b hb => setRow_other w6 w.heap.size b _ hb
              have FIN : Hid (RmOut w (parM s) (.returned (.tuple #[.agg #[.string nm, .slice Ai l.length ci, .slice Ad xs.length cd], .int .i64 0, .int .i64 (-1)])) (w6.setRow w.heap.size #[.string nm, .slice Ai l.length ci, .slice Ad xs.length cd])) := Lib.hid
                ⟨setRow_below (below_over HBW.out HI6.out.kb) (Nat.le_refl _) _, .inl ⟨_, ⟨nm, l, xs⟩, i, by rw [HPF.out, HI6.out.fin, rest_no (.inl HI6.out.most) (by simp [hin]), badR_0], rfl,
                  ⟨Ai, ci, Ad, cd, rfl, z4, by show l.length ≤ _; omega, by have := HI6.out.most; show xs.length ≤ _; omega,
                    (HI6.out.ims.move (S' := fun b => b < lo) (by simp) fun b hb hS => ⟨fun e => hS (.inl e), mv b (fun e => hS (.inl (by omega)))⟩).free,
                    ((HI6.out.rows.done (Nat.le_refl _)).move (S' := fun b => b < l2) (by simp) fun b hb hS => ⟨hS, mv b (by omega)⟩).free⟩⟩⟩
              clear HI6 mv
              go_upto_region 20 with fail
              go_wp2_with (first | ((with_reducible refine wpList_putRow 49 (w.heap.size) #[.string nm, .slice Ai l.length ci, .slice Ad xs.length cd] _ _ SX ?_ ?_ ?_ ?_ ?_ ?_); exact modSize; rfl; exact modOne; (focus (first | (go_simp; done) | rfl)); (focus (first | (go_simp; done) | rfl))))
              exact ret_agg3 (fn := Tryz.f24) (vs := [.string nm, .slice Ai l.length ci, .slice Ad xs.length cd]) (b := w.heap.size) rfl rfl rfl rfl Tryz.underlying49 (by kernel_rfl) (cell3 (setRow_heap _ w.heap.size _ _ _ _ HX6.out)) rfl FIN.out
          · have b1 : (((b : Nat) : Int) == 0) = false := by simp; omega
            have b2 : (((b : Nat) : Int) != 0) = true := by simp; omega
            have FIN : Hid (RmOut w (parM s) (.returned (.tuple #[.agg #[.string ⟨#[]⟩, .slice none 0 0, .slice none 0 0], .int .i64 b, .int .i64 i])) (w6.drew.setRow w.heap.size #[.string ⟨#[]⟩, .slice none 0 0, .slice none 0 0])) := Lib.hid
              ⟨setRow_below (below_over (below_over HBW.out HI6.out.kb) (Below.drew (Below.refl _ _))) (Nat.le_refl _) _, .inr ⟨b, i, by rw [HPF.out, HI6.out.fin, badR_ne _ _ hb], hb, rfl⟩⟩
            clear HI6 HX6 hb
            go_upto_region 19 with fail
            refine AnyX.start (fun wx => wx.cell? ⟨r, 2, none⟩ = some (.int .i64 b) ∧ wx.cell? ⟨r, 1, none⟩ = some (.int .i64 i)) (fun _ => false) (by kernel_rfl) ?_
            have hH0 : w6.drew.cell? ⟨r, 2, none⟩ = some (.int .i64 b) ∧ w6.drew.cell? ⟨r, 1, none⟩ = some (.int .i64 i) := ⟨v2, v1⟩
            refine AnyX.move (i := 0) (v := ?_) rfl (by kernel_rfl) (by kernel_rfl) (by kernel_rfl) (by kernel_rfl) (fun _ _ _ h => h) (Or.inl ⟨by rfl, ?_⟩) ?_
            rotate_left
            · (intro wS _; go_simp; try with_reducible rfl)
            simp only [List.getElem_toArray, List.getElem_cons_succ, List.getElem_cons_zero]
            simp only [Act.put, List.setIfInBounds_toArray]
            simp only [List.set_cons_zero, List.set_cons_succ]
            refine AnyX.move (i := 1) (v := ?_) rfl (by kernel_rfl) (by kernel_rfl) (by kernel_rfl) (by kernel_rfl) (fun _ _ _ h => h) (Or.inl ⟨by rfl, ?_⟩) ?_
            rotate_left
            · (intro wS _; go_simp; try with_reducible rfl)
            simp only [List.getElem_toArray, List.getElem_cons_succ, List.getElem_cons_zero]
            simp only [Act.put, List.setIfInBounds_toArray]
            simp only [List.set_cons_zero, List.set_cons_succ]
            refine AnyX.move (i := 2) (v := ?_) rfl (by kernel_rfl) (by kernel_rfl) (by kernel_rfl) (by kernel_rfl) (fun _ _ _ h => h) (Or.inl ⟨by rfl, ?_⟩) ?_
            rotate_left
            · (intro wS _; go_simp; try with_reducible rfl)
            simp only [List.getElem_toArray, List.getElem_cons_succ, List.getElem_cons_zero]
            simp only [Act.put, List.setIfInBounds_toArray]
            simp only [List.set_cons_zero, List.set_cons_succ]
            refine AnyX.move (i := 3) (v := ?_) rfl (by kernel_rfl) (by kernel_rfl) (by kernel_rfl) (by kernel_rfl) (fun _ _ _ h => h) (Or.inl ⟨by rfl, ?_⟩) ?_
            rotate_left
            · (intro wS _; go_simp; try with_reducible rfl)
            simp only [List.getElem_toArray, List.getElem_cons_succ, List.getElem_cons_zero]
            simp only [Act.put, List.setIfInBounds_toArray]
            simp only [List.set_cons_zero, List.set_cons_succ]
            refine AnyX.take (i := 4) (v := ?_) rfl (by kernel_rfl) (by kernel_rfl) (by kernel_rfl) (by kernel_rfl) (by kernel_rfl) (fun _ _ _ h => h) hH0 (Or.inl ⟨by rfl, ?_⟩) ?_
            rotate_left
            · (intro wS hS; (try obtain ⟨hS0, hS1⟩ := hS); go_simp; try with_reducible rfl)
            simp only [List.getElem_toArray, List.getElem_cons_succ, List.getElem_cons_zero]
            simp only [Act.put, List.setIfInBounds_toArray]
            simp only [List.set_cons_zero, List.set_cons_succ]
            refine AnyX.move (i := 5) (v := ?_) rfl (by kernel_rfl) (by kernel_rfl) (by kernel_rfl) (by kernel_rfl) (fun _ _ _ h => h) (Or.inl ⟨by rfl, ?_⟩) ?_
            rotate_left
            · (intro wS _; go_simp; try with_reducible rfl)
            simp only [List.getElem_toArray, List.getElem_cons_succ, List.getElem_cons_zero]
            simp only [Act.put, List.setIfInBounds_toArray]
            simp only [List.set_cons_zero, List.set_cons_succ]
            refine AnyX.move (i := 6) (v := ?_) rfl (by kernel_rfl) (by kernel_rfl) (by kernel_rfl) (by kernel_rfl) (fun _ _ _ h => h) (Or.inl ⟨by rfl, ?_⟩) ?_
            rotate_left
            · (intro wS _; go_simp; try with_reducible rfl)
            simp only [List.getElem_toArray, List.getElem_cons_succ, List.getElem_cons_zero]
            simp only [Act.put, List.setIfInBounds_toArray]
            simp only [List.set_cons_zero, List.set_cons_succ]
            refine AnyX.move (i := 7) (v := ?_) rfl (by kernel_rfl) (by kernel_rfl) (by kernel_rfl) (by kernel_rfl) (fun _ _ _ h => h) (Or.inl ⟨by rfl, ?_⟩) ?_
            rotate_left
            · (intro wS _; go_simp; try with_reducible rfl)
            simp only [List.getElem_toArray, List.getElem_cons_succ, List.getElem_cons_zero]
            simp only [Act.put, List.setIfInBounds_toArray]
            simp only [List.set_cons_zero, List.set_cons_succ]
            refine AnyX.take (i := 8) (v := ?_) rfl (by kernel_rfl) (by kernel_rfl) (by kernel_rfl) (by kernel_rfl) (by kernel_rfl) (fun _ _ _ h => h) hH0 (Or.inl ⟨by rfl, ?_⟩) ?_
            rotate_left
            · (intro wS hS; (try obtain ⟨hS0, hS1⟩ := hS); go_simp; try with_reducible rfl)
            simp only [List.getElem_toArray, List.getElem_cons_succ, List.getElem_cons_zero]
            simp only [Act.put, List.setIfInBounds_toArray]
            simp only [List.set_cons_zero, List.set_cons_succ]
            refine AnyX.go 9 (by kernel_rfl) rfl rfl (fun K hK => ?_)
            simp only [List.getElem_toArray, List.getElem_cons_succ, List.getElem_cons_zero]
            refine wp_store_row 49 (.tmp 2) (.tmp 84) rfl w.heap.size #[.string ⟨#[]⟩, .slice none 0 0, .slice none 0 0] rfl rfl _ _ SX modSize rfl modOne ?_
            refine hK.out _ _ (fun hoff _ => ⟨(World.cell?_of_block (a := ⟨r, 2, none⟩) (setRow_other w6.drew w.heap.size r _ (by omega))).trans hH0.1, (World.cell?_of_block (a := ⟨r, 1, none⟩) (setRow_other w6.drew w.heap.size r _ (by omega))).trans hH0.2⟩) ?_
            clear hK
            try simp only [Act.put, List.setIfInBounds_toArray]
            try simp only [List.set_cons_zero, List.set_cons_succ]
            refine AnyX.move (i := 10) (v := ?_) rfl (by kernel_rfl) (by kernel_rfl) (by kernel_rfl) (by kernel_rfl) (fun _ _ _ h => h) (Or.inl ⟨by rfl, ?_⟩) ?_
            rotate_left
            · (intro wS _; go_simp; try with_reducible rfl)
            simp only [List.getElem_toArray, List.getElem_cons_succ, List.getElem_cons_zero]
            simp only [Act.put, List.setIfInBounds_toArray]
            simp only [List.set_cons_zero, List.set_cons_succ]
            refine AnyX.move (i := 11) (v := ?_) rfl (by kernel_rfl) (by kernel_rfl) (by kernel_rfl) (by kernel_rfl) (fun _ _ _ h => h) (Or.inl ⟨by rfl, ?_⟩) ?_
            rotate_left
            · (intro wS _; go_simp; try with_reducible rfl)
            simp only [List.getElem_toArray, List.getElem_cons_succ, List.getElem_cons_zero]
            simp only [Act.put, List.setIfInBounds_toArray]
            simp only [List.set_cons_zero, List.set_cons_succ]
            refine AnyX.done (by kernel_rfl) ?_ _
            go_wp2_with fail
            exact ret_agg3 (fn := Tryz.f24) (vs := [.string ⟨#[]⟩, .slice none 0 0, .slice none 0 0]) (b := w.heap.size) rfl rfl rfl rfl Tryz.underlying49 (by kernel_rfl) (cell3 (setRow_heap _ w.heap.size _ _ _ _ SX)) rfl FIN.out

end Go.Proofs.YtbknmokamcjgpaaGreatDoor
