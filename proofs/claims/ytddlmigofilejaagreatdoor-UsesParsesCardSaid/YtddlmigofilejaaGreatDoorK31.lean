/-
  Several texts in one.
-/
import Derived.Test.YtddlmigofilejaaGreatDoorK30
open List (getElem_toArray getElem_cons_succ getElem_cons_zero set_cons_zero set_cons_succ setIfInBounds_toArray)
set_option maxRecDepth 100000
set_option maxHeartbeats 8000000
namespace Go.Proofs.YtddlmigofilejaaGreatDoor
open Go.RowKit
open Go.Sort
open M
def RuOut (w : World) (R : Res Us) (e : Ending) (w' : World) : Prop :=
  Below w.heap.size w w' /\
  ((∃ (l : List Value) (u : Us) (j : Nat), R = .ok u j 0 /\ e = .returned (.tuple #[.agg l.toArray, .int .i64 0, .int .i64 (-1)]) /\ UsAt w' l u) \/
   (∃ (b j : Nat), R = .err b j /\ b ≠ 0 /\ e = .returned (.tuple #[.agg #[.slice none 0 0, .slice none 0 0], .int .i64 b, .int .i64 j])))
structure P1 (W : World) (r d lo : Nat) (A : Option Addr) (S : Toks) (cn : Nat) (F : Res Us) (xs : List Im) (Ai : Option Addr) (ci i b : Nat) (wr : World) : Prop where
 kb : Below W.heap.size W wr
 box : Ux d Ai xs.length ci none 0 0 wr
 rows : Row imR lo xs Ai ci wr
 cur : Rm r A S.n cn i b wr
 fin : F = badR b i (restU S (impsR S (21 - xs.length) i xs))
 most : xs.length <= 20
 lole : lo <= wr.heap.size
structure P2 (W : World) (r d lo l2 : Nat) (A : Option Addr) (S : Toks) (cn : Nat) (F : Res Us) (l : List Im) (Ai : Option Addr) (ci : Nat) (xs : List Ln) (Ad : Option Addr) (cd i b : Nat) (wr : World) : Prop where
 kb : Below W.heap.size W wr
 box : Ux d Ai l.length ci Ad xs.length cd wr
 ims : RowIn imR (strike (fun b => b < lo \/ l2 <= b) wr) Ai l
 rows : Row lnR l2 xs Ad cd wr
 cur : Rm r A S.n cn i b wr
 fin : F = badR b i (restL S l i xs)
 most : xs.length <= 60
 lole : l2 <= wr.heap.size
def Lx (q : Nat) (k : Int) (m s : ByteArray) (l : List Value) (w : World) : Prop := w.heap[q]? = some (.cells (#[.int .i64 k, .string m, .string s] ++ l.toArray) 59 (0, 0))
theorem Lx.kinded {d : Nat} {k k' : Int} {m s : ByteArray} {v0 v1 v2 v3 v4 v5 v6 : Value} {w : World} (h : Lx d k m s [v0, v1, v2, v3, v4, v5, v6] w) : Lx d k' m s [v0, v1, v2, v3, v4, v5, v6] (w.setCell ⟨d, 0, none⟩ (.int .i64 k')) := by
 have h0 := Joins.block_setCell (i := 0) h (.int .i64 k')
 simpa [Lx] using h0
theorem Lx.modded {d : Nat} {k : Int} {m m' s : ByteArray} {v0 v1 v2 v3 v4 v5 v6 : Value} {w : World} (h : Lx d k m s [v0, v1, v2, v3, v4, v5, v6] w) : Lx d k m' s [v0, v1, v2, v3, v4, v5, v6] (w.setCell ⟨d, 1, none⟩ (.string m')) := by
 have h0 := Joins.block_setCell (i := 1) h (.string m')
 simpa [Lx] using h0
theorem Lx.named {d : Nat} {k : Int} {m s s' : ByteArray} {v0 v1 v2 v3 v4 v5 v6 : Value} {w : World} (h : Lx d k m s [v0, v1, v2, v3, v4, v5, v6] w) : Lx d k m s' [v0, v1, v2, v3, v4, v5, v6] (w.setCell ⟨d, 2, none⟩ (.string s')) := by
 have h0 := Joins.block_setCell (i := 2) h (.string s')
 simpa [Lx] using h0
theorem Lx.there {d : Nat} {k : Int} {m s : ByteArray} {v0 v1 v2 v3 v4 v5 v6 : Value} {w : World} (h : Lx d k m s [v0, v1, v2, v3, v4, v5, v6] w) : w.there d 3 7 := fun j hj => by
 refine ⟨?_, Lib.frozen_of_heap h _⟩
 rw [cZ h]
 obtain rfl | rfl | rfl | rfl | rfl | rfl | rfl : j = 0 \/ j = 1 \/ j = 2 \/ j = 3 \/ j = 4 \/ j = 5 \/ j = 6 := by omega
 all_goals rfl
theorem Lx.put {d : Nat} {k : Int} {m s : ByteArray} {v0 v1 v2 v3 v4 v5 v6 u0 u1 u2 u3 u4 u5 u6 : Value} {w : World} (h : Lx d k m s [v0, v1, v2, v3, v4, v5, v6] w) : Lx d k m s [u0, u1, u2, u3, u4, u5, u6] (w.setCells d 3 [u0, u1, u2, u3, u4, u5, u6]) := by
 rw [setCells7]
 have h0 := Joins.block_setCell (i := 3) h u0
 have h1 := Joins.block_setCell (i := 3 + 1) h0 u1
 have h2 := Joins.block_setCell (i := 3 + 2) h1 u2
 have h3 := Joins.block_setCell (i := 3 + 3) h2 u3
 have h4 := Joins.block_setCell (i := 3 + 4) h3 u4
 have h5 := Joins.block_setCell (i := 3 + 5) h4 u5
 have h6 := Joins.block_setCell (i := 3 + 6) h5 u6
 simpa [Lx] using h6
theorem P2.on {W : World} {r d lo l2 : Nat} {A : Option Addr} {S : Toks} {cn : Nat} {F : Res Us} {l : List Im} {Ai : Option Addr} {ci : Nat} {xs : List Ln} {Ad : Option Addr} {cd i b : Nat} {wr w' : World} (h : P2 W r d lo l2 A S cn F l Ai ci xs Ad cd i b wr) (hb : Below wr.heap.size wr w') : P2 W r d lo l2 A S cn F l Ai ci xs Ad cd i b w' :=
 ⟨below_over h.kb hb, (hb.block d (Array.getElem?_eq_some_iff.1 h.box).1).trans h.box, h.ims.move hb.size fun b hlt hS => ⟨hS, hb.block b hlt⟩, h.rows.keep hb.size (fun b _ hlt => hb.block b hlt), h.cur.on hb, h.fin, h.most, by have := h.lole; have := hb.size; omega⟩
theorem ruparse_any (s : ByteArray) (w : World) (hs : s.size <= 20000) : Calls Tryz.prog 8 #[.string s] w (RuOut w (parU s)) := by
 obtain ⟨w0, hw0⟩ : ∃ w0, w0 = w.alloc (.cells #[.slice none 0 0, .slice none 0 0] 26) := ⟨_, rfl⟩
 have B0 : Below w.heap.size w w0 := by rw [hw0]; exact below_new (Below.refl _ _) _
 have X0 : w0.heap[w.heap.size]? = some (.cells #[.slice none 0 0, .slice none 0 0] 26 (0, 0)) := by rw [hw0]; exact heap_alloc_new w _
 have s0 : w.heap.size < w0.heap.size := by rw [hw0]; simp
 have HX0 := zH X0
 have HB0 := zH B0
 have HW0 := zH hw0
 clear hw0 B0 X0
 rcases toks_cases s with ⟨ts, hf⟩ | ⟨k, hf⟩
 rotate_left
 ·have TK := zH (ref_no s k w0 hs hf)
  have HP := zH (parU_no hf);clear hf;go_enter Tryz.func8, Tryz.ntmps8
  go_upto_region 1 with fail
  rw [<- HW0.out];go_wp2_with fail
  refine TK.out.mono ?_; rintro e w1 ⟨rfl, B1⟩
  have X1 := (B1.block _ s0).trans HX0.out
  have FIN : Hid (RuOut w (parU s) (.returned (.tuple #[.agg #[.slice none 0 0, .slice none 0 0], .int .i64 2, .int .i64 k])) (w1.setRow w.heap.size #[.slice none 0 0, .slice none 0 0])) := zH
   ⟨setRow_below (below_over HB0.out B1) (Nat.le_refl _) _, .inr ⟨2, k, HP.out, by decide, rfl⟩⟩
  have HX1 := zH X1;have hk0 : (0 : Int) <= (k : Int) := by omega
  clear B1 TK;go_upto_region 3 with fail
  go_wp2_with (first | ((with_reducible refine wpList_putRow 26 (w.heap.size) #[.slice none 0 0, .slice none 0 0] _ _ X1 ?_ ?_ ?_ ?_ ?_ ?_); exact usSize; rfl; exact usOne; iterate 2 (focus (first | (go_simp; done) | rfl))))
  exact ret_agg3 (fn := Tryz.f8) (vs := [.slice none 0 0, .slice none 0 0]) (b := w.heap.size) rfl rfl rfl rfl Tryz.underlying26 (by kernel_rfl) (cell2 (setRow_heap w1 w.heap.size _ _ _ _ HX1.out)) rfl FIN.out
 have hsz : ∀ t ∈ ts, t.text.size <= 20000 := fun t ht => Nat.le_trans (fin_size s hf t ht) hs
 have TK := zH (ref_yes s ts w0 hs hf)
 have hlen : ts.length <= 20000 := Nat.le_trans (fin_len s hf) hs
 have HP := zH (parU_yes hf)
 have HSZ := zH hsz
 clear hf hsz
 go_enter Tryz.func8, Tryz.ntmps8
 go_upto_region 1 with fail
 rw [<- HW0.out]
 go_wp2_with fail
 refine TK.out.mono ?_; rintro e W ⟨A, cn, rfl, hrow, B1⟩
 obtain ⟨S, hS⟩ : ∃ S, S = tkS ts := ⟨_, rfl⟩
 have hSn : S.n = ts.length := by rw [hS]; rfl
 have TA : Hid (TokAt W A S) := zH (by rw [hS]; exact hrow.toks HSZ.out)
 rw [<- hS] at HP
 rw [<- hSn] at hlen ⊢
 have HBW := zH (below_over HB0.out B1)
 have HXW := zH ((B1.block _ s0).trans HX0.out)
 have hwW : w.heap.size < W.heap.size := Nat.lt_of_lt_of_le s0 B1.size
 obtain ⟨F, hF⟩ : ∃ F, usesR S = F := ⟨_, rfl⟩
 have HF := zH hF
 have HPF : Hid (parU s = F) := zH (by rw [HP.out, hF])
 clear hrow B1 TK HX0 HB0 HW0 hS hSn HSZ hF HP s0
 obtain ⟨w1, hw1⟩ : ∃ w1, w1 = W.alloc (.cells #[.slice A S.n cn, .int .i64 0, .int .i64 0] 66) := ⟨_, rfl⟩
 have B1 : Below W.heap.size W w1 := by rw [hw1]; exact below_new (Below.refl _ _) _
 have R1 : Rm W.heap.size A S.n cn 0 0 w1 := by rw [hw1]; exact heap_alloc_new W _
 have s1 : w1.heap.size = W.heap.size + 1 := by rw [hw1]; simp
 obtain ⟨w2, hw2⟩ : ∃ w2, w2 = w1.alloc (.cells #[.slice none 0 0, .slice none 0 0] 26) := ⟨_, rfl⟩
 have B2 : Below w1.heap.size w1 w2 := by rw [hw2]; exact below_new (Below.refl _ _) _
 have Y2 : Ux w1.heap.size none 0 0 none 0 0 w2 := by rw [hw2]; exact heap_alloc_new w1 _
 have s2 : w2.heap.size = w1.heap.size + 1 := by rw [hw2]; simp
 have HR2 := zH (R1.on B2)
 have HY2 := zH Y2
 have HB2 := zH (below_over B1 B2)
 have HW1 := zH hw1
 have HW2 := zH hw2
 have hr1 : W.heap.size < w1.heap.size := by omega
 have hd1 : w1.heap.size < w2.heap.size := by omega
 clear hw1 B1 R1 s1 hw2 B2 Y2 s2
 generalize hrr : W.heap.size = r at hwW hr1 HR2
 generalize hdd : w1.heap.size = d at hr1 hd1 HY2
 have hrW : r <= W.heap.size := by omega
 have hWr : W.heap.size <= r := by omega
 go_upto_region 5 with fail
 rw [<- HW1.out]
 go_upto_region 6 with fail
 rw [<- HW2.out]
 have HRR := zH hrr
 clear hrr hdd HW1 HW2
 have INV : Hid (P1 W r d w2.heap.size A S cn F [] none 0 0 0 w2) := zH
  ⟨HB2.out, HY2.out, Row.start _ _ _, HR2.out, by rw [badR_0]; exact HF.out.symm, by simp, Nat.le_refl _⟩
 clear HY2 HB2 HR2
 generalize hlo : w2.heap.size = lo at INV hd1
 go_loopw [] (fun wr => ∃ (xs : List Im) (Ai : Option Addr) (ci i b : Nat), Hid (P1 W r d lo A S cn F xs Ai ci i b wr)) (fun wr => rmM r S.n wr)
 case atStart => exact ⟨[], none, 0, 0, 0, INV⟩
 case round =>
  obtain ⟨xs, Ai, ci, i, b, HI⟩ := hrel;obtain ⟨wo, rfl⟩ : ∃ wo : World, wo = wr := ⟨_, rfl⟩;have IS := zH (ris6_any (RdCtx.to TA.out HI.out.kb hWr hlen) HI.out.cur ⟨#[105, 109, 112, 111, 114, 116]⟩);have hlole := HI.out.lole;go_wp2_with fail
  refine IS.out.mono ?_; rintro e w6 ⟨rfl, hb6⟩
  have hs6 := hb6.size
  have I6 : P1 W r d lo A S cn F xs Ai ci i b w6 :=
   ⟨below_over HI.out.kb hb6, (hb6.block d (by omega)).trans HI.out.box, HI.out.rows.keep hs6 (fun b _ hlt => hb6.block b hlt), HI.out.cur.on hb6, HI.out.fin, HI.out.most, by omega⟩
  obtain ⟨v, hv⟩ : ∃ v, (decide (b = 0) && keyS S i (ByteArray.mk #[105, 109, 112, 111, 114, 116]).data.toList) = v := ⟨_, rfl⟩;rw [hv];have HV : Hid ((decide (b = 0) && keyS S i kImport) = v) := zH hv;have HI6 := zH I6;have MI := zH HI.out.cur.m;clear hv I6 hb6 IS HI INV;cases v with
  | true =>
   have hbk : b = 0 /\ keyS S i kImport = true := by have := HV.out; simpa using this
   obtain ⟨hb0, hk⟩ := hbk;subst hb0;have hin := key_lt hk;have h20 := HI6.out.most;have HFI : Hid (F = restU S (impsR S (21 - xs.length) i xs)) := zH (by have := HI6.out.fin; rwa [badR_0] at this);have hd6 : d < w6.heap.size := by omega
   have y6 : w6.cell? ⟨d, 0, none⟩ = some (.slice Ai xs.length ci) := by
    have := cZ HI6.out.box 0
    simpa using this
   have c1 := HI6.out.cur.c1;have hlm : ¬ ((xs.length : Int) > 9223372036854775807) := by omega
   by_cases h20' : xs.length = 20
   ·have hq : ((xs.length : Int) == 20) = true := by simp [h20']
    have HX6 := zH ((HI6.out.kb.block w.heap.size (by omega)).trans HXW.out)
    have FIN : Hid (RuOut w (parU s) (.returned (.tuple #[.agg #[.slice none 0 0, .slice none 0 0], .int .i64 3, .int .i64 i])) (w6.drew.setRow w.heap.size #[.slice none 0 0, .slice none 0 0])) := zH
     ⟨setRow_below (below_over (below_over HBW.out HI6.out.kb) (Below.drew (Below.refl _ _))) (Nat.le_refl _) _, .inr ⟨3, i, by rw [HPF.out, HFI.out]; exact imp11_many h20' hk, by decide, rfl⟩⟩
    have SX : _ := HX6.out;clear HI6;go_upto_region 8 with fail
    refine AnyX.start (fun wx => wx.cell? ⟨r, 1, none⟩ = some (.int .i64 i)) (fun _ => false) (by kernel_rfl) ?_;have hH0 : w6.drew.cell? ⟨r, 1, none⟩ = some (.int .i64 i) := c1;refine AnyX.mv (i := 0) (v := ?_) rfl (fun _ _ _ h => h) (Or.inl ⟨by rfl, ?_⟩) ?_;rotate_left
    ·(intro wS _; go_simp; try with_reducible rfl)
    simp only [getElem_toArray, getElem_cons_succ, getElem_cons_zero];simp only [Act.put, setIfInBounds_toArray, set_cons_zero, set_cons_succ];refine AnyX.mv (i := 1) (v := ?_) rfl (fun _ _ _ h => h) (Or.inl ⟨by rfl, ?_⟩) ?_;rotate_left
    ·(intro wS _; go_simp; try with_reducible rfl)
    simp only [getElem_toArray, getElem_cons_succ, getElem_cons_zero];simp only [Act.put, setIfInBounds_toArray, set_cons_zero, set_cons_succ];refine AnyX.mv (i := 2) (v := ?_) rfl (fun _ _ _ h => h) (Or.inl ⟨by rfl, ?_⟩) ?_;rotate_left
    ·(intro wS _; go_simp; try with_reducible rfl)
    simp only [getElem_toArray, getElem_cons_succ, getElem_cons_zero];simp only [Act.put, setIfInBounds_toArray, set_cons_zero, set_cons_succ];refine AnyX.mv (i := 3) (v := ?_) rfl (fun _ _ _ h => h) (Or.inl ⟨by rfl, ?_⟩) ?_;rotate_left
    ·(intro wS _; go_simp; try with_reducible rfl)
    simp only [getElem_toArray, getElem_cons_succ, getElem_cons_zero];simp only [Act.put, setIfInBounds_toArray, set_cons_zero, set_cons_succ];refine AnyX.tk (i := 4) (v := ?_) rfl (fun _ _ _ h => h) hH0 (Or.inl ⟨by rfl, ?_⟩) ?_;rotate_left
    ·(intro wS hS; (try obtain hc := hS); go_simp; try with_reducible rfl)
    simp only [getElem_toArray, getElem_cons_succ, getElem_cons_zero];simp only [Act.put, setIfInBounds_toArray, set_cons_zero, set_cons_succ];refine AnyX.go 5 (by kernel_rfl) rfl rfl (fun K hK => ?_);simp only [getElem_toArray, getElem_cons_succ, getElem_cons_zero];refine wp_store_row 26 (.tmp 2) (.tmp 28) rfl w.heap.size #[.slice none 0 0, .slice none 0 0] rfl rfl _ _ SX usSize rfl usOne ?_;refine hK.out _ _ (fun hoff _ => (World.cell?_of_block (a := ⟨r, 1, none⟩) (setRow_other w6.drew w.heap.size r _ (by omega))).trans hH0) ?_;clear hK;(try simp only [Act.put, setIfInBounds_toArray, set_cons_zero, set_cons_succ]);refine AnyX.mv (i := 6) (v := ?_) rfl (fun _ _ _ h => h) (Or.inl ⟨by rfl, ?_⟩) ?_;rotate_left
    ·(intro wS _; go_simp; try with_reducible rfl)
    simp only [getElem_toArray, getElem_cons_succ, getElem_cons_zero];simp only [Act.put, setIfInBounds_toArray, set_cons_zero, set_cons_succ];refine AnyX.mv (i := 7) (v := ?_) rfl (fun _ _ _ h => h) (Or.inl ⟨by rfl, ?_⟩) ?_;rotate_left
    ·(intro wS _; go_simp; try with_reducible rfl)
    simp only [getElem_toArray, getElem_cons_succ, getElem_cons_zero];simp only [Act.put, setIfInBounds_toArray, set_cons_zero, set_cons_succ];refine AnyX.done (by kernel_rfl) ?_ _;go_wp2_with fail
    exact ret_agg3 (fn := Tryz.f8) (vs := [.slice none 0 0, .slice none 0 0]) (b := w.heap.size) rfl rfl rfl rfl Tryz.underlying26 (by kernel_rfl) (cell2 (setRow_heap _ w.heap.size _ _ _ _ SX)) rfl FIN.out
   ·have hq : ((xs.length : Int) == 20) = false := by simp; omega
    have BD : Below w6.heap.size w6 w6.drew := Below.drew (Below.refl _ _);have KD := below_over HI6.out.kb BD;have CA := zH (rimp6_any (RdCtx.to TA.out KD hWr hlen) (HI6.out.cur.on BD) hin);have hH0 : w6.drew.cell? ⟨d, 0, none⟩ = some (.slice Ai xs.length ci) := y6;go_upto_region 9 with fail
    refine AnyX.start (fun wx => wx.cell? ⟨d, 0, none⟩ = some (.slice Ai xs.length ci)) (fun k => k == 7) (by kernel_rfl) ?_;refine AnyX.mv (i := 0) (v := ?_) rfl (fun _ _ _ h => h) (Or.inl ⟨by rfl, ?_⟩) ?_;rotate_left
    ·(intro wS _; go_simp; try with_reducible rfl)
    simp only [getElem_toArray, getElem_cons_succ, getElem_cons_zero];simp only [Act.put, setIfInBounds_toArray, set_cons_zero, set_cons_succ];refine AnyX.tk (i := 1) (v := ?_) rfl (fun _ _ _ h => h) hH0 (Or.inl ⟨by rfl, ?_⟩) ?_;rotate_left
    ·(intro wS hS; (try obtain hc := hS); go_simp; try with_reducible rfl)
    simp only [getElem_toArray, getElem_cons_succ, getElem_cons_zero];simp only [Act.put, setIfInBounds_toArray, set_cons_zero, set_cons_succ];refine AnyX.mv (i := 2) (v := ?_) rfl (fun _ _ _ h => h) (Or.inl ⟨by rfl, ?_⟩) ?_;rotate_left
    ·(intro wS _; go_simp; try with_reducible rfl)
    simp only [getElem_toArray, getElem_cons_succ, getElem_cons_zero];simp only [Act.put, setIfInBounds_toArray, set_cons_zero, set_cons_succ];refine AnyX.go 3 (by kernel_rfl) rfl rfl (fun K hK => ?_);simp only [getElem_toArray, getElem_cons_succ, getElem_cons_zero];go_simp
    refine CA.out.mono ?_;rintro e w7 ⟨x, i7, b7, rfl, z1, z2, z3, k7, h7, hres⟩;have hsd : w6.drew.heap.size = w6.heap.size := rfl;have hs7 := k7.size;have Y7 : Ux d Ai xs.length ci none 0 0 w7 := (k7.blk hd6 (by omega)).trans HI6.out.box
    have y7 : w7.cell? ⟨d, 0, none⟩ = some (.slice Ai xs.length ci) := by
     have := cZ Y7 0
     simpa using this
    have ROW7 := HI6.out.rows.keep (w' := w7) (by omega) (fun b hb hlt => k7.blk hlt (by omega));have kb7 : Below W.heap.size W w7 := KD.trans ((k7.below (by omega)).mono hWr);simp only [];refine hK.out _ _ (fun hoff _ => y7) ?_;clear hK;(try simp only [Act.put, setIfInBounds_toArray, set_cons_zero, set_cons_succ]);refine AnyX.go 4 (by kernel_rfl) rfl rfl (fun K hK => ?_);simp only [getElem_toArray, getElem_cons_succ, getElem_cons_zero];go_simp
    refine hK.out _ _ (fun hoff _ => cell_alloc y7) ?_;clear hK;(try simp only [Act.put, setIfInBounds_toArray, set_cons_zero, set_cons_succ]);obtain ⟨C, hC1, hown, hC4⟩ := ROW7.cells;obtain ⟨inf, hi1', hy0, hy1, hy2⟩ := info_parts imp_info;have hMX : xs.length + 1 <= maxLen := by unfold maxLen; omega
    have hwo : ∀ b, (Value.slice Ai xs.length ci).ownBlock = some b -> b < w6.heap.size := fun b e => (HI6.out.rows.lt e).2
    have hAL : ∀ oo, lo <= (w7.alloc oo).heap.size := fun oo => by have e1 : (w7.alloc oo).heap.size = w7.heap.size + 1 := (by simp); omega
    refine AnyX.go 5 (by kernel_rfl) rfl rfl (fun K hK => ?_);simp only [getElem_toArray, getElem_cons_succ, getElem_cons_zero];refine wp_append_lies _ (.tmp 34) (.tmp 37) 23 rfl lo 57 inf _ 4 56 Tryz.underlying23 hi1' hy0 hy1 hy2 (by rfl) (Nat.zero_lt_succ 3) (.slice Ai xs.length ci) xs.length _ rfl (hown.alloc _) ⟨w7.heap.size, 0, none⟩ 1 1 [.string x.pkg, .int .i64 x.major, .string x.mod, .string x.asn] rfl rfl (fun q u hq => by rw [WideShapes.add_plain, Nat.zero_add, cZ (heap_alloc_new w7 _), <- hq, <- List.getElem?_toArray]) (fun u hu => by simp at hu; rcases hu with rfl | rfl | rfl | rfl <;> rfl) Nat.one_pos hMX (by omega) (hAL _) _ rfl ?_;intro gb cap w8 hown8 hgrow hat hlt8;have MORE := row_more (R := imR) (x := x) (k := 0) ROW7 (B := w6.heap.size) (by omega) (by omega) hwo hC1 hC4 ⟨rfl, z1, z2, z3⟩ hown8 hgrow hat (by omega) Y7 rfl;obtain ⟨ROW9, Y9, old9, bel9, z9, e9, hs9⟩ := MORE;refine hK.out _ _ (fun hoff _ => z9) ?_;clear hK;(try simp only [Act.put, setIfInBounds_toArray, set_cons_zero, set_cons_succ]);refine AnyX.mv (i := 6) (v := ?_) rfl (fun _ _ _ h => h) (Or.inl ⟨by rfl, ?_⟩) ?_;rotate_left
    ·(intro wS _; go_simp; try with_reducible rfl)
    simp only [getElem_toArray, getElem_cons_succ, getElem_cons_zero];simp only [Act.put, setIfInBounds_toArray, set_cons_zero, set_cons_succ];refine AnyX.go 7 (by kernel_rfl) rfl rfl (fun K hK => ?_);simp only [getElem_toArray, getElem_cons_succ, getElem_cons_zero];go_simp
    refine hK.out _ _ (fun hoff _ => absurd hoff (by decide)) ?_;clear hK;(try simp only [Act.put, setIfInBounds_toArray, set_cons_zero, set_cons_succ]);refine AnyX.done (by kernel_rfl) ?_ _;have hlen9 : (xs ++ [x]).length = xs.length + 1 := by simp
    have h9 := h7.other (old9 r (by omega) (by omega));obtain ⟨hF9, hlim⟩ := imp11_yes (xs := xs) (by omega) hk hres
    have INV9 : Hid (P1 W r d lo A S cn F (xs ++ [x]) (some ⟨gb, 0, none⟩) cap i7 b7 (w8.setCell ⟨d, 0, none⟩ (.slice (some ⟨gb, 0, none⟩) (xs.length + 1) cap))) := zH
     ⟨kb7.trans (bel9 _ (by omega)), by rw [hlen9]; exact Y9, ROW9, h9, by rw [HFI.out]; exact hF9, by omega, by omega⟩
    have MEAS : Hid (rmM r S.n (w8.setCell ⟨d, 0, none⟩ (.slice (some ⟨gb, 0, none⟩) (xs.length + 1) cap)) < rmM r S.n wo) := zH (by
     rw [MI.out, h9.m];simp only [if_true];split
     ·rename_i e
      have := hlim e
      omega
     ·omega)
    clear  k7 h7 hres ROW7 kb7 hC1 hown hC4 hi1' hy0 hy1 hy2 hown8 hgrow hat hlt8 ROW9 Y9 old9 bel9 z9 e9 hs9 h9 hlim hF9 CA Y7 y7 hwo hAL HI6 HFI KD BD;go_wp2_with fail
    go_roundw
    case rel => exact ⟨xs ++ [x], some ⟨gb, 0, none⟩, cap, i7, b7, INV9⟩
    case measure => exact MEAS.out
  | false =>
   have L2 : Hid (∃ l2, l2 = w6.heap.size) := zH ⟨_, rfl⟩;obtain ⟨l2, hl2⟩ := L2.out;have hd6 : d < w6.heap.size := by omega
   have INV2 : Hid (P2 W r d lo l2 A S cn F xs Ai ci [] none 0 i b w6) := zH
    ⟨HI6.out.kb, HI6.out.box, (HI6.out.rows.done (Nat.le_refl _)).move (Nat.le_refl _) fun b hb hS => ⟨by omega, rfl⟩, Row.start _ _ _, HI6.out.cur, by rw [HI6.out.fin]; exact imp11_no HI6.out.most HV.out, by simp, by omega⟩
   have hlo2 : lo <= l2 := by have := HI6.out.lole; omega
   have hxs := HI6.out.most;obtain ⟨l, hl⟩ : ∃ l, l = xs := ⟨_, rfl⟩;rw [<- hl] at INV2 hxs;clear HI6 hl L2 hl2 MI HV hlole hs6;go_upto_region 10 with fail
   go_loopw [] (fun wr => ∃ (xs : List Ln) (Ad : Option Addr) (cd i b : Nat), Hid (P2 W r d lo l2 A S cn F l Ai ci xs Ad cd i b wr)) (fun wr => rmM r S.n wr)
   case atStart => exact ⟨[], none, 0, i, b, INV2⟩
   case round =>
    obtain ⟨xs, Ad, cd, i, b, HI⟩ := hrel;obtain ⟨wo, rfl⟩ : ∃ wo : World, wo = wr := ⟨_, rfl⟩;have IS := zH (ris6_any (RdCtx.to TA.out HI.out.kb hWr hlen) HI.out.cur ⟨#[117, 115, 101]⟩);have MI := zH HI.out.cur.m;clear INV2 hd6;go_wp2_with fail
    refine IS.out.mono ?_; rintro e w5 ⟨rfl, hb5⟩
    have HI5 := zH (HI.out.on hb5);have hs5 := hb5.size;obtain ⟨v1, hv1⟩ : ∃ v1, (decide (b = 0) && keyS S i (ByteArray.mk #[117, 115, 101]).data.toList) = v1 := ⟨_, rfl⟩;rw [hv1];have HV1 : Hid ((decide (b = 0) && keyS S i kUse) = v1) := zH hv1;clear hv1 hb5 IS HI;cases v1 with
    | true =>
     have hbk : b = 0 /\ keyS S i kUse = true := by have := HV1.out; simpa using this
     obtain ⟨hb0, hk1⟩ := hbk;subst hb0;have hin := key_lt hk1;have hk : lineK S i = 1 := lineK_use hk1
     have hks : keyS S i kIs = false := by
      cases e : keyS S i kIs with
      | false => rfl
      | true => have := key_one e; rw [this] at hk1; cases hk1
     obtain ⟨w6, rfl⟩ : ∃ w6 : World, w6 = w5 := ⟨_, rfl⟩;have HI6 := HI5;clear hk1 HV1 HI5;have h60 := HI6.out.most;have HFI : Hid (F = restL S l i xs) := zH (by have := HI6.out.fin; rwa [badR_0] at this);have hl26 := HI6.out.lole;have hd6 : d < w6.heap.size := by omega
     have hr6 : r < w6.heap.size := by omega
     have y6 : w6.cell? ⟨d, 1, none⟩ = some (.slice Ad xs.length cd) := by
      have := cZ HI6.out.box 1
      simpa using this
     have c1 := HI6.out.cur.c1;have hlm : ¬ ((xs.length : Int) > 9223372036854775807) := by omega
     have HX6 := zH ((HI6.out.kb.block w.heap.size (by omega)).trans HXW.out);by_cases h60' : xs.length = 60
     ·have hq : ((xs.length : Int) == 60) = true := by simp [h60']
      have FIN : Hid (RuOut w (parU s) (.returned (.tuple #[.agg #[.slice none 0 0, .slice none 0 0], .int .i64 3, .int .i64 i])) (w6.drew.setRow w.heap.size #[.slice none 0 0, .slice none 0 0])) := zH
       ⟨setRow_below (below_over (below_over HBW.out HI6.out.kb) (Below.drew (Below.refl _ _))) (Nat.le_refl _) _, .inr ⟨3, i, by rw [HPF.out, HFI.out]; exact line11_many h60' (by rw [hk]; decide), by decide, rfl⟩⟩
      have SX := HX6.out;clear HI6;go_upto_region 12 with fail
      refine AnyX.start (fun wx => wx.cell? ⟨r, 1, none⟩ = some (.int .i64 i)) (fun _ => false) (by kernel_rfl) ?_;have hH0 : w6.drew.cell? ⟨r, 1, none⟩ = some (.int .i64 i) := c1;refine AnyX.mv (i := 0) (v := ?_) rfl (fun _ _ _ h => h) (Or.inl ⟨by rfl, ?_⟩) ?_;rotate_left
      ·(intro wS _; go_simp; try with_reducible rfl)
      simp only [getElem_toArray, getElem_cons_succ, getElem_cons_zero];simp only [Act.put, setIfInBounds_toArray, set_cons_zero, set_cons_succ];refine AnyX.mv (i := 1) (v := ?_) rfl (fun _ _ _ h => h) (Or.inl ⟨by rfl, ?_⟩) ?_;rotate_left
      ·(intro wS _; go_simp; try with_reducible rfl)
      simp only [getElem_toArray, getElem_cons_succ, getElem_cons_zero];simp only [Act.put, setIfInBounds_toArray, set_cons_zero, set_cons_succ];refine AnyX.mv (i := 2) (v := ?_) rfl (fun _ _ _ h => h) (Or.inl ⟨by rfl, ?_⟩) ?_;rotate_left
      ·(intro wS _; go_simp; try with_reducible rfl)
      simp only [getElem_toArray, getElem_cons_succ, getElem_cons_zero];simp only [Act.put, setIfInBounds_toArray, set_cons_zero, set_cons_succ];refine AnyX.mv (i := 3) (v := ?_) rfl (fun _ _ _ h => h) (Or.inl ⟨by rfl, ?_⟩) ?_;rotate_left
      ·(intro wS _; go_simp; try with_reducible rfl)
      simp only [getElem_toArray, getElem_cons_succ, getElem_cons_zero];simp only [Act.put, setIfInBounds_toArray, set_cons_zero, set_cons_succ];refine AnyX.tk (i := 4) (v := ?_) rfl (fun _ _ _ h => h) hH0 (Or.inl ⟨by rfl, ?_⟩) ?_;rotate_left
      ·(intro wS hS; (try obtain hc := hS); go_simp; try with_reducible rfl)
      simp only [getElem_toArray, getElem_cons_succ, getElem_cons_zero];simp only [Act.put, setIfInBounds_toArray, set_cons_zero, set_cons_succ];refine AnyX.go 5 (by kernel_rfl) rfl rfl (fun K hK => ?_);simp only [getElem_toArray, getElem_cons_succ, getElem_cons_zero];refine wp_store_row 26 (.tmp 2) (.tmp 50) rfl w.heap.size #[.slice none 0 0, .slice none 0 0] rfl rfl _ _ SX usSize rfl usOne ?_;refine hK.out _ _ (fun hoff _ => (World.cell?_of_block (a := ⟨r, 1, none⟩) (setRow_other w6.drew w.heap.size r _ (by omega))).trans hH0) ?_;clear hK;(try simp only [Act.put, setIfInBounds_toArray, set_cons_zero, set_cons_succ]);refine AnyX.mv (i := 6) (v := ?_) rfl (fun _ _ _ h => h) (Or.inl ⟨by rfl, ?_⟩) ?_;rotate_left
      ·(intro wS _; go_simp; try with_reducible rfl)
      simp only [getElem_toArray, getElem_cons_succ, getElem_cons_zero];simp only [Act.put, setIfInBounds_toArray, set_cons_zero, set_cons_succ];refine AnyX.mv (i := 7) (v := ?_) rfl (fun _ _ _ h => h) (Or.inl ⟨by rfl, ?_⟩) ?_;rotate_left
      ·(intro wS _; go_simp; try with_reducible rfl)
      simp only [getElem_toArray, getElem_cons_succ, getElem_cons_zero];simp only [Act.put, setIfInBounds_toArray, set_cons_zero, set_cons_succ];refine AnyX.done (by kernel_rfl) ?_ _;go_wp2_with fail
      exact ret_agg3 (fn := Tryz.f8) (vs := [.slice none 0 0, .slice none 0 0]) (b := w.heap.size) rfl rfl rfl rfl Tryz.underlying26 (by kernel_rfl) (cell2 (setRow_heap _ w.heap.size _ _ _ _ SX)) rfl FIN.out
     have hq : ((xs.length : Int) == 60) = false := by simp; omega
     obtain ⟨wb, hwb⟩ : ∃ wb, wb = w6.alloc (.cells #[.int .i64 1, .string ⟨#[]⟩, .string ⟨#[]⟩, .int .i64 0, .string ⟨#[]⟩, .int .i64 0, .string ⟨#[]⟩, .string ⟨#[]⟩, .slice none 0 0, .slice none 0 0] 59) := ⟨_, rfl⟩;have Bb : Below w6.heap.size w6 wb := by rw [hwb]; exact below_new (Below.refl _ _) _
     obtain ⟨q, hqd⟩ : ∃ q, q = w6.heap.size := ⟨_, rfl⟩;have Ywb : Lx q 1 ⟨#[]⟩ ⟨#[]⟩ [.int .i64 0, .string ⟨#[]⟩, .int .i64 0, .string ⟨#[]⟩, .string ⟨#[]⟩, .slice none 0 0, .slice none 0 0] wb := by rw [hwb, hqd]; exact heap_alloc_new w6 _
     have qwb : q < wb.heap.size := by rw [hwb, hqd]; simp
     have kwb := Kp.of_below (r := r) Bb;have cwb := HI6.out.cur.on Bb;have IS3' := ris6_any (RdCtx.to TA.out (HI6.out.kb.trans ((kwb.below (by omega)).mono hWr)) hWr hlen) cwb ⟨#[105, 115]⟩
     have v3 : (decide ((0 : Nat) = 0) && keyS S i (ByteArray.mk #[105, 115]).data.toList) = false := by
      show (decide ((0 : Nat) = 0) && keyS S i kIs) = _
      rw [hks]; rfl
     rw [v3] at IS3';have IS3 := zH IS3';clear IS3' v3;have HWb := zH hwb;have HQD := zH hqd;have hq6 : w6.heap.size <= q := by omega
     have HBb := zH Bb;have HYwb := zH Ywb;have Hcwb := zH cwb;clear hwb Bb Ywb cwb kwb c1;go_upto_region 14 with fail
     rw [<- HWb.out];try rw [<- HQD.out]
     clear HWb y6 hq hqd;go_wp2_with fail
     refine IS3.out.mono ?_; rintro e w7 ⟨rfl, hb7⟩
     have Yw7 : Lx q 1 ⟨#[]⟩ ⟨#[]⟩ [.int .i64 0, .string ⟨#[]⟩, .int .i64 0, .string ⟨#[]⟩, .string ⟨#[]⟩, .slice none 0 0, .slice none 0 0] w7 := (hb7.block q qwb).trans HYwb.out;have cw7 := Hcwb.out.on hb7;have kw7 : Kp r w6 w7 := Kp.of_below (below_over HBb.out hb7);have qw7 : q < w7.heap.size := Nat.lt_of_lt_of_le qwb hb7.size;clear hb7 IS3 HYwb Hcwb HBb qwb;have a1 := cw7.c1;have f1 := cw7.f 1;obtain ⟨w9, hw9⟩ : ∃ w9, w9 = w7.setCell ⟨r, 1, none⟩ (.int .i64 ((i : Int) + 1)) := ⟨_, rfl⟩;have cw9 : Rm r A S.n cn (i + 1) 0 w9 := by rw [hw9]; exact cw7.up
     have Yw9 : Lx q 1 ⟨#[]⟩ ⟨#[]⟩ [.int .i64 0, .string ⟨#[]⟩, .int .i64 0, .string ⟨#[]⟩, .string ⟨#[]⟩, .slice none 0 0, .slice none 0 0] w9 := (show w9.heap[q]? = w7.heap[q]? by rw [hw9]; exact Below.heap_setCell _ _ _ _ (by show q ≠ r; omega)).trans Yw7;have kw9 : Kp r w6 w9 := by rw [hw9]; exact kw7.put 1 _
     have qw9 : q < w9.heap.size := by rw [hw9]; simpa using qw7
     have HW9 := zH hw9;have HYw9 := zH Yw9;have Hcw9 := zH cw9;have HKw9 := zH kw9;have hw64 : IntKind.i64.wrap ((i : Int) + 1) = (i : Int) + 1 := IntWalk.i64_in _ (by omega);clear hw9 Yw9 cw9 kw9 Yw7 cw7 kw7;go_upto_region 17 with fail
     rw [<- HW9.out];clear a1 f1 HW9 hw64;have Yw9 := HYw9.out;have cw9 := Hcw9.out;have kw9 := HKw9.out;clear HYw9 Hcw9 HKw9;have WD := zH (rwS_any (RdCtx.to TA.out (HI6.out.kb.trans ((kw9.below (by omega)).mono hWr)) hWr hlen) cw9 1);have HYw9 := zH Yw9;have HKw9 := zH kw9;clear Yw9 cw9 kw9;go_wp2_with fail
     refine WD.out.mono ?_; rintro e wa ⟨m, ia, ba, rfl, zwa, cwa, kwa', Nwa⟩
     have Ywa : Lx q 1 ⟨#[]⟩ ⟨#[]⟩ [.int .i64 0, .string ⟨#[]⟩, .int .i64 0, .string ⟨#[]⟩, .string ⟨#[]⟩, .slice none 0 0, .slice none 0 0] wa := (kwa'.blk qw9 (by omega)).trans HYw9.out;have kwa := HKw9.out.trans kwa';have qwa : q < wa.heap.size := Nat.lt_of_lt_of_le qw9 kwa'.size;have HNwa := zH Nwa;clear Nwa kwa' WD HYw9 HKw9 qw9;obtain ⟨wc, hwc⟩ : ∃ wc, wc = wa.setCell ⟨q, 1, none⟩ (.string m) := ⟨_, rfl⟩;have Ywc : Lx q 1 m ⟨#[]⟩ [.int .i64 0, .string ⟨#[]⟩, .int .i64 0, .string ⟨#[]⟩, .string ⟨#[]⟩, .slice none 0 0, .slice none 0 0] wc := by rw [hwc]; exact Ywa.modded
     have owc : ∀ b, b ≠ q -> wc.heap[b]? = wa.heap[b]? := fun b hb => by rw [hwc]; exact Below.heap_setCell _ _ _ _ (by show b ≠ q; exact hb)
     have swc : wc.heap.size = wa.heap.size := by rw [hwc]; simp
     have kwc : Kp r w6 wc := by rw [hwc]; exact kwa.putNew _ (by show w6.heap.size <= q; omega) _
     have cwc := cwa.other (owc r (by omega));have ff := Lib.frozen_of_heap Ywa 1;have mm := cZ Ywa 1;simp at mm;have Hwc := zH hwc;have HYwc := zH Ywc;have HCwc := zH cwc;have HKwc := zH kwc;have HSwc := zH swc;clear hwc Ywc owc swc kwc cwc Ywa cwa kwa;go_upto_region 18 with fail
     rw [<- Hwc.out];clear ff mm Hwc;have Ywc := HYwc.out;have cwc := HCwc.out;have kwc := HKwc.out;have qwc : q < wc.heap.size := by have := HSwc.out; omega
     clear HYwc HCwc HKwc HSwc;have WD := zH (rwK_any (RdCtx.to TA.out (HI6.out.kb.trans ((kwc.below (by omega)).mono hWr)) hWr hlen) cwc 4 ⟨#[46]⟩);have HYwc := zH Ywc;have HKwc := zH kwc;clear Ywc cwc kwc;go_wp2_with fail
     refine WD.out.mono ?_; rintro e wd ⟨sd, id, bd, rfl, zwd, cwd, kwd', Nwd⟩
     have Ywd : Lx q 1 m ⟨#[]⟩ [.int .i64 0, .string ⟨#[]⟩, .int .i64 0, .string ⟨#[]⟩, .string ⟨#[]⟩, .slice none 0 0, .slice none 0 0] wd := (kwd'.blk qwc (by omega)).trans HYwc.out;have kwd := HKwc.out.trans kwd';have qwd : q < wd.heap.size := Nat.lt_of_lt_of_le qwc kwd'.size;have HNwd := zH Nwd;clear Nwd kwd' WD HYwc HKwc qwc;obtain ⟨ed, fd⟩ := nameOut_ps HNwd.out;rw [show (okW S ia 4 fun s => s.data.toList == [46]) = S.sign ia [46] from okW_sign S ia ⟨#[46]⟩] at ed fd;have HED := zH ed;have HFD := zH fd;clear ed fd;have l0 := cZ Ywd 0;simp at l0;have WD := zH (rwS_any (RdCtx.to TA.out (HI6.out.kb.trans ((kwd.below (by omega)).mono hWr)) hWr hlen) cwd 1);have HYwd := zH Ywd;have HKwd := zH kwd;clear Ywd cwd kwd;go_wp2_with fail
     refine WD.out.mono ?_; rintro e we ⟨s, ie, be, rfl, zwe, cwe, kwe', Nwe⟩
     have Ywe : Lx q 1 m ⟨#[]⟩ [.int .i64 0, .string ⟨#[]⟩, .int .i64 0, .string ⟨#[]⟩, .string ⟨#[]⟩, .slice none 0 0, .slice none 0 0] we := (kwe'.blk qwd (by omega)).trans HYwd.out;have kwe := HKwd.out.trans kwe';have qwe : q < we.heap.size := Nat.lt_of_lt_of_le qwd kwe'.size;have HNwe := zH Nwe;clear Nwe kwe' WD HYwd HKwd qwd;clear l0;obtain ⟨wf, hwf⟩ : ∃ wf, wf = we.setCell ⟨q, 2, none⟩ (.string s) := ⟨_, rfl⟩;have Ywf : Lx q 1 m s [.int .i64 0, .string ⟨#[]⟩, .int .i64 0, .string ⟨#[]⟩, .string ⟨#[]⟩, .slice none 0 0, .slice none 0 0] wf := by rw [hwf]; exact Ywe.named
     have owf : ∀ b, b ≠ q -> wf.heap[b]? = we.heap[b]? := fun b hb => by rw [hwf]; exact Below.heap_setCell _ _ _ _ (by show b ≠ q; exact hb)
     have swf : wf.heap.size = we.heap.size := by rw [hwf]; simp
     have kwf : Kp r w6 wf := by rw [hwf]; exact kwe.putNew _ (by show w6.heap.size <= q; omega) _
     have cwf := cwe.other (owf r (by omega));have ff := Lib.frozen_of_heap Ywe 2;have mm := cZ Ywe 2;simp at mm;have Hwf := zH hwf;have HYwf := zH Ywf;have HCwf := zH cwf;have HKwf := zH kwf;have HSwf := zH swf;clear hwf Ywf owf swf kwf cwf Ywe cwe kwe;go_upto_region 21 with fail
     rw [<- Hwf.out];clear ff mm Hwf;have Ywf := HYwf.out;have cwf := HCwf.out;have kwf := HKwf.out;have qwf : q < wf.heap.size := by have := HSwf.out; omega
     clear HYwf HCwf HKwf HSwf;have WD := zH (rwK_any (RdCtx.to TA.out (HI6.out.kb.trans ((kwf.below (by omega)).mono hWr)) hWr hlen) cwf 4 ⟨#[58]⟩);have HYwf := zH Ywf;have HKwf := zH kwf;clear Ywf cwf kwf;go_wp2_with fail
     refine WD.out.mono ?_; rintro e wg ⟨sg, ig, bg, rfl, zwg, cwg, kwg', Nwg⟩
     have Ywg : Lx q 1 m s [.int .i64 0, .string ⟨#[]⟩, .int .i64 0, .string ⟨#[]⟩, .string ⟨#[]⟩, .slice none 0 0, .slice none 0 0] wg := (kwg'.blk qwf (by omega)).trans HYwf.out;have kwg := HKwf.out.trans kwg';have qwg : q < wg.heap.size := Nat.lt_of_lt_of_le qwf kwg'.size;have HNwg := zH Nwg;clear Nwg kwg' WD HYwf HKwf qwf;obtain ⟨eg, fg⟩ := nameOut_ps HNwg.out;rw [show (okW S ie 4 fun s => s.data.toList == [58]) = S.sign ie [58] from okW_sign S ie ⟨#[58]⟩] at eg fg
     have hle : bg = 0 -> ig <= S.n := fun e => by
      have h1 := HNwa.out;rw [okW_small] at h1;have h2 := HNwe.out;rw [okW_small] at h2;rw [eg];exact name_sign_le (fun e' => by rw [HED.out]; exact name_sign_le (b1 := 0) (i5 := i + 1) (fun _ => by omega) h1 (by rw [<- HFD.out]; exact e')) h2 (by rw [<- fg]; exact e)
     have WORDS : Hid (badR bg ig (typL 1 m s (atR S ig)) = lineR S 1 (i + 1)) := zH (by
      have h1 := HNwa.out;rw [okW_small, small_k] at h1;have h2 := HNwe.out;rw [okW_small, small_k] at h2;have := line_words (k := 1) (by decide) h1 HED.out HFD.out h2 eg fg
      rw [badR_0] at this;exact this)
     have RE := zH (rtyp6_any (RdCtx.to TA.out (HI6.out.kb.trans ((kwg.below (by omega)).mono hWr)) hWr hlen) cwg hle);have HYwg := zH Ywg;have HKwg := zH kwg;clear Ywg cwg kwg hle eg fg HED HFD HNwa HNwe HNwd HNwg;go_upto_region 24 with fail
     go_wp2_with fail
     refine RE.out.mono ?_; rintro e wh ⟨l7, t, ih, bh, rfl, hTh, kh, ch, hres⟩
     obtain ⟨An, cA, As, cS, rfl, -⟩ := hTh.parts;have Yh : Lx q 1 m s [.int .i64 0, .string ⟨#[]⟩, .int .i64 0, .string ⟨#[]⟩, .string ⟨#[]⟩, .slice none 0 0, .slice none 0 0] wh := (kh.blk qwg (by omega)).trans HYwg.out;have kwh := HKwg.out.trans kh;have qwh : q < wh.heap.size := Nat.lt_of_lt_of_le qwg kh.size;obtain ⟨wi, hwi⟩ : ∃ wi, wi = wh.setCells q 3 [.int .i64 t.kind, .string t.pkg, .int .i64 t.major, .string t.mod, .string t.name, .slice An t.names.length cA, .slice As t.subs.length cS] := ⟨_, rfl⟩;have Yi : Lx q 1 m s [.int .i64 t.kind, .string t.pkg, .int .i64 t.major, .string t.mod, .string t.name, .slice An t.names.length cA, .slice As t.subs.length cS] wi := by rw [hwi]; exact Yh.put
     have oi : ∀ b, b ≠ q -> wi.heap[b]? = wh.heap[b]? := fun b hb => by rw [hwi]; exact setCells7_other rfl hb
     have si : wi.heap.size = wh.heap.size := by rw [hwi]; exact setCells7_size rfl
     have ki : Kp r w6 wi := by rw [hwi]; exact kwh.putCells q 3 (by omega) rfl
     have ci' := ch.other (oi r (by omega))
     have hsg := kh.size;have Ti : TyAt (strike (· < w6.heap.size + 1) wi) [.int .i64 t.kind, .string t.pkg, .int .i64 t.major, .string t.mod, .string t.name, .slice An t.names.length cA, .slice As t.subs.length cS] t := hTh.move (by omega) fun b hb hS => ⟨by omega, oi b (by omega)⟩
     have RES : Hid (badR bh ih (.ok (⟨1, m, s, t⟩ : Ln) ih 0) = lineR S 1 (i + 1)) := zH (by rw [<- WORDS.out]; exact line_typ hres);have TH := Yh.there;have HWI := zH hwi;have HYi := zH Yi;have HKi := zH ki;have Hci := zH ci';have HTi := zH Ti;have qwi : q < wi.heap.size := by omega
     clear hwi Yi oi si ki ci' Ti Yh kwh hTh kh ch hres RE HYwg HKwg WORDS hsg;go_upto_region 25 with (first | ((with_reducible refine wpList_putMid 48 q 3 #[.int .i64 t.kind, .string t.pkg, .int .i64 t.major, .string t.mod, .string t.name, .slice An t.names.length cA, .slice As t.subs.length cS] ?_ ?_ ?_ ?_ ?_ ?_); exact TH; exact tySize; exact tyOne; rfl; rfl))
     rw [<- HWI.out];clear HWI TH;have Yw := HYi.out;obtain ⟨x0, x1, x2, x3, x4, x5, x6, x7, x8⟩ := cq9 Yw;have x9 := cZ Yw 9;simp at x0 x1 x2 x3 x4 x5 x6 x7 x8 x9;have kis := HKi.out.size;have Yd : Ux d Ai l.length ci Ad xs.length cd wi := (HKi.out.blk hd6 (by omega)).trans HI6.out.box;have y1 := cZ Yd 1;simp at y1;have ROWi := HI6.out.rows.keep (w' := wi) kis (fun b hb hlt => HKi.out.blk hlt (by omega));have IMSi : RowIn imR (strike (fun b => b < lo \/ l2 <= b) wi) Ai l := HI6.out.ims.move kis fun b hb hS => ⟨hS, HKi.out.blk hb (fun e => hS (.inl (by omega)))⟩
     obtain ⟨C, hC1, hown, hC4⟩ := ROWi.cells;obtain ⟨inf, hi1', hy0, hy1, hy2⟩ := info_parts ln_info;have hMX : xs.length + 1 <= maxLen := by unfold maxLen; omega
     have hwo : ∀ b, (Value.slice Ad xs.length cd).ownBlock = some b -> b < w6.heap.size + 1 := fun b e => by have := (HI6.out.rows.lt e).2; omega
     have hAL : ∀ oo, l2 <= (wi.alloc oo).heap.size := fun oo => by have e1 : (wi.alloc oo).heap.size = wi.heap.size + 1 := (by simp); omega
     have kbi : Below W.heap.size W wi := HI6.out.kb.trans ((HKi.out.below (by omega)).mono hWr);have hBw : w6.heap.size + 1 <= wi.heap.size := by have := HQD.out; omega
     have hdl : d < l2 := by omega
     clear Yw;go_wp2_with (first | (refine wpList_append_lies _ rfl (.tmp 88) (.tmp 90) 24 rfl l2 59 inf _ 10 152 Tryz.underlying24 hi1' hy0 hy1 hy2 (by rfl) (Nat.zero_lt_succ 9) (.slice Ad xs.length cd) xs.length _ rfl (hown.alloc _) ⟨wi.heap.size, 0, none⟩ 1 1 [.int .i64 1, .string m, .string s, .int .i64 t.kind, .string t.pkg, .int .i64 t.major, .string t.mod, .string t.name, .slice An t.names.length cA, .slice As t.subs.length cS] rfl rfl (fun q u hq => by rw [WideShapes.add_plain, Nat.zero_add, cZ (heap_alloc_new wi _), <- hq, <- List.getElem?_toArray]) (fun u hu => by simp at hu; rcases hu with rfl | rfl | rfl | rfl | rfl | rfl | rfl | rfl | rfl | rfl <;> rfl) Nat.one_pos hMX (by omega) (hAL _) _ rfl ?_; intro gb cap w8 hown8 hgrow hat hlt8; obtain ⟨ROW9, Y9, old9, bel9, z9, e9, hs9⟩ := row_more (R := lnR) (x := (⟨1, m, s, t⟩ : Ln)) (k := 1) ROWi (B := w6.heap.size + 1) (by omega) hBw hwo hC1 hC4 ⟨⟨zwa, zwe⟩, _, rfl, HTi.out⟩ hown8 hgrow hat hdl Yd rfl; clear hown8 hgrow hat hlt8))
     have hlen9 : (xs ++ [(⟨1, m, s, t⟩ : Ln)]).length = xs.length + 1 := by simp
     have h9 := Hci.out.other (old9 r (by omega) (by omega));obtain ⟨hF9, hlim⟩ := line11_yes (l := l) (xs := xs) (x := (⟨1, m, s, t⟩ : Ln)) (by omega) (by rw [hk]; decide) (by rw [hk]; exact RES.out)
     have INV9 : Hid (P2 W r d lo l2 A S cn F l Ai ci (xs ++ [(⟨1, m, s, t⟩ : Ln)]) (some ⟨gb, 0, none⟩) cap ih bh (w8.setCell ⟨d, 1, none⟩ (.slice (some ⟨gb, 0, none⟩) (xs.length + 1) cap))) := zH
      ⟨kbi.trans (bel9 _ (by omega)), by rw [hlen9]; exact Y9, IMSi.move hs9 fun b hb hS => ⟨hS, old9 b (by omega) (by omega)⟩, ROW9, h9, by rw [HFI.out]; exact hF9, by omega, by omega⟩
     have MEAS : Hid (rmM r S.n (w8.setCell ⟨d, 1, none⟩ (.slice (some ⟨gb, 0, none⟩) (xs.length + 1) cap)) < rmM r S.n wo) := zH (by
      rw [MI.out, h9.m];simp only [if_true];split
      ·rename_i e
       have := hlim e
       omega
      ·omega)
     clear ROW9 Y9 old9 bel9 z9 e9 hs9 hC1 hown hC4 hi1' hy0 hy1 hy2 hMX hwo hAL h9 hF9 hlim HI6 HFI IMSi Yd ROWi;go_wp2_with fail
     go_roundw
     case rel => exact ⟨xs ++ [(⟨1, m, s, t⟩ : Ln)], some ⟨gb, 0, none⟩, cap, ih, bh, INV9⟩
     case measure => exact MEAS.out
    | false =>
     have IS2 := zH (ris6_any (RdCtx.to TA.out HI5.out.kb hWr hlen) HI5.out.cur ⟨#[105, 115]⟩);go_wp2_with fail
     refine IS2.out.mono ?_; rintro e w6 ⟨rfl, hb6⟩
     have HI6 := zH (HI5.out.on hb6);have hs6 := hb6.size;obtain ⟨v2, hv2⟩ : ∃ v2, (decide (b = 0) && keyS S i (ByteArray.mk #[105, 115]).data.toList) = v2 := ⟨_, rfl⟩;rw [hv2];have HV2 : Hid ((decide (b = 0) && keyS S i kIs) = v2) := zH hv2;clear hv2 hb6 IS2 HI5;cases v2 with
     | true =>
      have hbk : b = 0 /\ keyS S i kIs = true := by have := HV2.out; simpa using this
      obtain ⟨hb0, hks⟩ := hbk;subst hb0;have hin := key_lt hks;have hk : lineK S i = 2 := lineK_is (key_one hks) hks;clear HV1 HV2;have h60 := HI6.out.most;have HFI : Hid (F = restL S l i xs) := zH (by have := HI6.out.fin; rwa [badR_0] at this);have hl26 := HI6.out.lole;have hd6 : d < w6.heap.size := by omega
      have hr6 : r < w6.heap.size := by omega
      have y6 : w6.cell? ⟨d, 1, none⟩ = some (.slice Ad xs.length cd) := by
       have := cZ HI6.out.box 1
       simpa using this
      have c1 := HI6.out.cur.c1;have hlm : ¬ ((xs.length : Int) > 9223372036854775807) := by omega
      have HX6 := zH ((HI6.out.kb.block w.heap.size (by omega)).trans HXW.out);by_cases h60' : xs.length = 60
      ·have hq : ((xs.length : Int) == 60) = true := by simp [h60']
       have FIN : Hid (RuOut w (parU s) (.returned (.tuple #[.agg #[.slice none 0 0, .slice none 0 0], .int .i64 3, .int .i64 i])) (w6.drew.setRow w.heap.size #[.slice none 0 0, .slice none 0 0])) := zH
        ⟨setRow_below (below_over (below_over HBW.out HI6.out.kb) (Below.drew (Below.refl _ _))) (Nat.le_refl _) _, .inr ⟨3, i, by rw [HPF.out, HFI.out]; exact line11_many h60' (by rw [hk]; decide), by decide, rfl⟩⟩
       have SX := HX6.out;clear HI6;go_upto_region 12 with fail
       refine AnyX.start (fun wx => wx.cell? ⟨r, 1, none⟩ = some (.int .i64 i)) (fun _ => false) (by kernel_rfl) ?_;have hH0 : w6.drew.cell? ⟨r, 1, none⟩ = some (.int .i64 i) := c1;refine AnyX.mv (i := 0) (v := ?_) rfl (fun _ _ _ h => h) (Or.inl ⟨by rfl, ?_⟩) ?_;rotate_left
       ·(intro wS _; go_simp; try with_reducible rfl)
       simp only [getElem_toArray, getElem_cons_succ, getElem_cons_zero];simp only [Act.put, setIfInBounds_toArray, set_cons_zero, set_cons_succ];refine AnyX.mv (i := 1) (v := ?_) rfl (fun _ _ _ h => h) (Or.inl ⟨by rfl, ?_⟩) ?_;rotate_left
       ·(intro wS _; go_simp; try with_reducible rfl)
       simp only [getElem_toArray, getElem_cons_succ, getElem_cons_zero];simp only [Act.put, setIfInBounds_toArray, set_cons_zero, set_cons_succ];refine AnyX.mv (i := 2) (v := ?_) rfl (fun _ _ _ h => h) (Or.inl ⟨by rfl, ?_⟩) ?_;rotate_left
       ·(intro wS _; go_simp; try with_reducible rfl)
       simp only [getElem_toArray, getElem_cons_succ, getElem_cons_zero];simp only [Act.put, setIfInBounds_toArray, set_cons_zero, set_cons_succ];refine AnyX.mv (i := 3) (v := ?_) rfl (fun _ _ _ h => h) (Or.inl ⟨by rfl, ?_⟩) ?_;rotate_left
       ·(intro wS _; go_simp; try with_reducible rfl)
       simp only [getElem_toArray, getElem_cons_succ, getElem_cons_zero];simp only [Act.put, setIfInBounds_toArray, set_cons_zero, set_cons_succ];refine AnyX.tk (i := 4) (v := ?_) rfl (fun _ _ _ h => h) hH0 (Or.inl ⟨by rfl, ?_⟩) ?_;rotate_left
       ·(intro wS hS; (try obtain hc := hS); go_simp; try with_reducible rfl)
       simp only [getElem_toArray, getElem_cons_succ, getElem_cons_zero];simp only [Act.put, setIfInBounds_toArray, set_cons_zero, set_cons_succ];refine AnyX.go 5 (by kernel_rfl) rfl rfl (fun K hK => ?_);simp only [getElem_toArray, getElem_cons_succ, getElem_cons_zero];refine wp_store_row 26 (.tmp 2) (.tmp 50) rfl w.heap.size #[.slice none 0 0, .slice none 0 0] rfl rfl _ _ SX usSize rfl usOne ?_;refine hK.out _ _ (fun hoff _ => (World.cell?_of_block (a := ⟨r, 1, none⟩) (setRow_other w6.drew w.heap.size r _ (by omega))).trans hH0) ?_;clear hK;(try simp only [Act.put, setIfInBounds_toArray, set_cons_zero, set_cons_succ]);refine AnyX.mv (i := 6) (v := ?_) rfl (fun _ _ _ h => h) (Or.inl ⟨by rfl, ?_⟩) ?_;rotate_left
       ·(intro wS _; go_simp; try with_reducible rfl)
       simp only [getElem_toArray, getElem_cons_succ, getElem_cons_zero];simp only [Act.put, setIfInBounds_toArray, set_cons_zero, set_cons_succ];refine AnyX.mv (i := 7) (v := ?_) rfl (fun _ _ _ h => h) (Or.inl ⟨by rfl, ?_⟩) ?_;rotate_left
       ·(intro wS _; go_simp; try with_reducible rfl)
       simp only [getElem_toArray, getElem_cons_succ, getElem_cons_zero];simp only [Act.put, setIfInBounds_toArray, set_cons_zero, set_cons_succ];refine AnyX.done (by kernel_rfl) ?_ _;go_wp2_with fail
       exact ret_agg3 (fn := Tryz.f8) (vs := [.slice none 0 0, .slice none 0 0]) (b := w.heap.size) rfl rfl rfl rfl Tryz.underlying26 (by kernel_rfl) (cell2 (setRow_heap _ w.heap.size _ _ _ _ SX)) rfl FIN.out
      have hq : ((xs.length : Int) == 60) = false := by simp; omega
      obtain ⟨wb, hwb⟩ : ∃ wb, wb = w6.alloc (.cells #[.int .i64 1, .string ⟨#[]⟩, .string ⟨#[]⟩, .int .i64 0, .string ⟨#[]⟩, .int .i64 0, .string ⟨#[]⟩, .string ⟨#[]⟩, .slice none 0 0, .slice none 0 0] 59) := ⟨_, rfl⟩;have Bb : Below w6.heap.size w6 wb := by rw [hwb]; exact below_new (Below.refl _ _) _
      obtain ⟨q, hqd⟩ : ∃ q, q = w6.heap.size := ⟨_, rfl⟩;have Ywb : Lx q 1 ⟨#[]⟩ ⟨#[]⟩ [.int .i64 0, .string ⟨#[]⟩, .int .i64 0, .string ⟨#[]⟩, .string ⟨#[]⟩, .slice none 0 0, .slice none 0 0] wb := by rw [hwb, hqd]; exact heap_alloc_new w6 _
      have qwb : q < wb.heap.size := by rw [hwb, hqd]; simp
      have kwb := Kp.of_below (r := r) Bb;have cwb := HI6.out.cur.on Bb;have IS3' := ris6_any (RdCtx.to TA.out (HI6.out.kb.trans ((kwb.below (by omega)).mono hWr)) hWr hlen) cwb ⟨#[105, 115]⟩
      have v3 : (decide ((0 : Nat) = 0) && keyS S i (ByteArray.mk #[105, 115]).data.toList) = true := by
       show (decide ((0 : Nat) = 0) && keyS S i kIs) = _
       rw [hks]; rfl
      rw [v3] at IS3';have IS3 := zH IS3';clear IS3' v3;have HWb := zH hwb;have HQD := zH hqd;have hq6 : w6.heap.size <= q := by omega
      have HBb := zH Bb;have HYwb := zH Ywb;have Hcwb := zH cwb;clear hwb Bb Ywb cwb kwb c1;go_upto_region 14 with fail
      rw [<- HWb.out];try rw [<- HQD.out]
      clear HWb y6 hq hqd;go_wp2_with fail
      refine IS3.out.mono ?_; rintro e w7 ⟨rfl, hb7⟩
      have Yw7 : Lx q 1 ⟨#[]⟩ ⟨#[]⟩ [.int .i64 0, .string ⟨#[]⟩, .int .i64 0, .string ⟨#[]⟩, .string ⟨#[]⟩, .slice none 0 0, .slice none 0 0] w7 := (hb7.block q qwb).trans HYwb.out;have cw7 := Hcwb.out.on hb7;have kw7 : Kp r w6 w7 := Kp.of_below (below_over HBb.out hb7);have qw7 : q < w7.heap.size := Nat.lt_of_lt_of_le qwb hb7.size;clear hb7 IS3 HYwb Hcwb HBb qwb;obtain ⟨w8, hw8⟩ : ∃ w8, w8 = w7.setCell ⟨q, 0, none⟩ (.int .i64 2) := ⟨_, rfl⟩;have Yw8 : Lx q 2 ⟨#[]⟩ ⟨#[]⟩ [.int .i64 0, .string ⟨#[]⟩, .int .i64 0, .string ⟨#[]⟩, .string ⟨#[]⟩, .slice none 0 0, .slice none 0 0] w8 := by rw [hw8]; exact Yw7.kinded
      have ow8 : ∀ b, b ≠ q -> w8.heap[b]? = w7.heap[b]? := fun b hb => by rw [hw8]; exact Below.heap_setCell _ _ _ _ (by show b ≠ q; exact hb)
      have sw8 : w8.heap.size = w7.heap.size := by rw [hw8]; simp
      have kw8 : Kp r w6 w8 := by rw [hw8]; exact kw7.putNew _ (by show w6.heap.size <= q; omega) _
      have cw8 := cw7.other (ow8 r (by omega));have ff := Lib.frozen_of_heap Yw7 0;have mm := cZ Yw7 0;simp at mm;have Hw8 := zH hw8;have HYw8 := zH Yw8;have HCw8 := zH cw8;have HKw8 := zH kw8;have HSw8 := zH sw8;clear hw8 Yw8 ow8 sw8 kw8 cw8 Yw7 cw7 kw7;go_upto_region 16 with fail
      rw [<- Hw8.out];clear ff mm Hw8;have Yw8 := HYw8.out;have cw8 := HCw8.out;have kw8 := HKw8.out;have qw8 : q < w8.heap.size := by have := HSw8.out; omega
      clear HYw8 HCw8 HKw8 HSw8;have a1 := cw8.c1;have f1 := cw8.f 1;obtain ⟨w9, hw9⟩ : ∃ w9, w9 = w8.setCell ⟨r, 1, none⟩ (.int .i64 ((i : Int) + 1)) := ⟨_, rfl⟩;have cw9 : Rm r A S.n cn (i + 1) 0 w9 := by rw [hw9]; exact cw8.up
      have Yw9 : Lx q 2 ⟨#[]⟩ ⟨#[]⟩ [.int .i64 0, .string ⟨#[]⟩, .int .i64 0, .string ⟨#[]⟩, .string ⟨#[]⟩, .slice none 0 0, .slice none 0 0] w9 := (show w9.heap[q]? = w8.heap[q]? by rw [hw9]; exact Below.heap_setCell _ _ _ _ (by show q ≠ r; omega)).trans Yw8;have kw9 : Kp r w6 w9 := by rw [hw9]; exact kw8.put 1 _
      have qw9 : q < w9.heap.size := by rw [hw9]; simpa using qw8
      have HW9 := zH hw9;have HYw9 := zH Yw9;have Hcw9 := zH cw9;have HKw9 := zH kw9;have hw64 : IntKind.i64.wrap ((i : Int) + 1) = (i : Int) + 1 := IntWalk.i64_in _ (by omega);clear hw9 Yw9 cw9 kw9 Yw8 cw8 kw8;go_upto_region 17 with fail
      rw [<- HW9.out];clear a1 f1 HW9 hw64;have Yw9 := HYw9.out;have cw9 := Hcw9.out;have kw9 := HKw9.out;clear HYw9 Hcw9 HKw9;have WD := zH (rwS_any (RdCtx.to TA.out (HI6.out.kb.trans ((kw9.below (by omega)).mono hWr)) hWr hlen) cw9 1);have HYw9 := zH Yw9;have HKw9 := zH kw9;clear Yw9 cw9 kw9;go_wp2_with fail
      refine WD.out.mono ?_; rintro e wa ⟨m, ia, ba, rfl, zwa, cwa, kwa', Nwa⟩
      have Ywa : Lx q 2 ⟨#[]⟩ ⟨#[]⟩ [.int .i64 0, .string ⟨#[]⟩, .int .i64 0, .string ⟨#[]⟩, .string ⟨#[]⟩, .slice none 0 0, .slice none 0 0] wa := (kwa'.blk qw9 (by omega)).trans HYw9.out;have kwa := HKw9.out.trans kwa';have qwa : q < wa.heap.size := Nat.lt_of_lt_of_le qw9 kwa'.size;have HNwa := zH Nwa;clear Nwa kwa' WD HYw9 HKw9 qw9;obtain ⟨wc, hwc⟩ : ∃ wc, wc = wa.setCell ⟨q, 1, none⟩ (.string m) := ⟨_, rfl⟩;have Ywc : Lx q 2 m ⟨#[]⟩ [.int .i64 0, .string ⟨#[]⟩, .int .i64 0, .string ⟨#[]⟩, .string ⟨#[]⟩, .slice none 0 0, .slice none 0 0] wc := by rw [hwc]; exact Ywa.modded
      have owc : ∀ b, b ≠ q -> wc.heap[b]? = wa.heap[b]? := fun b hb => by rw [hwc]; exact Below.heap_setCell _ _ _ _ (by show b ≠ q; exact hb)
      have swc : wc.heap.size = wa.heap.size := by rw [hwc]; simp
      have kwc : Kp r w6 wc := by rw [hwc]; exact kwa.putNew _ (by show w6.heap.size <= q; omega) _
      have cwc := cwa.other (owc r (by omega));have ff := Lib.frozen_of_heap Ywa 1;have mm := cZ Ywa 1;simp at mm;have Hwc := zH hwc;have HYwc := zH Ywc;have HCwc := zH cwc;have HKwc := zH kwc;have HSwc := zH swc;clear hwc Ywc owc swc kwc cwc Ywa cwa kwa;go_upto_region 18 with fail
      rw [<- Hwc.out];clear ff mm Hwc;have Ywc := HYwc.out;have cwc := HCwc.out;have kwc := HKwc.out;have qwc : q < wc.heap.size := by have := HSwc.out; omega
      clear HYwc HCwc HKwc HSwc;have WD := zH (rwK_any (RdCtx.to TA.out (HI6.out.kb.trans ((kwc.below (by omega)).mono hWr)) hWr hlen) cwc 4 ⟨#[46]⟩);have HYwc := zH Ywc;have HKwc := zH kwc;clear Ywc cwc kwc;go_wp2_with fail
      refine WD.out.mono ?_; rintro e wd ⟨sd, id, bd, rfl, zwd, cwd, kwd', Nwd⟩
      have Ywd : Lx q 2 m ⟨#[]⟩ [.int .i64 0, .string ⟨#[]⟩, .int .i64 0, .string ⟨#[]⟩, .string ⟨#[]⟩, .slice none 0 0, .slice none 0 0] wd := (kwd'.blk qwc (by omega)).trans HYwc.out;have kwd := HKwc.out.trans kwd';have qwd : q < wd.heap.size := Nat.lt_of_lt_of_le qwc kwd'.size;have HNwd := zH Nwd;clear Nwd kwd' WD HYwc HKwc qwc;obtain ⟨ed, fd⟩ := nameOut_ps HNwd.out;rw [show (okW S ia 4 fun s => s.data.toList == [46]) = S.sign ia [46] from okW_sign S ia ⟨#[46]⟩] at ed fd;have HED := zH ed;have HFD := zH fd;clear ed fd;have l0 := cZ Ywd 0;simp at l0;have WD := zH (rwG_any (RdCtx.to TA.out (HI6.out.kb.trans ((kwd.below (by omega)).mono hWr)) hWr hlen) cwd 2);have HYwd := zH Ywd;have HKwd := zH kwd;clear Ywd cwd kwd;go_wp2_with fail
      refine WD.out.mono ?_; rintro e we ⟨s, ie, be, rfl, zwe, cwe, kwe', Nwe⟩
      have Ywe : Lx q 2 m ⟨#[]⟩ [.int .i64 0, .string ⟨#[]⟩, .int .i64 0, .string ⟨#[]⟩, .string ⟨#[]⟩, .slice none 0 0, .slice none 0 0] we := (kwe'.blk qwd (by omega)).trans HYwd.out;have kwe := HKwd.out.trans kwe';have qwe : q < we.heap.size := Nat.lt_of_lt_of_le qwd kwe'.size;have HNwe := zH Nwe;clear Nwe kwe' WD HYwd HKwd qwd;clear l0;obtain ⟨wf, hwf⟩ : ∃ wf, wf = we.setCell ⟨q, 2, none⟩ (.string s) := ⟨_, rfl⟩;have Ywf : Lx q 2 m s [.int .i64 0, .string ⟨#[]⟩, .int .i64 0, .string ⟨#[]⟩, .string ⟨#[]⟩, .slice none 0 0, .slice none 0 0] wf := by rw [hwf]; exact Ywe.named
      have owf : ∀ b, b ≠ q -> wf.heap[b]? = we.heap[b]? := fun b hb => by rw [hwf]; exact Below.heap_setCell _ _ _ _ (by show b ≠ q; exact hb)
      have swf : wf.heap.size = we.heap.size := by rw [hwf]; simp
      have kwf : Kp r w6 wf := by rw [hwf]; exact kwe.putNew _ (by show w6.heap.size <= q; omega) _
      have cwf := cwe.other (owf r (by omega));have ff := Lib.frozen_of_heap Ywe 2;have mm := cZ Ywe 2;simp at mm;have Hwf := zH hwf;have HYwf := zH Ywf;have HCwf := zH cwf;have HKwf := zH kwf;have HSwf := zH swf;clear hwf Ywf owf swf kwf cwf Ywe cwe kwe;go_upto_region 23 with fail
      rw [<- Hwf.out];clear ff mm Hwf;have Ywf := HYwf.out;have cwf := HCwf.out;have kwf := HKwf.out;have qwf : q < wf.heap.size := by have := HSwf.out; omega
      clear HYwf HCwf HKwf HSwf;have WD := zH (rwK_any (RdCtx.to TA.out (HI6.out.kb.trans ((kwf.below (by omega)).mono hWr)) hWr hlen) cwf 4 ⟨#[61]⟩);have HYwf := zH Ywf;have HKwf := zH kwf;clear Ywf cwf kwf;go_wp2_with fail
      refine WD.out.mono ?_; rintro e wg ⟨sg, ig, bg, rfl, zwg, cwg, kwg', Nwg⟩
      have Ywg : Lx q 2 m s [.int .i64 0, .string ⟨#[]⟩, .int .i64 0, .string ⟨#[]⟩, .string ⟨#[]⟩, .slice none 0 0, .slice none 0 0] wg := (kwg'.blk qwf (by omega)).trans HYwf.out;have kwg := HKwf.out.trans kwg';have qwg : q < wg.heap.size := Nat.lt_of_lt_of_le qwf kwg'.size;have HNwg := zH Nwg;clear Nwg kwg' WD HYwf HKwf qwf;obtain ⟨eg, fg⟩ := nameOut_ps HNwg.out;rw [show (okW S ie 4 fun s => s.data.toList == [61]) = S.sign ie [61] from okW_sign S ie ⟨#[61]⟩] at eg fg
      have hle : bg = 0 -> ig <= S.n := fun e => by
       have h1 := HNwa.out;rw [okW_small] at h1;have h2 := HNwe.out;rw [okW_great] at h2;rw [eg];exact name_sign_le (fun e' => by rw [HED.out]; exact name_sign_le (b1 := 0) (i5 := i + 1) (fun _ => by omega) h1 (by rw [<- HFD.out]; exact e')) h2 (by rw [<- fg]; exact e)
      have WORDS : Hid (badR bg ig (typL 2 m s (atR S ig)) = lineR S 2 (i + 1)) := zH (by
       have h1 := HNwa.out;rw [okW_small, small_k] at h1;have h2 := HNwe.out;rw [okW_great, great_k] at h2;have := line_words (k := 2) (by decide) h1 HED.out HFD.out h2 eg fg
       rw [badR_0] at this;exact this)
      have RE := zH (rtyp6_any (RdCtx.to TA.out (HI6.out.kb.trans ((kwg.below (by omega)).mono hWr)) hWr hlen) cwg hle);have HYwg := zH Ywg;have HKwg := zH kwg;clear Ywg cwg kwg hle eg fg HED HFD HNwa HNwe HNwd HNwg;go_upto_region 24 with fail
      go_wp2_with fail
      refine RE.out.mono ?_; rintro e wh ⟨l7, t, ih, bh, rfl, hTh, kh, ch, hres⟩
      obtain ⟨An, cA, As, cS, rfl, -⟩ := hTh.parts;have Yh : Lx q 2 m s [.int .i64 0, .string ⟨#[]⟩, .int .i64 0, .string ⟨#[]⟩, .string ⟨#[]⟩, .slice none 0 0, .slice none 0 0] wh := (kh.blk qwg (by omega)).trans HYwg.out;have kwh := HKwg.out.trans kh;have qwh : q < wh.heap.size := Nat.lt_of_lt_of_le qwg kh.size;obtain ⟨wi, hwi⟩ : ∃ wi, wi = wh.setCells q 3 [.int .i64 t.kind, .string t.pkg, .int .i64 t.major, .string t.mod, .string t.name, .slice An t.names.length cA, .slice As t.subs.length cS] := ⟨_, rfl⟩;have Yi : Lx q 2 m s [.int .i64 t.kind, .string t.pkg, .int .i64 t.major, .string t.mod, .string t.name, .slice An t.names.length cA, .slice As t.subs.length cS] wi := by rw [hwi]; exact Yh.put
      have oi : ∀ b, b ≠ q -> wi.heap[b]? = wh.heap[b]? := fun b hb => by rw [hwi]; exact setCells7_other rfl hb
      have si : wi.heap.size = wh.heap.size := by rw [hwi]; exact setCells7_size rfl
      have ki : Kp r w6 wi := by rw [hwi]; exact kwh.putCells q 3 (by omega) rfl
      have ci' := ch.other (oi r (by omega))
      have hsg := kh.size;have Ti : TyAt (strike (· < w6.heap.size + 1) wi) [.int .i64 t.kind, .string t.pkg, .int .i64 t.major, .string t.mod, .string t.name, .slice An t.names.length cA, .slice As t.subs.length cS] t := hTh.move (by omega) fun b hb hS => ⟨by omega, oi b (by omega)⟩
      have RES : Hid (badR bh ih (.ok (⟨2, m, s, t⟩ : Ln) ih 0) = lineR S 2 (i + 1)) := zH (by rw [<- WORDS.out]; exact line_typ hres);have TH := Yh.there;have HWI := zH hwi;have HYi := zH Yi;have HKi := zH ki;have Hci := zH ci';have HTi := zH Ti;have qwi : q < wi.heap.size := by omega
      clear hwi Yi oi si ki ci' Ti Yh kwh hTh kh ch hres RE HYwg HKwg WORDS hsg;go_upto_region 25 with (first | ((with_reducible refine wpList_putMid 48 q 3 #[.int .i64 t.kind, .string t.pkg, .int .i64 t.major, .string t.mod, .string t.name, .slice An t.names.length cA, .slice As t.subs.length cS] ?_ ?_ ?_ ?_ ?_ ?_); exact TH; exact tySize; exact tyOne; rfl; rfl))
      rw [<- HWI.out];clear HWI TH;have Yw := HYi.out;obtain ⟨x0, x1, x2, x3, x4, x5, x6, x7, x8⟩ := cq9 Yw;have x9 := cZ Yw 9;simp at x0 x1 x2 x3 x4 x5 x6 x7 x8 x9;have kis := HKi.out.size;have Yd : Ux d Ai l.length ci Ad xs.length cd wi := (HKi.out.blk hd6 (by omega)).trans HI6.out.box;have y1 := cZ Yd 1;simp at y1;have ROWi := HI6.out.rows.keep (w' := wi) kis (fun b hb hlt => HKi.out.blk hlt (by omega));have IMSi : RowIn imR (strike (fun b => b < lo \/ l2 <= b) wi) Ai l := HI6.out.ims.move kis fun b hb hS => ⟨hS, HKi.out.blk hb (fun e => hS (.inl (by omega)))⟩
      obtain ⟨C, hC1, hown, hC4⟩ := ROWi.cells;obtain ⟨inf, hi1', hy0, hy1, hy2⟩ := info_parts ln_info;have hMX : xs.length + 1 <= maxLen := by unfold maxLen; omega
      have hwo : ∀ b, (Value.slice Ad xs.length cd).ownBlock = some b -> b < w6.heap.size + 1 := fun b e => by have := (HI6.out.rows.lt e).2; omega
      have hAL : ∀ oo, l2 <= (wi.alloc oo).heap.size := fun oo => by have e1 : (wi.alloc oo).heap.size = wi.heap.size + 1 := (by simp); omega
      have kbi : Below W.heap.size W wi := HI6.out.kb.trans ((HKi.out.below (by omega)).mono hWr);have hBw : w6.heap.size + 1 <= wi.heap.size := by have := HQD.out; omega
      have hdl : d < l2 := by omega
      clear Yw;go_wp2_with (first | (refine wpList_append_lies _ rfl (.tmp 88) (.tmp 90) 24 rfl l2 59 inf _ 10 152 Tryz.underlying24 hi1' hy0 hy1 hy2 (by rfl) (Nat.zero_lt_succ 9) (.slice Ad xs.length cd) xs.length _ rfl (hown.alloc _) ⟨wi.heap.size, 0, none⟩ 1 1 [.int .i64 2, .string m, .string s, .int .i64 t.kind, .string t.pkg, .int .i64 t.major, .string t.mod, .string t.name, .slice An t.names.length cA, .slice As t.subs.length cS] rfl rfl (fun q u hq => by rw [WideShapes.add_plain, Nat.zero_add, cZ (heap_alloc_new wi _), <- hq, <- List.getElem?_toArray]) (fun u hu => by simp at hu; rcases hu with rfl | rfl | rfl | rfl | rfl | rfl | rfl | rfl | rfl | rfl <;> rfl) Nat.one_pos hMX (by omega) (hAL _) _ rfl ?_; intro gb cap w8 hown8 hgrow hat hlt8; obtain ⟨ROW9, Y9, old9, bel9, z9, e9, hs9⟩ := row_more (R := lnR) (x := (⟨2, m, s, t⟩ : Ln)) (k := 1) ROWi (B := w6.heap.size + 1) (by omega) hBw hwo hC1 hC4 ⟨⟨zwa, zwe⟩, _, rfl, HTi.out⟩ hown8 hgrow hat hdl Yd rfl; clear hown8 hgrow hat hlt8))
      have hlen9 : (xs ++ [(⟨2, m, s, t⟩ : Ln)]).length = xs.length + 1 := by simp
      have h9 := Hci.out.other (old9 r (by omega) (by omega));obtain ⟨hF9, hlim⟩ := line11_yes (l := l) (xs := xs) (x := (⟨2, m, s, t⟩ : Ln)) (by omega) (by rw [hk]; decide) (by rw [hk]; exact RES.out)
      have INV9 : Hid (P2 W r d lo l2 A S cn F l Ai ci (xs ++ [(⟨2, m, s, t⟩ : Ln)]) (some ⟨gb, 0, none⟩) cap ih bh (w8.setCell ⟨d, 1, none⟩ (.slice (some ⟨gb, 0, none⟩) (xs.length + 1) cap))) := zH
       ⟨kbi.trans (bel9 _ (by omega)), by rw [hlen9]; exact Y9, IMSi.move hs9 fun b hb hS => ⟨hS, old9 b (by omega) (by omega)⟩, ROW9, h9, by rw [HFI.out]; exact hF9, by omega, by omega⟩
      have MEAS : Hid (rmM r S.n (w8.setCell ⟨d, 1, none⟩ (.slice (some ⟨gb, 0, none⟩) (xs.length + 1) cap)) < rmM r S.n wo) := zH (by
       rw [MI.out, h9.m];simp only [if_true];split
       ·rename_i e
        have := hlim e
        omega
       ·omega)
      clear ROW9 Y9 old9 bel9 z9 e9 hs9 hC1 hown hC4 hi1' hy0 hy1 hy2 hMX hwo hAL h9 hF9 hlim HI6 HFI IMSi Yd ROWi;go_wp2_with fail
      go_roundw
      case rel => exact ⟨xs ++ [(⟨2, m, s, t⟩ : Ln)], some ⟨gb, 0, none⟩, cap, ih, bh, INV9⟩
      case measure => exact MEAS.out
     | false =>
      have HX6 := zH ((HI6.out.kb.block w.heap.size (by omega)).trans HXW.out);have hl26 := HI6.out.lole
      have HNO : Hid (F = badR b i (stopL S l i xs)) := zH (by
       rw [HI6.out.fin];exact line11_no HI6.out.most (fun e => lineK_no (by have := HV1.out; simpa [e] using this) (by have := HV2.out; simpa [e] using this)))
      clear HV1 HV2;have v1 := HI6.out.cur.c1;have v2 := HI6.out.cur.c2;have SX := HX6.out;by_cases hb : b = 0
      ·subst hb
       simp at v2;by_cases hin : i < S.n
       ·have f2 := HI6.out.cur.f 2
        obtain ⟨w7, hw7⟩ : ∃ w7, w7 = w6.setCell ⟨r, 2, none⟩ (.int .i64 2) := ⟨_, rfl⟩;have C7 : Rm r A S.n cn i 2 w7 := by rw [hw7]; exact HI6.out.cur.bad 2
        have B7 : Below W.heap.size W w7 := by rw [hw7]; exact below_put HI6.out.kb (by show W.heap.size <= r; omega) _
        have X7 := (B7.block w.heap.size (by omega)).trans HXW.out
        have FIN : Hid (RuOut w (parU s) (.returned (.tuple #[.agg #[.slice none 0 0, .slice none 0 0], .int .i64 2, .int .i64 i])) (w7.drew.setRow w.heap.size #[.slice none 0 0, .slice none 0 0])) := zH
         ⟨setRow_below (below_over (below_over HBW.out B7) (Below.drew (Below.refl _ _))) (Nat.le_refl _) _, .inr ⟨2, i, by rw [HPF.out, HNO.out, badR_0]; unfold stopL; rw [if_pos hin], by decide, rfl⟩⟩
        have HW7 := zH hw7;have HV1 := zH C7.c1;have HV2 := zH C7.c2;have HX7 := zH X7;clear hw7 C7 B7 X7 HI6 HX6 SX;go_upto_region 28 with fail
        rw [<- HW7.out];clear v1 v2 f2 HW7;have v1 := HV1.out;have v2 := HV2.out;simp at v2;have SX := HX7.out;go_upto_region 29 with fail
        refine AnyX.start (fun wx => wx.cell? ⟨r, 2, none⟩ = some (.int .i64 2) /\ wx.cell? ⟨r, 1, none⟩ = some (.int .i64 i)) (fun _ => false) (by kernel_rfl) ?_;have hH0 : w7.drew.cell? ⟨r, 2, none⟩ = some (.int .i64 2) /\ w7.drew.cell? ⟨r, 1, none⟩ = some (.int .i64 i) := ⟨v2, v1⟩;refine AnyX.mv (i := 0) (v := ?_) rfl (fun _ _ _ h => h) (Or.inl ⟨by rfl, ?_⟩) ?_;rotate_left
        ·(intro wS _; go_simp; try with_reducible rfl)
        simp only [getElem_toArray, getElem_cons_succ, getElem_cons_zero];simp only [Act.put, setIfInBounds_toArray, set_cons_zero, set_cons_succ];refine AnyX.mv (i := 1) (v := ?_) rfl (fun _ _ _ h => h) (Or.inl ⟨by rfl, ?_⟩) ?_;rotate_left
        ·(intro wS _; go_simp; try with_reducible rfl)
        simp only [getElem_toArray, getElem_cons_succ, getElem_cons_zero];simp only [Act.put, setIfInBounds_toArray, set_cons_zero, set_cons_succ];refine AnyX.mv (i := 2) (v := ?_) rfl (fun _ _ _ h => h) (Or.inl ⟨by rfl, ?_⟩) ?_;rotate_left
        ·(intro wS _; go_simp; try with_reducible rfl)
        simp only [getElem_toArray, getElem_cons_succ, getElem_cons_zero];simp only [Act.put, setIfInBounds_toArray, set_cons_zero, set_cons_succ];refine AnyX.mv (i := 3) (v := ?_) rfl (fun _ _ _ h => h) (Or.inl ⟨by rfl, ?_⟩) ?_;rotate_left
        ·(intro wS _; go_simp; try with_reducible rfl)
        simp only [getElem_toArray, getElem_cons_succ, getElem_cons_zero];simp only [Act.put, setIfInBounds_toArray, set_cons_zero, set_cons_succ];refine AnyX.tk (i := 4) (v := ?_) rfl (fun _ _ _ h => h) hH0 (Or.inl ⟨by rfl, ?_⟩) ?_;rotate_left
        ·(intro wS hS; (try obtain ⟨hS0, hS1⟩ := hS); go_simp; try with_reducible rfl)
        simp only [getElem_toArray, getElem_cons_succ, getElem_cons_zero];simp only [Act.put, setIfInBounds_toArray, set_cons_zero, set_cons_succ];refine AnyX.mv (i := 5) (v := ?_) rfl (fun _ _ _ h => h) (Or.inl ⟨by rfl, ?_⟩) ?_;rotate_left
        ·(intro wS _; go_simp; try with_reducible rfl)
        simp only [getElem_toArray, getElem_cons_succ, getElem_cons_zero];simp only [Act.put, setIfInBounds_toArray, set_cons_zero, set_cons_succ];refine AnyX.mv (i := 6) (v := ?_) rfl (fun _ _ _ h => h) (Or.inl ⟨by rfl, ?_⟩) ?_;rotate_left
        ·(intro wS _; go_simp; try with_reducible rfl)
        simp only [getElem_toArray, getElem_cons_succ, getElem_cons_zero];simp only [Act.put, setIfInBounds_toArray, set_cons_zero, set_cons_succ];refine AnyX.mv (i := 7) (v := ?_) rfl (fun _ _ _ h => h) (Or.inl ⟨by rfl, ?_⟩) ?_;rotate_left
        ·(intro wS _; go_simp; try with_reducible rfl)
        simp only [getElem_toArray, getElem_cons_succ, getElem_cons_zero];simp only [Act.put, setIfInBounds_toArray, set_cons_zero, set_cons_succ];refine AnyX.tk (i := 8) (v := ?_) rfl (fun _ _ _ h => h) hH0 (Or.inl ⟨by rfl, ?_⟩) ?_;rotate_left
        ·(intro wS hS; (try obtain ⟨hS0, hS1⟩ := hS); go_simp; try with_reducible rfl)
        simp only [getElem_toArray, getElem_cons_succ, getElem_cons_zero];simp only [Act.put, setIfInBounds_toArray, set_cons_zero, set_cons_succ];refine AnyX.go 9 (by kernel_rfl) rfl rfl (fun K hK => ?_);simp only [getElem_toArray, getElem_cons_succ, getElem_cons_zero];refine wp_store_row 26 (.tmp 2) (.tmp 115) rfl w.heap.size #[.slice none 0 0, .slice none 0 0] rfl rfl _ _ SX usSize rfl usOne ?_;refine hK.out _ _ (fun hoff _ => ⟨(World.cell?_of_block (a := ⟨r, 2, none⟩) (setRow_other w7.drew w.heap.size r _ (by omega))).trans hH0.1, (World.cell?_of_block (a := ⟨r, 1, none⟩) (setRow_other w7.drew w.heap.size r _ (by omega))).trans hH0.2⟩) ?_;clear hK;(try simp only [Act.put, setIfInBounds_toArray, set_cons_zero, set_cons_succ]);refine AnyX.mv (i := 10) (v := ?_) rfl (fun _ _ _ h => h) (Or.inl ⟨by rfl, ?_⟩) ?_;rotate_left
        ·(intro wS _; go_simp; try with_reducible rfl)
        simp only [getElem_toArray, getElem_cons_succ, getElem_cons_zero];simp only [Act.put, setIfInBounds_toArray, set_cons_zero, set_cons_succ];refine AnyX.mv (i := 11) (v := ?_) rfl (fun _ _ _ h => h) (Or.inl ⟨by rfl, ?_⟩) ?_;rotate_left
        ·(intro wS _; go_simp; try with_reducible rfl)
        simp only [getElem_toArray, getElem_cons_succ, getElem_cons_zero];simp only [Act.put, setIfInBounds_toArray, set_cons_zero, set_cons_succ];refine AnyX.done (by kernel_rfl) ?_ _;go_wp2_with fail
        exact ret_agg3 (fn := Tryz.f8) (vs := [.slice none 0 0, .slice none 0 0]) (b := w.heap.size) rfl rfl rfl rfl Tryz.underlying26 (by kernel_rfl) (cell2 (setRow_heap _ w.heap.size _ _ _ _ SX)) rfl FIN.out
       ·have hin' : ¬ (i : Int) < S.n := by omega
        obtain ⟨x0, x1⟩ := cq2 HI6.out.box;simp at x0 x1;have mv : ∀ b, b ≠ w.heap.size -> (w6.setRow w.heap.size #[.slice Ai l.length ci, .slice Ad xs.length cd]).heap[b]? = w6.heap[b]? := fun b hb => setRow_other w6 w.heap.size b _ hb
        have FIN : Hid (RuOut w (parU s) (.returned (.tuple #[.agg #[.slice Ai l.length ci, .slice Ad xs.length cd], .int .i64 0, .int .i64 (-1)])) (w6.setRow w.heap.size #[.slice Ai l.length ci, .slice Ad xs.length cd])) := zH
         ⟨setRow_below (below_over HBW.out HI6.out.kb) (Nat.le_refl _) _, .inl ⟨_, ⟨l, xs⟩, i, by rw [HPF.out, HNO.out, badR_0]; unfold stopL; rw [if_neg hin], rfl,
          ⟨Ai, ci, Ad, cd, rfl, by show l.length <= _; omega, by have := HI6.out.most; show xs.length <= _; omega,
           (HI6.out.ims.move (S' := fun b => b < lo) (by simp) fun b hb hS => ⟨fun e => hS (.inl e), mv b (fun e => hS (.inl (by omega)))⟩).free,
           ((HI6.out.rows.done (Nat.le_refl _)).move (S' := fun b => b < l2) (by simp) fun b hb hS => ⟨hS, mv b (by omega)⟩).free⟩⟩⟩
        clear HI6 mv;go_upto_region 30 with fail
        go_wp2_with (first | ((with_reducible refine wpList_putRow 26 (w.heap.size) #[.slice Ai l.length ci, .slice Ad xs.length cd] _ _ SX ?_ ?_ ?_ ?_ ?_ ?_); exact usSize; rfl; exact usOne; iterate 2 (focus (first | (go_simp; done) | rfl))))
        exact ret_agg3 (fn := Tryz.f8) (vs := [.slice Ai l.length ci, .slice Ad xs.length cd]) (b := w.heap.size) rfl rfl rfl rfl Tryz.underlying26 (by kernel_rfl) (cell2 (setRow_heap _ w.heap.size _ _ _ _ HX6.out)) rfl FIN.out
      ·have b1 : (((b : Nat) : Int) == 0) = false := by simp; omega
       have b2 : (((b : Nat) : Int) != 0) = true := by simp; omega
       have FIN : Hid (RuOut w (parU s) (.returned (.tuple #[.agg #[.slice none 0 0, .slice none 0 0], .int .i64 b, .int .i64 i])) (w6.drew.setRow w.heap.size #[.slice none 0 0, .slice none 0 0])) := zH
        ⟨setRow_below (below_over (below_over HBW.out HI6.out.kb) (Below.drew (Below.refl _ _))) (Nat.le_refl _) _, .inr ⟨b, i, by rw [HPF.out, HNO.out, badR_ne _ _ hb], hb, rfl⟩⟩
       clear HI6 HX6 hb;go_upto_region 29 with fail
       refine AnyX.start (fun wx => wx.cell? ⟨r, 2, none⟩ = some (.int .i64 b) /\ wx.cell? ⟨r, 1, none⟩ = some (.int .i64 i)) (fun _ => false) (by kernel_rfl) ?_;have hH0 : w6.drew.cell? ⟨r, 2, none⟩ = some (.int .i64 b) /\ w6.drew.cell? ⟨r, 1, none⟩ = some (.int .i64 i) := ⟨v2, v1⟩;refine AnyX.mv (i := 0) (v := ?_) rfl (fun _ _ _ h => h) (Or.inl ⟨by rfl, ?_⟩) ?_;rotate_left
       ·(intro wS _; go_simp; try with_reducible rfl)
       simp only [getElem_toArray, getElem_cons_succ, getElem_cons_zero];simp only [Act.put, setIfInBounds_toArray, set_cons_zero, set_cons_succ];refine AnyX.mv (i := 1) (v := ?_) rfl (fun _ _ _ h => h) (Or.inl ⟨by rfl, ?_⟩) ?_;rotate_left
       ·(intro wS _; go_simp; try with_reducible rfl)
       simp only [getElem_toArray, getElem_cons_succ, getElem_cons_zero];simp only [Act.put, setIfInBounds_toArray, set_cons_zero, set_cons_succ];refine AnyX.mv (i := 2) (v := ?_) rfl (fun _ _ _ h => h) (Or.inl ⟨by rfl, ?_⟩) ?_;rotate_left
       ·(intro wS _; go_simp; try with_reducible rfl)
       simp only [getElem_toArray, getElem_cons_succ, getElem_cons_zero];simp only [Act.put, setIfInBounds_toArray, set_cons_zero, set_cons_succ];refine AnyX.mv (i := 3) (v := ?_) rfl (fun _ _ _ h => h) (Or.inl ⟨by rfl, ?_⟩) ?_;rotate_left
       ·(intro wS _; go_simp; try with_reducible rfl)
       simp only [getElem_toArray, getElem_cons_succ, getElem_cons_zero];simp only [Act.put, setIfInBounds_toArray, set_cons_zero, set_cons_succ];refine AnyX.tk (i := 4) (v := ?_) rfl (fun _ _ _ h => h) hH0 (Or.inl ⟨by rfl, ?_⟩) ?_;rotate_left
       ·(intro wS hS; (try obtain ⟨hS0, hS1⟩ := hS); go_simp; try with_reducible rfl)
       simp only [getElem_toArray, getElem_cons_succ, getElem_cons_zero];simp only [Act.put, setIfInBounds_toArray, set_cons_zero, set_cons_succ];refine AnyX.mv (i := 5) (v := ?_) rfl (fun _ _ _ h => h) (Or.inl ⟨by rfl, ?_⟩) ?_;rotate_left
       ·(intro wS _; go_simp; try with_reducible rfl)
       simp only [getElem_toArray, getElem_cons_succ, getElem_cons_zero];simp only [Act.put, setIfInBounds_toArray, set_cons_zero, set_cons_succ];refine AnyX.mv (i := 6) (v := ?_) rfl (fun _ _ _ h => h) (Or.inl ⟨by rfl, ?_⟩) ?_;rotate_left
       ·(intro wS _; go_simp; try with_reducible rfl)
       simp only [getElem_toArray, getElem_cons_succ, getElem_cons_zero];simp only [Act.put, setIfInBounds_toArray, set_cons_zero, set_cons_succ];refine AnyX.mv (i := 7) (v := ?_) rfl (fun _ _ _ h => h) (Or.inl ⟨by rfl, ?_⟩) ?_;rotate_left
       ·(intro wS _; go_simp; try with_reducible rfl)
       simp only [getElem_toArray, getElem_cons_succ, getElem_cons_zero];simp only [Act.put, setIfInBounds_toArray, set_cons_zero, set_cons_succ];refine AnyX.tk (i := 8) (v := ?_) rfl (fun _ _ _ h => h) hH0 (Or.inl ⟨by rfl, ?_⟩) ?_;rotate_left
       ·(intro wS hS; (try obtain ⟨hS0, hS1⟩ := hS); go_simp; try with_reducible rfl)
       simp only [getElem_toArray, getElem_cons_succ, getElem_cons_zero];simp only [Act.put, setIfInBounds_toArray, set_cons_zero, set_cons_succ];refine AnyX.go 9 (by kernel_rfl) rfl rfl (fun K hK => ?_);simp only [getElem_toArray, getElem_cons_succ, getElem_cons_zero];refine wp_store_row 26 (.tmp 2) (.tmp 115) rfl w.heap.size #[.slice none 0 0, .slice none 0 0] rfl rfl _ _ SX usSize rfl usOne ?_;refine hK.out _ _ (fun hoff _ => ⟨(World.cell?_of_block (a := ⟨r, 2, none⟩) (setRow_other w6.drew w.heap.size r _ (by omega))).trans hH0.1, (World.cell?_of_block (a := ⟨r, 1, none⟩) (setRow_other w6.drew w.heap.size r _ (by omega))).trans hH0.2⟩) ?_;clear hK;(try simp only [Act.put, setIfInBounds_toArray, set_cons_zero, set_cons_succ]);refine AnyX.mv (i := 10) (v := ?_) rfl (fun _ _ _ h => h) (Or.inl ⟨by rfl, ?_⟩) ?_;rotate_left
       ·(intro wS _; go_simp; try with_reducible rfl)
       simp only [getElem_toArray, getElem_cons_succ, getElem_cons_zero];simp only [Act.put, setIfInBounds_toArray, set_cons_zero, set_cons_succ];refine AnyX.mv (i := 11) (v := ?_) rfl (fun _ _ _ h => h) (Or.inl ⟨by rfl, ?_⟩) ?_;rotate_left
       ·(intro wS _; go_simp; try with_reducible rfl)
       simp only [getElem_toArray, getElem_cons_succ, getElem_cons_zero];simp only [Act.put, setIfInBounds_toArray, set_cons_zero, set_cons_succ];refine AnyX.done (by kernel_rfl) ?_ _;go_wp2_with fail
       exact ret_agg3 (fn := Tryz.f8) (vs := [.slice none 0 0, .slice none 0 0]) (b := w.heap.size) rfl rfl rfl rfl Tryz.underlying26 (by kernel_rfl) (cell2 (setRow_heap _ w.heap.size _ _ _ _ SX)) rfl FIN.out
end Go.Proofs.YtddlmigofilejaaGreatDoor
