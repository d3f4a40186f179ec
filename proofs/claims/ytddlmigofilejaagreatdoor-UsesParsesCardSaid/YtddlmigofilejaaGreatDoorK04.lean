/-
  Several texts in one.
-/
import Derived.Test.YtddlmigofilejaaGreatDoorK05
open List (getElem_toArray getElem_cons_succ getElem_cons_zero set_cons_zero set_cons_succ setIfInBounds_toArray)
set_option maxRecDepth 100000
set_option maxHeartbeats 4000000
namespace Go.Proofs.YtddlmigofilejaaGreatDoor
open Go.RowKit
open Go.Sort
open M
structure CdCtx (W : World) (r : Nat) (A : Option Addr) (S : Toks) (w : World) : Prop where
 toks : TokAt W A S
 below : Below W.heap.size W w
 le : W.heap.size <= r
 big : S.n <= 9223372036854775806
 small : ∀ i, i < S.n -> (S.T i).size <= 281474976710656
theorem CdCtx.on {W : World} {r : Nat} {A : Option Addr} {S : Toks} {w w' : World} (h : CdCtx W r A S w) (hk : Kp r w w') (hr : r < w.heap.size) : CdCtx W r A S w' := ⟨h.toks, h.below.trans ((hk.below hr).mono h.le), h.le, h.big, h.small⟩
def kAt (S : Toks) (b i : Nat) : Int := if b = 0 /\ i < S.n then S.K i else 0
def tAt (S : Toks) (b i : Nat) : ByteArray := if b = 0 /\ i < S.n then S.T i else ⟨#[]⟩
theorem tAt_size {W : World} {r : Nat} {A : Option Addr} {S : Toks} {w : World} (hc : CdCtx W r A S w) (b i : Nat) : (tAt S b i).size <= 281474976710656 := by
 unfold tAt
 split
 ·rename_i h
  exact hc.small i h.2
 ·decide
theorem tokSize : (Tryz.prog.info? 92).map (·.size) = some 3 := by kernel_rfl
theorem tokOne {k y : Int} {s : ByteArray} : (#[.int .i64 k, .int .i64 y, .string s] : Array Value).all (·.oneCell') = true := Array.all_eq_true_iff_forall_mem.2 (fun v hv => by simp at hv; rcases hv with rfl | rfl | rfl <;> rfl)
theorem cell3 {w : World} {b : Nat} {v0 v1 v2 : Value} {T : TypeId} {fr : Nat × Nat} (h : w.heap[b]? = some (.cells #[v0, v1, v2] T fr)) : ∀ i v, ([v0, v1, v2] : List Value)[i]? = some v -> w.cell? ⟨b, i, none⟩ = some v := fun i v hv => by
 rw [cZ h, <- hv, <- List.getElem?_toArray]
theorem done_any {q : Nat} {A : Option Addr} {n cn i b : Nat} {w : World} (h : CSt q A n cn i b w) (hn : n <= 9223372036854775806) :
  Calls Tryz.prog 36 #[.pointer (some ⟨q, 0, none⟩)] w fun e w' => e = .returned (.bool (!(decide (b = 0) && decide (i < n)))) /\ Below w.heap.size w w' := by
 rcases h with ⟨rfl, G⟩ | ⟨hb, x, g, G, -⟩
 ·have c0 := cZ G 0
  have c1 := cZ G 1;have c2 := cZ G 2;simp at c0 c1 c2;by_cases hlt : i < n
  ·have R : Hid ((!(decide (0 = 0) && decide (i < n))) = false) := zH (by simp [hlt])
   rw [R.out];have hlt2 : ¬ n <= i := by omega
   clear G;go_enter Tryz.func36, Tryz.ntmps36
   go_upto_region 1 with fail
   go_quiet (fail)
   go_wp2_with fail
   go_ret;exact ⟨rfl, below_drewN (Below.refl _ _) _⟩
  ·have R : Hid ((!(decide (0 = 0) && decide (i < n))) = true) := zH (by simp; omega)
   rw [R.out];have hle : n <= i := by omega
   clear G;go_enter Tryz.func36, Tryz.ntmps36
   go_upto_region 1 with fail
   go_quiet (fail)
   go_wp2_with fail
   go_ret;exact ⟨rfl, below_drewN (Below.refl _ _) _⟩
 ·have R : Hid ((!(decide (b = 0) && decide (i < n))) = true) := zH (by simp [hb])
  rw [R.out];have c2 := cZ G 2;simp at c2;clear G;go_enter Tryz.func36, Tryz.ntmps36
  go_upto_region 1 with fail
  go_quiet (fail)
  go_wp2_with fail
  go_ret;exact ⟨rfl, below_drewN (Below.refl _ _) _⟩
theorem next_any {W : World} {q : Nat} {A : Option Addr} {S : Toks} {cn i b : Nat} {w : World} (hc : CdCtx W q A S w) (h : CSt q A S.n cn i b w) :
  Calls Tryz.prog 120 #[.pointer (some ⟨q, 0, none⟩)] w fun e w' => ∃ y, e = .returned (tokV (kAt S b i) y (tAt S b i)) /\ Below w.heap.size w w' := by
 have hbig := hc.big
 have hr := h.lt
 obtain ⟨W1, hW1⟩ : ∃ W1, W1 = w.alloc (.cells #[.int .i64 0, .int .i64 0, .string ⟨#[]⟩] 92) := ⟨_, rfl⟩
 have B1 : Below w.heap.size w W1 := by rw [hW1]; exact below_new (Below.refl _ _) _
 have X1 : W1.heap[w.heap.size]? = some (.cells #[.int .i64 0, .int .i64 0, .string ⟨#[]⟩] 92 (0, 0)) := by rw [hW1]; exact heap_alloc_new w _
 have HW1 := zH hW1
 have HB1 := zH B1
 have HX1 := zH X1
 have C1 := h.below B1
 have DN := done_any C1 hbig
 have HC1 := zH C1
 have hl1 : w.heap.size < W1.heap.size := (Array.getElem?_eq_some_iff.1 X1).1
 unfold tokV
 by_cases hok : b = 0 /\ i < S.n
 ·obtain ⟨rfl, hlt⟩ := hok
  have RK : Hid (kAt S 0 i = S.K i) := zH (if_pos ⟨rfl, hlt⟩);have RT : Hid (tAt S 0 i = S.T i) := zH (if_pos ⟨rfl, hlt⟩);rw [RK.out, RT.out];rw [show (!(decide (0 = 0) && decide (i < S.n))) = false by simp [hlt]] at DN;have HDN := zH DN;obtain ⟨g, o, y, rfl, hg, k0, k1, k2, hz⟩ := hc.toks i hlt;have hgr : g < q := Nat.lt_of_lt_of_le hg hc.le;have HM := zH (⟨(hc.below.cell (p := ⟨g, _, none⟩) hg).trans k0, (hc.below.cell (p := ⟨g, _, none⟩) hg).trans k1, (hc.below.cell (p := ⟨g, _, none⟩) hg).trans k2⟩ : w.cell? ⟨g, o + i * 3, none⟩ = some (.int .i64 (S.K i)) /\ w.cell? ⟨g, o + i * 3 + 1, none⟩ = some (.int .i64 y) /\ w.cell? ⟨g, o + i * 3 + 2, none⟩ = some (.string (S.T i)));clear h hW1 B1 X1 k0 k1 k2 hc hg RK RT DN C1;go_enter Tryz.func120, Tryz.ntmps120
  go_upto_region 1 with fail
  rw [<- HW1.out];go_wp2_with fail
  refine HDN.out.mono ?_; rintro e w2 ⟨rfl, B2⟩
  have G := (HC1.out.below B2).good;have c0' := cZ G 0
  have c1' := cZ G 1
  simp at c0' c1';have B02 := below_over HB1.out B2;obtain ⟨m0, m1, m2⟩ := HM.out;obtain ⟨hcB, hfB⟩ := bcell B02;have m0' : w2.cell? ⟨g, o + i * 3, none⟩ = some (.int .i64 (S.K i)) := (hcB g _ (by omega)).trans m0
  have m1' : w2.cell? ⟨g, o + i * 3 + 1, none⟩ = some (.int .i64 y) := (hcB g _ (by omega)).trans m1
  have m2' : w2.cell? ⟨g, o + i * 3 + 2, none⟩ = some (.string (S.T i)) := (hcB g _ (by omega)).trans m2
  have HX2 := zH ((B2.block w.heap.size hl1).trans HX1.out);have HB2 := zH B02;have hl2 : w.heap.size < w2.heap.size := (Array.getElem?_eq_some_iff.1 HX2.out).1;have hlt2 : ¬ S.n <= i := by omega
  clear B2 hcB hfB m0 m1 m2 G B02 HDN;go_wp2_with fail
  refine AnyX.start (fun wx => wx.cell? ⟨q, 0, none⟩ = some (.slice (some ⟨g, o, none⟩) S.n cn) /\ wx.cell? ⟨q, 1, none⟩ = some (.int .i64 i) /\ wx.cell? ⟨g, o + i * 3, none⟩ = some (.int .i64 (S.K i)) /\ wx.cell? ⟨g, o + i * 3 + 1, none⟩ = some (.int .i64 y) /\ wx.cell? ⟨g, o + i * 3 + 2, none⟩ = some (.string (S.T i))) (fun k => k == 10) (by kernel_rfl) ?_;have hH0 : w2.drew.cell? ⟨q, 0, none⟩ = some (.slice (some ⟨g, o, none⟩) S.n cn) /\ w2.drew.cell? ⟨q, 1, none⟩ = some (.int .i64 i) /\ w2.drew.cell? ⟨g, o + i * 3, none⟩ = some (.int .i64 (S.K i)) /\ w2.drew.cell? ⟨g, o + i * 3 + 1, none⟩ = some (.int .i64 y) /\ w2.drew.cell? ⟨g, o + i * 3 + 2, none⟩ = some (.string (S.T i)) := ⟨c0', c1', m0', m1', m2'⟩;refine AnyX.mv (i := 0) (v := ?_) rfl (fun _ _ _ h => h) (Or.inl ⟨by rfl, ?_⟩) ?_;rotate_left
  ·(intro wS _; go_simp; try with_reducible rfl)
  simp only [getElem_toArray, getElem_cons_succ, getElem_cons_zero];simp only [Act.put, setIfInBounds_toArray, set_cons_zero, set_cons_succ];refine AnyX.mv (i := 1) (v := ?_) rfl (fun _ _ _ h => h) (Or.inl ⟨by rfl, ?_⟩) ?_;rotate_left
  ·(intro wS _; go_simp; try with_reducible rfl)
  simp only [getElem_toArray, getElem_cons_succ, getElem_cons_zero];simp only [Act.put, setIfInBounds_toArray, set_cons_zero, set_cons_succ];refine AnyX.mv (i := 2) (v := ?_) rfl (fun _ _ _ h => h) (Or.inl ⟨by rfl, ?_⟩) ?_;rotate_left
  ·(intro wS _; go_simp; try with_reducible rfl)
  simp only [getElem_toArray, getElem_cons_succ, getElem_cons_zero];simp only [Act.put, setIfInBounds_toArray, set_cons_zero, set_cons_succ];refine AnyX.tk (i := 3) (v := ?_) rfl (fun _ _ _ h => h) hH0 (Or.inl ⟨by rfl, ?_⟩) ?_;rotate_left
  ·(intro wS hS; (try obtain ⟨hS1, hS2, hS3, hS4, hS5⟩ := hS); go_simp; try with_reducible rfl)
  simp only [getElem_toArray, getElem_cons_succ, getElem_cons_zero];simp only [Act.put, setIfInBounds_toArray, set_cons_zero, set_cons_succ];refine AnyX.mv (i := 4) (v := ?_) rfl (fun _ _ _ h => h) (Or.inl ⟨by rfl, ?_⟩) ?_;rotate_left
  ·(intro wS _; go_simp; try with_reducible rfl)
  simp only [getElem_toArray, getElem_cons_succ, getElem_cons_zero];simp only [Act.put, setIfInBounds_toArray, set_cons_zero, set_cons_succ];refine AnyX.mv (i := 5) (v := ?_) rfl (fun _ _ _ h => h) (Or.inl ⟨by rfl, ?_⟩) ?_;rotate_left
  ·(intro wS _; go_simp; try with_reducible rfl)
  simp only [getElem_toArray, getElem_cons_succ, getElem_cons_zero];simp only [Act.put, setIfInBounds_toArray, set_cons_zero, set_cons_succ];refine AnyX.mv (i := 6) (v := ?_) rfl (fun _ _ _ h => h) (Or.inl ⟨by rfl, ?_⟩) ?_;rotate_left
  ·(intro wS _; go_simp; try with_reducible rfl)
  simp only [getElem_toArray, getElem_cons_succ, getElem_cons_zero];simp only [Act.put, setIfInBounds_toArray, set_cons_zero, set_cons_succ];refine AnyX.tk (i := 7) (v := ?_) rfl (fun _ _ _ h => h) hH0 (Or.inl ⟨by rfl, ?_⟩) ?_;rotate_left
  ·(intro wS hS; (try obtain ⟨hS1, hS2, hS3, hS4, hS5⟩ := hS); go_simp; try with_reducible rfl)
  simp only [getElem_toArray, getElem_cons_succ, getElem_cons_zero];simp only [Act.put, setIfInBounds_toArray, set_cons_zero, set_cons_succ];refine AnyX.mv (i := 8) (v := ?_) rfl (fun _ _ _ h => h) (Or.inl ⟨by rfl, ?_⟩) ?_;rotate_left
  ·(intro wS _; go_simp; try with_reducible rfl)
  simp only [getElem_toArray, getElem_cons_succ, getElem_cons_zero];simp only [Act.put, setIfInBounds_toArray, set_cons_zero, set_cons_succ];refine AnyX.tk (i := 9) (v := ?_) rfl (fun _ _ _ h => h) hH0 (Or.inl ⟨by rfl, ?_⟩) ?_;rotate_left
  ·(intro wS hS; (try obtain ⟨hS1, hS2, hS3, hS4, hS5⟩ := hS); go_simp; try with_reducible rfl)
  simp only [getElem_toArray, getElem_cons_succ, getElem_cons_zero];simp only [Act.put, setIfInBounds_toArray, set_cons_zero, set_cons_succ];refine AnyX.go 10 (by kernel_rfl) rfl rfl (fun K hK => ?_);simp only [getElem_toArray, getElem_cons_succ, getElem_cons_zero];refine wp_store_row 92 (.tmp 2) (.tmp 15) rfl w.heap.size #[.int .i64 (S.K i), .int .i64 y, .string (S.T i)] rfl rfl _ _ HX2.out tokSize rfl tokOne ?_;refine hK.out _ _ (fun hoff _ => absurd hoff (by decide)) ?_;clear hK;(try simp only [Act.put, setIfInBounds_toArray, set_cons_zero, set_cons_succ]);refine AnyX.done (by kernel_rfl) ?_ _;go_wp2_with fail
  exact ret_agg1 (fn := Tryz.f120) (vs := [.int .i64 (S.K i), .int .i64 y, .string (S.T i)]) (b := w.heap.size) rfl rfl Tryz.underlying92 (by kernel_rfl) (cell3 (setRow_heap w2.drew w.heap.size _ _ _ _ HX2.out)) rfl ⟨y, rfl, HB2.out.trans ⟨rfl, rfl, rfl, by simp, fun j hj => setRow_other w2.drew w.heap.size j _ (by omega)⟩⟩
 ·have RK : Hid (kAt S b i = 0) := zH (if_neg hok)
  have RT : Hid (tAt S b i = ⟨#[]⟩) := zH (if_neg hok);rw [RK.out, RT.out]
  rw [show (!(decide (b = 0) && decide (i < S.n))) = true by
   by_cases hb : b = 0
   ·simp [hb]; have : ¬ i < S.n := fun e => hok ⟨hb, e⟩; omega
   ·simp [hb]] at DN
  have HDN := zH DN;clear h hW1 B1 X1 hc RK RT DN C1 hok;go_enter Tryz.func120, Tryz.ntmps120
  go_upto_region 1 with fail
  rw [<- HW1.out];go_wp2_with fail
  refine HDN.out.mono ?_; rintro e w2 ⟨rfl, B2⟩
  have HX2 := zH ((B2.block w.heap.size hl1).trans HX1.out);have HB2 := zH (below_over HB1.out B2);have X2 := HX2.out;clear B2 HDN;go_upto_region 2 with fail
  go_wp2_with (first | ((with_reducible refine wpList_putRow 92 w.heap.size #[.int .i64 0, .int .i64 0, .string ⟨#[]⟩] _ _ X2 ?_ ?_ ?_ ?_ ?_ ?_); exact tokSize; rfl; exact tokOne; rfl; rfl))
  exact ret_agg1 (fn := Tryz.f120) (vs := [.int .i64 0, .int .i64 0, .string ⟨#[]⟩]) (b := w.heap.size) rfl rfl Tryz.underlying92 (by kernel_rfl) (cell3 (setRow_heap w2 w.heap.size _ _ _ _ HX2.out)) rfl ⟨0, rfl, HB2.out.trans ⟨rfl, rfl, rfl, by simp, fun j hj => setRow_other w2 w.heap.size j _ (by omega)⟩⟩
def mustB (b : Nat) (so : Bool) (code : Nat) : Nat := if b = 0 /\ so = false then code else b
theorem mustB_yes (b code : Nat) : mustB b true code = b := if_neg (fun x => by cases x.2)
theorem mustB_no (code : Nat) : mustB 0 false code = code := rfl
theorem mustB_bad {b : Nat} (so : Bool) (code : Nat) (h : b ≠ 0) : mustB b so code = b := if_neg (fun x => h x.1)
theorem mustB_0 {b : Nat} {so : Bool} {code : Nat} (hco : code ≠ 0) (h : mustB b so code = 0) : b = 0 := by
 by_cases hb : b = 0
 ·exact hb
 ·rw [mustB_bad _ _ hb] at h; exact absurd h hb
theorem must_any {q : Nat} {A : Option Addr} {n cn i b : Nat} {w : World} (h : CSt q A n cn i b w) (so : Bool) (code : Nat) (hco : code ≠ 0) :
  Calls Tryz.prog 71 #[.pointer (some ⟨q, 0, none⟩), .bool so, .int .i64 code] w fun e w' => e = .returned (.tuple #[]) /\ CSt q A n cn i (mustB b so code) w' /\ Kp q w w' := by
 have hr := h.lt
 have HH := zH h
 cases so with
 | true =>
  have R : Hid (mustB b true code = b) := zH (mustB_yes b code);clear h;go_enter Tryz.func71, Tryz.ntmps71
  go_wp2_with fail
  go_end0
  exact ⟨rfl, by rw [R.out]; exact HH.out, Kp.refl _ _⟩
 | false =>
  rcases h with ⟨rfl, G⟩ | ⟨hb, x, g, G, -⟩
  ·have R : Hid (mustB 0 false code = code) := zH rfl
   have c1 := cZ G 1;have c2 := cZ G 2;have f2 := Lib.frozen_of_heap G 2;simp at c1 c2;obtain ⟨w2, hw2⟩ : ∃ w2, w2 = (w.setCell ⟨q, 2, none⟩ (.iface 70 (.pointer (some ⟨w.heap.size, 0, none⟩)))).alloc (.cells #[.int .i64 i, .iface 31 (.int .i64 code)] 75) := ⟨_, rfl⟩
   have FIN : Hid (CSt q A n cn i code w2 /\ Kp q w w2) := zH (by
    have G2 := Joins.block_setCell (i := 2) G (.iface 70 (.pointer (some ⟨w.heap.size, 0, none⟩)));have hsz : (w.setCell ⟨q, 2, none⟩ (.iface 70 (.pointer (some ⟨w.heap.size, 0, none⟩)))).heap.size = w.heap.size := by simp
    rw [hw2];refine ⟨.inr ⟨hco, i, w.heap.size, (Lib.alloc_old _ _ q (by rw [hsz]; exact hr)).trans (by simpa using G2), ?_⟩, ((Kp.refl q w).put 2 _).alloc _⟩;have := heap_alloc_new (w.setCell ⟨q, 2, none⟩ (.iface 70 (.pointer (some ⟨w.heap.size, 0, none⟩)))) (.cells #[.int .i64 i, .iface 31 (.int .i64 code)] 75)
    rw [hsz] at this;exact this)
   have HW2 := zH hw2;clear hw2 G HH;go_enter Tryz.func71, Tryz.ntmps71
   go_wp2_with fail
   rw [<- HW2.out];go_end0
   exact ⟨rfl, by rw [R.out]; exact FIN.out.1, FIN.out.2⟩
  ·have R : Hid (mustB b false code = b) := zH (mustB_bad false code hb)
   have c2 := cZ G 2;simp at c2;clear G;go_enter Tryz.func71, Tryz.ntmps71
   go_wp2_with fail
   go_end0
   exact ⟨rfl, by rw [R.out]; exact HH.out, Kp.refl _ _⟩
def upI (b i : Nat) : Nat := if b = 0 then i + 1 else i
theorem upI_0 (i : Nat) : upI 0 i = i + 1 := rfl
theorem upI_ne {b : Nat} (i : Nat) (h : b ≠ 0) : upI b i = i := if_neg h
theorem CSt.up {q : Nat} {A : Option Addr} {n cn i b : Nat} {w : World} (h : CSt q A n cn i b w) (hi : b = 0 -> i < n) (hn : n <= 9223372036854775806) :
  ∃ x : Int, w.cell? ⟨q, 1, none⟩ = some (.int .i64 x) /\ w.frozen? ⟨q, 1, none⟩ = false /\ CSt q A n cn (upI b i) b (w.setCell ⟨q, 1, none⟩ (.int .i64 (wrap64 (x + 1)))) := by
 have hr := h.lt
 rcases h with ⟨rfl, G⟩ | ⟨hb, x, g, G, Gg⟩
 ·refine ⟨i, by have := cZ G 1; simpa using this, Lib.frozen_of_heap G 1, .inl ⟨rfl, ?_⟩⟩
  have := hi rfl
  have e : wrap64 ((i : Int) + 1) = ((i + 1 : Nat) : Int) := by unfold wrap64; omega
  have h2 := Joins.block_setCell (i := 1) G (.int .i64 (wrap64 ((i : Int) + 1)));rw [upI_0];unfold CGd
  rw [e] at h2 ⊢;simpa using h2
 ·refine ⟨x, by have := cZ G 1; simpa using this, Lib.frozen_of_heap G 1, .inr ⟨hb, ?_⟩⟩
  have h2 := Joins.block_setCell (i := 1) G (.int .i64 (wrap64 (x + 1)));have hgq : g ≠ q := two_types Gg G (by decide);rw [upI_ne _ hb];refine ⟨_, g, by simpa using h2, ?_⟩;rw [Below.heap_setCell _ _ _ _ (by show g ≠ q; exact hgq)];exact Gg
theorem cpass_any {q : Nat} {A : Option Addr} {n cn i b : Nat} {w : World} (h : CSt q A n cn i b w) (hi : b = 0 -> i < n) (hn : n <= 9223372036854775806) :
  Calls Tryz.prog 72 #[.pointer (some ⟨q, 0, none⟩)] w fun e w' => e = .returned (.tuple #[]) /\ CSt q A n cn (upI b i) b w' /\ Kp q w w' := by
 obtain ⟨x, r1, f1, h2⟩ := h.up hi hn
 obtain ⟨w2, hw2⟩ : ∃ w2, w2 = w.setCell ⟨q, 1, none⟩ (.int .i64 (wrap64 (x + 1))) := ⟨_, rfl⟩
 rw [<- hw2] at h2
 have FIN : Hid (CSt q A n cn (upI b i) b w2 /\ Kp q w w2) := zH ⟨h2, by rw [hw2]; exact (Kp.refl q w).put 1 _⟩
 have HW2 := zH hw2
 clear h h2 hw2 hi hn
 go_enter Tryz.func72, Tryz.ntmps72
 go_wp2_with fail
 rw [<- HW2.out]
 go_end0
 exact ⟨rfl, FIN.out.1, FIN.out.2⟩
theorem cerr_no {q : Nat} {A : Option Addr} {n cn i : Nat} {w : World} (h : CSt q A n cn i 0 w) :
  Calls Tryz.prog 124 #[.pointer (some ⟨q, 0, none⟩)] w fun e w' => e = .returned .nilIface /\ w = w' := by
 have c2 := cZ h.good 2
 simp at c2
 clear h
 go_enter Tryz.func124, Tryz.ntmps124
 go_wp2_with fail
 go_ret
 exact ⟨rfl, rfl⟩
theorem cerr_yes {q : Nat} {A : Option Addr} {n cn i b : Nat} {w : World} (h : CSt q A n cn i b w) (hb : b ≠ 0) :
  Calls Tryz.prog 124 #[.pointer (some ⟨q, 0, none⟩)] w fun e w' => ∃ g, e = .returned (.iface 70 (.pointer (some ⟨g, 0, none⟩))) /\ w = w' /\ w.heap[g]? = some (.cells #[.int .i64 i, .iface 31 (.int .i64 b)] 75 (0, 0)) := by
 obtain ⟨x, g, G, Gg⟩ := h.bad hb
 have c2 := cZ G 2
 simp at c2
 have HG := zH Gg
 clear h G Gg
 go_enter Tryz.func124, Tryz.ntmps124
 go_wp2_with fail
 go_ret
 exact ⟨g, rfl, rfl, HG.out⟩
theorem cat_any {q : Nat} {A : Option Addr} {n cn i : Nat} {w : World} (h : CSt q A n cn i 0 w) :
  Calls Tryz.prog 125 #[.pointer (some ⟨q, 0, none⟩)] w fun e w' => e = .returned (.int .i64 i) /\ w = w' := by
 have c1 := cZ h.good 1
 simp at c1
 clear h
 go_enter Tryz.func125, Tryz.ntmps125
 go_wp2_with fail
 go_ret
 exact ⟨rfl, rfl⟩
def standB (S : Toks) (b i : Nat) (kd : Int) (l : List UInt8) : Bool := (kAt S b i == kd) && ((tAt S b i).data.toList == l)
theorem stands_any {W : World} {q : Nat} {A : Option Addr} {S : Toks} {cn i b : Nat} {w : World} (hc : CdCtx W q A S w) (h : CSt q A S.n cn i b w) (kd : Int) (s : ByteArray) :
  Calls Tryz.prog 117 #[.pointer (some ⟨q, 0, none⟩), .int .i64 kd, .string s] w fun e w' => e = .returned (.bool (standB S b i kd s.data.toList)) /\ Below w.heap.size w w' := by
 have hbig := hc.big
 have NX := zH (next_any hc h)
 have E1 := zH (show (tAt S b i).toList = (tAt S b i).data.toList from Lib.toList_data _)
 have E2 := zH (show s.toList = s.data.toList from Lib.toList_data _)
 have HSB : Hid (standB S b i kd s.data.toList = ((kAt S b i == kd) && ((tAt S b i).data.toList == s.data.toList))) := zH rfl
 clear h hc
 go_enter Tryz.func117, Tryz.ntmps117
 go_wp2_with fail
 refine NX.out.mono ?_; rintro e w1 ⟨y, rfl, hb1⟩
 unfold tokV
 obtain ⟨w2, hw2⟩ : ∃ w2, w2 = w1.alloc (.cells #[.int .i64 (kAt S b i), .int .i64 y, .string (tAt S b i)] 92) := ⟨_, rfl⟩
 have B2 : Below w1.heap.size w1 w2 := by rw [hw2]; exact below_new (Below.refl _ _) _
 have T2 : TokBox w1.heap.size (kAt S b i) y (tAt S b i) w2 := by rw [hw2]; exact heap_alloc_new w1 _
 have B02 := zH (below_over hb1 B2)
 have t0 : w2.cell? ⟨w1.heap.size, 0, none⟩ = some (.int .i64 (kAt S b i)) := cZ T2 0
 have t2 : w2.cell? ⟨w1.heap.size, 2, none⟩ = some (.string (tAt S b i)) := cZ T2 2
 have HW2 := zH hw2
 clear hw2 B2 T2 hb1 NX
 generalize hk : kAt S b i = k at HSB HW2 t0 ⊢
 generalize ht : tAt S b i = t at HSB HW2 t2 E1 ⊢
 clear hk ht
 go_upto_region 2 with fail
 rw [<- HW2.out]
 rcases hid_or (k == kd) with a4 | a4
 ·have b4 := a4.out
  have R : Hid (standB S b i kd s.data.toList = false) := zH (by rw [HSB.out, b4]; rfl);go_wp2_with fail
  go_ret;exact ⟨by rw [R.out]; rfl, B02.out⟩
 have b4 := a4.out
 rcases hid_or (t.toList == s.toList) with a5 | a5
 ·have b5 := a5.out
  have R : Hid (standB S b i kd s.data.toList = false) := zH (by rw [HSB.out, b4, <- E1.out, <- E2.out, b5]; rfl);go_wp2_with fail
  go_ret;exact ⟨by rw [R.out]; rfl, B02.out⟩
 ·have b5 := a5.out
  have R : Hid (standB S b i kd s.data.toList = true) := zH (by rw [HSB.out, b4, <- E1.out, <- E2.out, b5]; rfl);go_wp2_with fail
  go_ret;exact ⟨by rw [R.out]; rfl, B02.out⟩
theorem sign_at {S : Toks} {b i : Nat} (l : List UInt8) : ((kAt S b i == 4) && ((tAt S b i).data.toList == l)) = (decide (b = 0) && S.sign i l) := by
 unfold kAt tAt Toks.sign
 by_cases h : b = 0 /\ i < S.n
 ·rw [if_pos h, if_pos h]; simp [h.1, h.2]
 ·rw [if_neg h]
  by_cases hb : b = 0
  ·have : ¬ i < S.n := fun e => h ⟨hb, e⟩
   simp [hb, this]
  ·simp [hb]
theorem psB_0 {b : Nat} {s : Bool} (h : psB b s = 0) : b = 0 := by
 by_cases hb : b = 0
 ·exact hb
 ·rw [psB_bad _ hb] at h; exact absurd h hb
theorem skip_any {W : World} {q : Nat} {A : Option Addr} {S : Toks} {cn i b : Nat} {w : World} (hc : CdCtx W q A S w) (h : CSt q A S.n cn i b w) (s : ByteArray) :
  Calls Tryz.prog 121 #[.pointer (some ⟨q, 0, none⟩), .string s] w fun e w' => e = .returned (.bool (decide (b = 0) && S.sign i s.data.toList)) /\ CSt q A S.n cn (psI b (S.sign i s.data.toList) i) b w' /\ Kp q w w' := by
 have hbig := hc.big
 have ST := stands_any hc h 4 s
 unfold standB at ST
 rw [sign_at] at ST
 have HST := zH ST
 have HH := zH h
 have PS : Hid (∀ w1, CSt q A S.n cn i b w1 -> b = 0 -> S.sign i s.data.toList = true -> Calls Tryz.prog 72 #[.pointer (some ⟨q, 0, none⟩)] w1 fun e w' => e = .returned (.tuple #[]) /\ CSt q A S.n cn (upI b i) b w' /\ Kp q w1 w') :=
  zH (fun w1 h1 hb hs => cpass_any h1 (fun _ => sign_lt hs) hbig)
 clear h hc ST
 go_enter Tryz.func121, Tryz.ntmps121
 go_wp2_with fail
 refine HST.out.mono ?_; rintro e w1 ⟨rfl, hb1⟩
 have H1 := zH (HH.out.below hb1)
 have K1 := zH (Kp.of_below (r := q) hb1)
 obtain ⟨v, hv⟩ : ∃ v, (decide (b = 0) && S.sign i s.data.toList) = v := ⟨_, rfl⟩
 have HV := zH hv
 rw [hv]
 clear hv HST hb1 HH
 cases v with
 | false =>
  have RI : Hid (psI b (S.sign i s.data.toList) i = i) := zH (by
   unfold psI; rw [if_neg]; rintro ⟨e1, e2⟩
   have := HV.out; rw [e1, e2] at this; cases this)
  go_wp2_with fail
  go_ret;exact ⟨by rw [HV.out]; rfl, by rw [RI.out]; exact H1.out, K1.out⟩
 | true =>
  have hb0 : b = 0 /\ S.sign i s.data.toList = true := by have := HV.out; simpa using this
  have RI : Hid (psI b (S.sign i s.data.toList) i = upI b i) := zH (by rw [hb0.1, hb0.2]; rfl);have CP := zH (PS.out w1 H1.out hb0.1 hb0.2);clear hb0 PS;go_wp2_with fail
  refine CP.out.mono ?_; rintro e w2 ⟨rfl, h2, k2⟩
  have H2 := zH h2;have K2 := zH (K1.out.trans k2);clear h2 k2 CP;go_wp2_with fail
  go_ret;exact ⟨by rw [HV.out]; rfl, by rw [RI.out]; exact H2.out, K2.out⟩
theorem csign_any {W : World} {q : Nat} {A : Option Addr} {S : Toks} {cn i b : Nat} {w : World} (hc : CdCtx W q A S w) (h : CSt q A S.n cn i b w) (s : ByteArray) :
  Calls Tryz.prog 76 #[.pointer (some ⟨q, 0, none⟩), .string s] w fun e w' => e = .returned (.tuple #[]) /\ CSt q A S.n cn (psI b (S.sign i s.data.toList) i) (psB b (S.sign i s.data.toList)) w' /\ Kp q w w' := by
 have SK := zH (skip_any hc h s)
 clear hc h
 go_enter Tryz.func76, Tryz.ntmps76
 go_wp2_with fail
 refine SK.out.mono ?_; rintro e w1 ⟨rfl, h1, k1⟩
 have MU := zH (must_any h1 (decide (b = 0) && S.sign i s.data.toList) 2 (by decide))
 have HK1 := zH k1
 have RB : Hid (mustB b (decide (b = 0) && S.sign i s.data.toList) 2 = psB b (S.sign i s.data.toList)) := zH (by
  unfold mustB psB
  by_cases hb : b = 0
  ·subst hb
   cases S.sign i s.data.toList <;> rfl
  ·rw [if_neg (fun x => hb x.1), if_neg (fun x => hb x.1)])
 clear h1 k1 SK
 go_wp2_with fail
 refine MU.out.mono ?_; rintro e w2 ⟨rfl, h2, k2⟩
 go_wp2_with fail
 go_end0
 exact ⟨rfl, by rw [<- RB.out]; exact h2, HK1.out.trans k2⟩
end Go.Proofs.YtddlmigofilejaaGreatDoor
