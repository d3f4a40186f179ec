/-
  Several texts in one.
-/
import Derived.Test.YtddlmigofilejaaGreatDoorK18
open List (getElem_toArray getElem_cons_succ getElem_cons_zero set_cons_zero set_cons_succ setIfInBounds_toArray)
set_option maxRecDepth 100000
set_option maxHeartbeats 4000000
namespace Go.Proofs.YtddlmigofilejaaGreatDoor
open Go.RowKit
open Go.Sort
open M
def RdC6 (S : Toks) (i : Nat) (wb : World) (s3 s4 s5 s6 : Value) (wx : World) : Prop :=
  Below wb.heap.size wb wx /\ ∃ g3 : Nat, s3 = .pointer (some ⟨g3, 0, none⟩) /\ wb.heap.size <= g3 /\
    ((∃ (l : List Value) (t : Ty) (j c : Nat), atR S i = .ok t j c /\ s4 = .int .i64 j /\ s5 = .int .i64 0 /\ wx.heap[g3]? = some (.cells l.toArray 48 (0, 0)) /\ TyAt (strike (fun b => b < wb.heap.size \/ b = g3) wx) l t) \/
     (∃ b j : Nat, atR S i = .err b j /\ b ≠ 0 /\ s5 = .int .i64 b /\ s6 = .int .i64 j))
theorem RdC6.afterOk {S : Toks} {i : Nat} {wb w2 w4 : World} {l : List Value} {t : Ty} {j c g3 : Nat} {s6 : Value} (hb : Below wb.heap.size wb w2) (hg : wb.heap.size <= g3) (hok : atR S i = .ok t j c) (hT : TyAt (strike (fun b => b < wb.heap.size \/ b = g3) w2) l t)
  (hz : w2.heap.size <= w4.heap.size) (hrow : w4.heap[g3]? = some (.cells l.toArray 48 (0, 0))) (ho : ∀ b, b < w2.heap.size -> b ≠ g3 -> w4.heap[b]? = w2.heap[b]?) (h1 : w4.os = w2.os) (h2 : w4.tape = w2.tape) (h3 : w4.output = w2.output) :
  RdC6 S i wb (.pointer (some ⟨g3, 0, none⟩)) (.int .i64 j) (.int .i64 0) s6 w4 :=
 ⟨⟨h1.trans hb.os, h2.trans hb.tape, h3.trans hb.output, Nat.le_trans hb.size hz, fun k hk => (ho k (Nat.lt_of_lt_of_le hk hb.size) (by omega)).trans (hb.block k hk)⟩, g3, rfl, hg, .inl ⟨l, t, j, c, hok, rfl, rfl, hrow, hT.move hz fun b hlt hS => ⟨hS, ho b hlt (fun e => hS (.inr e))⟩⟩⟩
theorem RdC6.afterErr {S : Toks} {i : Nat} {wb w2 w4 : World} {b j g3 : Nat} {s4 : Value} (hb : Below wb.heap.size wb w2) (hg : wb.heap.size <= g3) (herr : atR S i = .err b j) (hb0 : b ≠ 0)
  (hz : w2.heap.size <= w4.heap.size) (ho : ∀ b, b < w2.heap.size -> b ≠ g3 -> w4.heap[b]? = w2.heap[b]?) (h1 : w4.os = w2.os) (h2 : w4.tape = w2.tape) (h3 : w4.output = w2.output) :
  RdC6 S i wb (.pointer (some ⟨g3, 0, none⟩)) s4 (.int .i64 b) (.int .i64 j) w4 :=
 ⟨⟨h1.trans hb.os, h2.trans hb.tape, h3.trans hb.output, Nat.le_trans hb.size hz, fun k hk => (ho k (Nat.lt_of_lt_of_le hk hb.size) (by omega)).trans (hb.block k hk)⟩, g3, rfl, hg, .inr ⟨b, j, herr, hb0, rfl, rfl⟩⟩
def RtyOut (w : World) (r : Nat) (A : Option Addr) (n cn : Nat) (R : Res Ty) (e : Ending) (w' : World) : Prop :=
 ∃ (l : List Value) (t : Ty) (i' b' : Nat), e = .returned (.agg l.toArray) /\ TyAt (strike (· < w.heap.size) w') l t /\ Kp r w w' /\ Rm r A n cn i' b' w' /\ badR b' i' (.ok t i' 0) = R
theorem Rm.other {r : Nat} {A : Option Addr} {n cn i b : Nat} {w w' : World} (h : Rm r A n cn i b w) (e : w'.heap[r]? = w.heap[r]?) : Rm r A n cn i b w' := e.trans h
theorem rtyp6_any {W : World} {r : Nat} {A : Option Addr} {S : Toks} {cn i b : Nat} {w : World} (hc : RdCtx W r A S w) (h : Rm r A S.n cn i b w) (hi : b = 0 -> i <= S.n) :
  Calls Tryz.prog 22 #[.pointer (some ⟨r, 0, none⟩)] w (RtyOut w r A S.n cn (badR b i (cutR (atR S i)))) := by
 have hr := h.lt
 obtain ⟨w0, hw0⟩ : ∃ w0, w0 = w.alloc (.cells #[.int .i64 0, .string ⟨#[]⟩, .int .i64 0, .string ⟨#[]⟩, .string ⟨#[]⟩, .slice none 0 0, .slice none 0 0] 48) := ⟨_, rfl⟩
 have B0 : Below w.heap.size w w0 := by rw [hw0]; exact below_new (Below.refl _ _) _
 have s0 : w0.heap.size = w.heap.size + 1 := by rw [hw0]; simp
 have X0 : Bx w.heap.size w0 := by rw [hw0]; exact heap_alloc_new w _
 have h0 := h.on B0
 have HB0 := zH B0
 have HX0 := zH X0
 have HW0 := zH hw0
 have SS := zH s0
 have HH0 := zH h0
 have a0 := h0.c0
 have a1 := h0.c1
 have a2 := h0.c2
 by_cases hb : b = 0
 rotate_left
 ·have b2 : (((b : Nat) : Int) != 0) = true := by simp; omega
  have SEAL : Hid (RtyOut w r A S.n cn (badR b i (cutR (atR S i))) (.returned (.agg #[.int .i64 0, .string ⟨#[]⟩, .int .i64 0, .string ⟨#[]⟩, .string ⟨#[]⟩, .slice none 0 0, .slice none 0 0])) (w0.setRow w.heap.size #[.int .i64 0, .string ⟨#[]⟩, .int .i64 0, .string ⟨#[]⟩, .string ⟨#[]⟩, .slice none 0 0, .slice none 0 0])) := zH
   ⟨[.int .i64 0, .string ⟨#[]⟩, .int .i64 0, .string ⟨#[]⟩, .string ⟨#[]⟩, .slice none 0 0, .slice none 0 0], noT, i, b, rfl, (TyAt.zero _), ⟨B0.os, B0.tape, B0.output, by have := B0.size; simpa using this, fun j hj _ => (setRow_other w0 w.heap.size j _ (by omega)).trans (B0.block j hj)⟩,
    h0.other (setRow_other w0 w.heap.size r _ (by omega)), by rw [badR_ne _ _ hb, badR_ne _ _ hb]⟩
  unfold Bx at X0
  clear h h0 hc hi hw0 B0 s0 hb;go_enter Tryz.func22, Tryz.ntmps22
  go_upto_region 1 with fail
  rw [<- HW0.out];go_upto_region 2 with fail
  go_wp2_with (first | ((with_reducible refine wpList_putRow 48 (w.heap.size) #[.int .i64 0, .string ⟨#[]⟩, .int .i64 0, .string ⟨#[]⟩, .string ⟨#[]⟩, .slice none 0 0, .slice none 0 0] _ _ X0 ?_ ?_ ?_ ?_ ?_ ?_); exact tySize; rfl; exact tyOne; iterate 2 (focus (first | (go_simp; done) | rfl))))
  exact ret_agg1 (fn := Tryz.f22) (vs := [.int .i64 0, .string ⟨#[]⟩, .int .i64 0, .string ⟨#[]⟩, .string ⟨#[]⟩, .slice none 0 0, .slice none 0 0]) (b := w.heap.size) rfl rfl Tryz.underlying48 (by kernel_rfl) (cell7 (setRow_heap w0 w.heap.size _ _ _ _ HX0.out)) rfl SEAL.out
 subst hb
 simp at a2
 have CA : Hid (∀ wz, Below w.heap.size w wz -> Calls Tryz.prog 43 #[.slice A S.n cn, .int .i64 i] wz (RtOut wz S i)) := zH (fun wz hb => rat_in (cn := cn) (hc.toks.below (hc.below.trans (hb.mono hc.below.size))) hc.big i (hi rfl))
 clear h h0 hc hi hw0 B0 X0 s0
 go_enter Tryz.func22, Tryz.ntmps22
 go_upto_region 1 with fail
 rw [<- HW0.out]
 go_upto_region 3 with fail
 go_cut [3, 4, 5, 6] (fun s3 s4 s5 s6 wx => RdC6 S i w0 s3 s4 s5 s6 wx)
 case first =>
  have hH0 : w0.drew.cell? ⟨r, 0, none⟩ = some (.slice A S.n cn) /\ w0.drew.cell? ⟨r, 1, none⟩ = some (.int .i64 i) := ⟨a0, a1⟩;have BD : Below w0.heap.size w0 w0.drew := Below.drew (Below.refl _ _);clear HX0 HW0 HH0 a0 a1 a2;refine AnyX.start (fun wx => wx.cell? ⟨r, 0, none⟩ = some (.slice A S.n cn) /\ wx.cell? ⟨r, 1, none⟩ = some (.int .i64 i)) (fun k => [8, 15].contains k) (by kernel_rfl) ?_;refine AnyX.mv (i := 0) (v := ?_) rfl (fun _ _ _ h => h) (Or.inl ⟨by rfl, ?_⟩) ?_;rotate_left
  ·(intro wS _; go_simp; try with_reducible rfl)
  simp only [getElem_toArray, getElem_cons_succ, getElem_cons_zero];simp only [Act.put, setIfInBounds_toArray, set_cons_zero, set_cons_succ];refine AnyX.mv (i := 1) (v := ?_) rfl (fun _ _ _ h => h) (Or.inl ⟨by rfl, ?_⟩) ?_;rotate_left
  ·(intro wS _; go_simp; try with_reducible rfl)
  simp only [getElem_toArray, getElem_cons_succ, getElem_cons_zero];simp only [Act.put, setIfInBounds_toArray, set_cons_zero, set_cons_succ];refine AnyX.mv (i := 2) (v := ?_) rfl (fun _ _ _ h => h) (Or.inl ⟨by rfl, ?_⟩) ?_;rotate_left
  ·(intro wS _; go_simp; try with_reducible rfl)
  simp only [getElem_toArray, getElem_cons_succ, getElem_cons_zero];simp only [Act.put, setIfInBounds_toArray, set_cons_zero, set_cons_succ];refine AnyX.tk (i := 3) (v := ?_) rfl (fun _ _ _ h => h) hH0 (Or.inl ⟨by rfl, ?_⟩) ?_;rotate_left
  ·(intro wS hS; (try obtain ⟨hS0, hS1⟩ := hS); go_simp; try with_reducible rfl)
  simp only [getElem_toArray, getElem_cons_succ, getElem_cons_zero];simp only [Act.put, setIfInBounds_toArray, set_cons_zero, set_cons_succ];refine AnyX.mv (i := 4) (v := ?_) rfl (fun _ _ _ h => h) (Or.inl ⟨by rfl, ?_⟩) ?_;rotate_left
  ·(intro wS _; go_simp; try with_reducible rfl)
  simp only [getElem_toArray, getElem_cons_succ, getElem_cons_zero];simp only [Act.put, setIfInBounds_toArray, set_cons_zero, set_cons_succ];refine AnyX.mv (i := 5) (v := ?_) rfl (fun _ _ _ h => h) (Or.inl ⟨by rfl, ?_⟩) ?_;rotate_left
  ·(intro wS _; go_simp; try with_reducible rfl)
  simp only [getElem_toArray, getElem_cons_succ, getElem_cons_zero];simp only [Act.put, setIfInBounds_toArray, set_cons_zero, set_cons_succ];refine AnyX.mv (i := 6) (v := ?_) rfl (fun _ _ _ h => h) (Or.inl ⟨by rfl, ?_⟩) ?_;rotate_left
  ·(intro wS _; go_simp; try with_reducible rfl)
  simp only [getElem_toArray, getElem_cons_succ, getElem_cons_zero];simp only [Act.put, setIfInBounds_toArray, set_cons_zero, set_cons_succ];refine AnyX.tk (i := 7) (v := ?_) rfl (fun _ _ _ h => h) hH0 (Or.inl ⟨by rfl, ?_⟩) ?_;rotate_left
  ·(intro wS hS; (try obtain ⟨hS0, hS1⟩ := hS); go_simp; try with_reducible rfl)
  simp only [getElem_toArray, getElem_cons_succ, getElem_cons_zero];simp only [Act.put, setIfInBounds_toArray, set_cons_zero, set_cons_succ];refine AnyX.go2 8 14 (by kernel_rfl) rfl rfl rfl rfl (fun K hK => ?_) (fun K hK => ?_)
  ·simp only [getElem_toArray, getElem_cons_succ, getElem_cons_zero]
   go_simp
   refine (CA.out _ (below_over HB0.out BD)).mono ?_;rintro e w2 ⟨hb2, ⟨l, t, j, c, hok, rfl, hT⟩ | ⟨b, j, herr, hb0, rfl⟩⟩
   ·obtain ⟨An, cA, As, cS, rfl, -⟩ := hT.parts
    have hs2 := hb2.size;have hsd : w0.drew.heap.size = w0.heap.size := rfl;simp only [];refine hK.out _ _ (fun hoff _ => absurd hoff (by decide)) ?_;clear hK;(try simp only [Act.put, setIfInBounds_toArray, set_cons_zero, set_cons_succ]);refine AnyX.mv (i := 9) (v := ?_) rfl (fun _ _ _ h => h) (Or.inl ⟨by rfl, ?_⟩) ?_;rotate_left
    ·(intro wS _; go_simp; try with_reducible rfl)
    simp only [getElem_toArray, getElem_cons_succ, getElem_cons_zero];simp only [Act.put, setIfInBounds_toArray, set_cons_zero, set_cons_succ];refine AnyX.mv (i := 10) (v := ?_) rfl (fun _ _ _ h => h) (Or.inl ⟨by rfl, ?_⟩) ?_;rotate_left
    ·(intro wS _; go_simp; try with_reducible rfl)
    simp only [getElem_toArray, getElem_cons_succ, getElem_cons_zero];simp only [Act.put, setIfInBounds_toArray, set_cons_zero, set_cons_succ];refine AnyX.mv (i := 11) (v := ?_) rfl (fun _ _ _ h => h) (Or.inl ⟨by rfl, ?_⟩) ?_;rotate_left
    ·(intro wS _; go_simp; try with_reducible rfl)
    simp only [getElem_toArray, getElem_cons_succ, getElem_cons_zero];simp only [Act.put, setIfInBounds_toArray, set_cons_zero, set_cons_succ];refine AnyX.mv (i := 12) (v := ?_) rfl (fun _ _ _ h => h) (Or.inl ⟨by rfl, ?_⟩) ?_;rotate_left
    ·(intro wS _; go_simp; try with_reducible rfl)
    simp only [getElem_toArray, getElem_cons_succ, getElem_cons_zero];simp only [Act.put, setIfInBounds_toArray, set_cons_zero, set_cons_succ];refine AnyX.mv (i := 13) (v := ?_) rfl (fun _ _ _ h => h) (Or.inl ⟨by rfl, ?_⟩) ?_;rotate_left
    ·(intro wS _; go_simp; try with_reducible rfl)
    simp only [getElem_toArray, getElem_cons_succ, getElem_cons_zero];simp only [Act.put, setIfInBounds_toArray, set_cons_zero, set_cons_succ];refine AnyX.go 14 (by kernel_rfl) rfl rfl (fun K hK => ?_);simp only [getElem_toArray, getElem_cons_succ, getElem_cons_zero];go_simp
    refine hK.out _ _ (fun _ hS => ⟨cell_alloc hS.1, cell_alloc hS.2⟩) ?_;clear hK;(try simp only [Act.put, setIfInBounds_toArray, set_cons_zero, set_cons_succ]);refine AnyX.go 15 (by kernel_rfl) rfl rfl (fun K hK => ?_);simp only [getElem_toArray, getElem_cons_succ, getElem_cons_zero];refine wp_store_row 48 (.tmp 3) (.tmp 23) rfl w2.heap.size #[.int .i64 t.kind, .string t.pkg, .int .i64 t.major, .string t.mod, .string t.name, .slice An t.names.length cA, .slice As t.subs.length cS] rfl rfl _ _ (heap_alloc_new w2 _) tySize rfl tyOne ?_;refine hK.out _ _ (fun hoff _ => absurd hoff (by decide)) ?_;clear hK;(try simp only [Act.put, setIfInBounds_toArray, set_cons_zero, set_cons_succ]);refine AnyX.mv (i := 16) (v := ?_) rfl (fun _ _ _ h => h) (Or.inl ⟨by rfl, ?_⟩) ?_;rotate_left
    ·(intro wS _; go_simp; try with_reducible rfl)
    simp only [getElem_toArray, getElem_cons_succ, getElem_cons_zero];simp only [Act.put, setIfInBounds_toArray, set_cons_zero, set_cons_succ];refine AnyX.mv (i := 17) (v := ?_) rfl (fun _ _ _ h => h) (Or.inl ⟨by rfl, ?_⟩) ?_;rotate_left
    ·(intro wS _; go_simp; try with_reducible rfl)
    simp only [getElem_toArray, getElem_cons_succ, getElem_cons_zero];simp only [Act.put, setIfInBounds_toArray, set_cons_zero, set_cons_succ];refine AnyX.mv (i := 18) (v := ?_) rfl (fun _ _ _ h => h) (Or.inl ⟨by rfl, ?_⟩) ?_;rotate_left
    ·(intro wS _; go_simp; try with_reducible rfl)
    simp only [getElem_toArray, getElem_cons_succ, getElem_cons_zero];simp only [Act.put, setIfInBounds_toArray, set_cons_zero, set_cons_succ];refine AnyX.done (by kernel_rfl) ?_ _;go_wp2_with fail
    go_meet
    exact RdC6.afterOk (below_over BD hb2) (by omega) hok (hT.move (Nat.le_refl _) fun b hlt hS => ⟨by rintro (e | e); exact hS e; omega, rfl⟩) (by simp) (setRow_heap _ _ _ _ _ _ (heap_alloc_new w2 _)) (fun b hb _ => (setRow_other _ _ _ _ (by omega)).trans (Lib.alloc_old w2 _ b hb)) rfl rfl rfl
   ·have hs2 := hb2.size
    have hsd : w0.drew.heap.size = w0.heap.size := rfl;simp only [];refine hK.out _ _ (fun hoff _ => absurd hoff (by decide)) ?_;clear hK;(try simp only [Act.put, setIfInBounds_toArray, set_cons_zero, set_cons_succ]);refine AnyX.mv (i := 9) (v := ?_) rfl (fun _ _ _ h => h) (Or.inl ⟨by rfl, ?_⟩) ?_;rotate_left
    ·(intro wS _; go_simp; try with_reducible rfl)
    simp only [getElem_toArray, getElem_cons_succ, getElem_cons_zero];simp only [Act.put, setIfInBounds_toArray, set_cons_zero, set_cons_succ];refine AnyX.mv (i := 10) (v := ?_) rfl (fun _ _ _ h => h) (Or.inl ⟨by rfl, ?_⟩) ?_;rotate_left
    ·(intro wS _; go_simp; try with_reducible rfl)
    simp only [getElem_toArray, getElem_cons_succ, getElem_cons_zero];simp only [Act.put, setIfInBounds_toArray, set_cons_zero, set_cons_succ];refine AnyX.mv (i := 11) (v := ?_) rfl (fun _ _ _ h => h) (Or.inl ⟨by rfl, ?_⟩) ?_;rotate_left
    ·(intro wS _; go_simp; try with_reducible rfl)
    simp only [getElem_toArray, getElem_cons_succ, getElem_cons_zero];simp only [Act.put, setIfInBounds_toArray, set_cons_zero, set_cons_succ];refine AnyX.mv (i := 12) (v := ?_) rfl (fun _ _ _ h => h) (Or.inl ⟨by rfl, ?_⟩) ?_;rotate_left
    ·(intro wS _; go_simp; try with_reducible rfl)
    simp only [getElem_toArray, getElem_cons_succ, getElem_cons_zero];simp only [Act.put, setIfInBounds_toArray, set_cons_zero, set_cons_succ];refine AnyX.mv (i := 13) (v := ?_) rfl (fun _ _ _ h => h) (Or.inl ⟨by rfl, ?_⟩) ?_;rotate_left
    ·(intro wS _; go_simp; try with_reducible rfl)
    simp only [getElem_toArray, getElem_cons_succ, getElem_cons_zero];simp only [Act.put, setIfInBounds_toArray, set_cons_zero, set_cons_succ];refine AnyX.go 14 (by kernel_rfl) rfl rfl (fun K hK => ?_);simp only [getElem_toArray, getElem_cons_succ, getElem_cons_zero];go_simp
    refine hK.out _ _ (fun _ hS => ⟨cell_alloc hS.1, cell_alloc hS.2⟩) ?_;clear hK;(try simp only [Act.put, setIfInBounds_toArray, set_cons_zero, set_cons_succ]);refine AnyX.go 15 (by kernel_rfl) rfl rfl (fun K hK => ?_);simp only [getElem_toArray, getElem_cons_succ, getElem_cons_zero];refine wp_store_row 48 (.tmp 3) (.tmp 23) rfl w2.heap.size #[.int .i64 0, .string ⟨#[]⟩, .int .i64 0, .string ⟨#[]⟩, .string ⟨#[]⟩, .slice none 0 0, .slice none 0 0] rfl rfl _ _ (heap_alloc_new w2 _) tySize rfl tyOne ?_;refine hK.out _ _ (fun hoff _ => absurd hoff (by decide)) ?_;clear hK;(try simp only [Act.put, setIfInBounds_toArray, set_cons_zero, set_cons_succ]);refine AnyX.mv (i := 16) (v := ?_) rfl (fun _ _ _ h => h) (Or.inl ⟨by rfl, ?_⟩) ?_;rotate_left
    ·(intro wS _; go_simp; try with_reducible rfl)
    simp only [getElem_toArray, getElem_cons_succ, getElem_cons_zero];simp only [Act.put, setIfInBounds_toArray, set_cons_zero, set_cons_succ];refine AnyX.mv (i := 17) (v := ?_) rfl (fun _ _ _ h => h) (Or.inl ⟨by rfl, ?_⟩) ?_;rotate_left
    ·(intro wS _; go_simp; try with_reducible rfl)
    simp only [getElem_toArray, getElem_cons_succ, getElem_cons_zero];simp only [Act.put, setIfInBounds_toArray, set_cons_zero, set_cons_succ];refine AnyX.mv (i := 18) (v := ?_) rfl (fun _ _ _ h => h) (Or.inl ⟨by rfl, ?_⟩) ?_;rotate_left
    ·(intro wS _; go_simp; try with_reducible rfl)
    simp only [getElem_toArray, getElem_cons_succ, getElem_cons_zero];simp only [Act.put, setIfInBounds_toArray, set_cons_zero, set_cons_succ];refine AnyX.done (by kernel_rfl) ?_ _;go_wp2_with fail
    go_meet
    exact RdC6.afterErr (below_over BD hb2) (by omega) herr hb0 (by simp) (fun b hb _ => (setRow_other _ _ _ _ (by omega)).trans (Lib.alloc_old w2 _ b hb)) rfl rfl rfl
  ·simp only [getElem_toArray, getElem_cons_succ, getElem_cons_zero]
   go_simp
   refine hK.out _ _ (fun _ hS => ⟨cell_alloc hS.1, cell_alloc hS.2⟩) ?_;clear hK;(try simp only [Act.put, setIfInBounds_toArray, set_cons_zero, set_cons_succ]);obtain ⟨wa, hwa⟩ : ∃ wa, wa = (w0.alloc (.cells #[.int .i64 0, .string ⟨#[]⟩, .int .i64 0, .string ⟨#[]⟩, .string ⟨#[]⟩, .slice none 0 0, .slice none 0 0] 48)).drew := ⟨_, rfl⟩;have Ba : Below w0.heap.size w0 wa := by rw [hwa]; exact Below.drew (below_new (Below.refl _ _) _)
   have Xa : wa.heap[w0.heap.size]? = some (.cells #[.int .i64 0, .string ⟨#[]⟩, .int .i64 0, .string ⟨#[]⟩, .string ⟨#[]⟩, .slice none 0 0, .slice none 0 0] 48 (0, 0)) := by rw [hwa]; exact heap_alloc_new w0 _
   have sa : wa.heap.size = w0.heap.size + 1 := by rw [hwa]; simp
   rw [<- hwa];clear hwa;refine AnyX.go 8 (by kernel_rfl) rfl rfl (fun K hK => ?_);simp only [getElem_toArray, getElem_cons_succ, getElem_cons_zero];go_simp
   refine (CA.out _ (below_over HB0.out Ba)).mono ?_;rintro e w2 ⟨hb2, ⟨l, t, j, c, hok, rfl, hT⟩ | ⟨b, j, herr, hb0, rfl⟩⟩
   ·obtain ⟨An, cA, As, cS, rfl, -⟩ := hT.parts
    have hs2 := hb2.size;have X2 := (hb2.block _ (by omega)).trans Xa;simp only [];refine hK.out _ _ (fun hoff _ => absurd hoff (by decide)) ?_;clear hK;(try simp only [Act.put, setIfInBounds_toArray, set_cons_zero, set_cons_succ]);refine AnyX.mv (i := 9) (v := ?_) rfl (fun _ _ _ h => h) (Or.inl ⟨by rfl, ?_⟩) ?_;rotate_left
    ·(intro wS _; go_simp; try with_reducible rfl)
    simp only [getElem_toArray, getElem_cons_succ, getElem_cons_zero];simp only [Act.put, setIfInBounds_toArray, set_cons_zero, set_cons_succ];refine AnyX.mv (i := 10) (v := ?_) rfl (fun _ _ _ h => h) (Or.inl ⟨by rfl, ?_⟩) ?_;rotate_left
    ·(intro wS _; go_simp; try with_reducible rfl)
    simp only [getElem_toArray, getElem_cons_succ, getElem_cons_zero];simp only [Act.put, setIfInBounds_toArray, set_cons_zero, set_cons_succ];refine AnyX.mv (i := 11) (v := ?_) rfl (fun _ _ _ h => h) (Or.inl ⟨by rfl, ?_⟩) ?_;rotate_left
    ·(intro wS _; go_simp; try with_reducible rfl)
    simp only [getElem_toArray, getElem_cons_succ, getElem_cons_zero];simp only [Act.put, setIfInBounds_toArray, set_cons_zero, set_cons_succ];refine AnyX.mv (i := 12) (v := ?_) rfl (fun _ _ _ h => h) (Or.inl ⟨by rfl, ?_⟩) ?_;rotate_left
    ·(intro wS _; go_simp; try with_reducible rfl)
    simp only [getElem_toArray, getElem_cons_succ, getElem_cons_zero];simp only [Act.put, setIfInBounds_toArray, set_cons_zero, set_cons_succ];refine AnyX.mv (i := 13) (v := ?_) rfl (fun _ _ _ h => h) (Or.inl ⟨by rfl, ?_⟩) ?_;rotate_left
    ·(intro wS _; go_simp; try with_reducible rfl)
    simp only [getElem_toArray, getElem_cons_succ, getElem_cons_zero];simp only [Act.put, setIfInBounds_toArray, set_cons_zero, set_cons_succ];refine AnyX.go 15 (by kernel_rfl) rfl rfl (fun K hK => ?_);simp only [getElem_toArray, getElem_cons_succ, getElem_cons_zero];refine wp_store_row 48 (.tmp 3) (.tmp 23) rfl w0.heap.size #[.int .i64 t.kind, .string t.pkg, .int .i64 t.major, .string t.mod, .string t.name, .slice An t.names.length cA, .slice As t.subs.length cS] rfl rfl _ _ X2 tySize rfl tyOne ?_;refine hK.out _ _ (fun hoff _ => absurd hoff (by decide)) ?_;clear hK;(try simp only [Act.put, setIfInBounds_toArray, set_cons_zero, set_cons_succ]);refine AnyX.mv (i := 16) (v := ?_) rfl (fun _ _ _ h => h) (Or.inl ⟨by rfl, ?_⟩) ?_;rotate_left
    ·(intro wS _; go_simp; try with_reducible rfl)
    simp only [getElem_toArray, getElem_cons_succ, getElem_cons_zero];simp only [Act.put, setIfInBounds_toArray, set_cons_zero, set_cons_succ];refine AnyX.mv (i := 17) (v := ?_) rfl (fun _ _ _ h => h) (Or.inl ⟨by rfl, ?_⟩) ?_;rotate_left
    ·(intro wS _; go_simp; try with_reducible rfl)
    simp only [getElem_toArray, getElem_cons_succ, getElem_cons_zero];simp only [Act.put, setIfInBounds_toArray, set_cons_zero, set_cons_succ];refine AnyX.mv (i := 18) (v := ?_) rfl (fun _ _ _ h => h) (Or.inl ⟨by rfl, ?_⟩) ?_;rotate_left
    ·(intro wS _; go_simp; try with_reducible rfl)
    simp only [getElem_toArray, getElem_cons_succ, getElem_cons_zero];simp only [Act.put, setIfInBounds_toArray, set_cons_zero, set_cons_succ];refine AnyX.done (by kernel_rfl) ?_ _;go_wp2_with fail
    go_meet
    exact RdC6.afterOk (below_over Ba hb2) (Nat.le_refl _) hok (hT.move (Nat.le_refl _) fun b hlt hS => ⟨by rintro (e | e) <;> omega, rfl⟩) (by simp) (setRow_heap _ _ _ _ _ _ X2) (fun b hb hne => setRow_other _ _ _ _ hne) rfl rfl rfl
   ·have hs2 := hb2.size
    have X2 := (hb2.block _ (by omega)).trans Xa;simp only [];refine hK.out _ _ (fun hoff _ => absurd hoff (by decide)) ?_;clear hK;(try simp only [Act.put, setIfInBounds_toArray, set_cons_zero, set_cons_succ]);refine AnyX.mv (i := 9) (v := ?_) rfl (fun _ _ _ h => h) (Or.inl ⟨by rfl, ?_⟩) ?_;rotate_left
    ·(intro wS _; go_simp; try with_reducible rfl)
    simp only [getElem_toArray, getElem_cons_succ, getElem_cons_zero];simp only [Act.put, setIfInBounds_toArray, set_cons_zero, set_cons_succ];refine AnyX.mv (i := 10) (v := ?_) rfl (fun _ _ _ h => h) (Or.inl ⟨by rfl, ?_⟩) ?_;rotate_left
    ·(intro wS _; go_simp; try with_reducible rfl)
    simp only [getElem_toArray, getElem_cons_succ, getElem_cons_zero];simp only [Act.put, setIfInBounds_toArray, set_cons_zero, set_cons_succ];refine AnyX.mv (i := 11) (v := ?_) rfl (fun _ _ _ h => h) (Or.inl ⟨by rfl, ?_⟩) ?_;rotate_left
    ·(intro wS _; go_simp; try with_reducible rfl)
    simp only [getElem_toArray, getElem_cons_succ, getElem_cons_zero];simp only [Act.put, setIfInBounds_toArray, set_cons_zero, set_cons_succ];refine AnyX.mv (i := 12) (v := ?_) rfl (fun _ _ _ h => h) (Or.inl ⟨by rfl, ?_⟩) ?_;rotate_left
    ·(intro wS _; go_simp; try with_reducible rfl)
    simp only [getElem_toArray, getElem_cons_succ, getElem_cons_zero];simp only [Act.put, setIfInBounds_toArray, set_cons_zero, set_cons_succ];refine AnyX.mv (i := 13) (v := ?_) rfl (fun _ _ _ h => h) (Or.inl ⟨by rfl, ?_⟩) ?_;rotate_left
    ·(intro wS _; go_simp; try with_reducible rfl)
    simp only [getElem_toArray, getElem_cons_succ, getElem_cons_zero];simp only [Act.put, setIfInBounds_toArray, set_cons_zero, set_cons_succ];refine AnyX.go 15 (by kernel_rfl) rfl rfl (fun K hK => ?_);simp only [getElem_toArray, getElem_cons_succ, getElem_cons_zero];refine wp_store_row 48 (.tmp 3) (.tmp 23) rfl w0.heap.size #[.int .i64 0, .string ⟨#[]⟩, .int .i64 0, .string ⟨#[]⟩, .string ⟨#[]⟩, .slice none 0 0, .slice none 0 0] rfl rfl _ _ X2 tySize rfl tyOne ?_;refine hK.out _ _ (fun hoff _ => absurd hoff (by decide)) ?_;clear hK;(try simp only [Act.put, setIfInBounds_toArray, set_cons_zero, set_cons_succ]);refine AnyX.mv (i := 16) (v := ?_) rfl (fun _ _ _ h => h) (Or.inl ⟨by rfl, ?_⟩) ?_;rotate_left
    ·(intro wS _; go_simp; try with_reducible rfl)
    simp only [getElem_toArray, getElem_cons_succ, getElem_cons_zero];simp only [Act.put, setIfInBounds_toArray, set_cons_zero, set_cons_succ];refine AnyX.mv (i := 17) (v := ?_) rfl (fun _ _ _ h => h) (Or.inl ⟨by rfl, ?_⟩) ?_;rotate_left
    ·(intro wS _; go_simp; try with_reducible rfl)
    simp only [getElem_toArray, getElem_cons_succ, getElem_cons_zero];simp only [Act.put, setIfInBounds_toArray, set_cons_zero, set_cons_succ];refine AnyX.mv (i := 18) (v := ?_) rfl (fun _ _ _ h => h) (Or.inl ⟨by rfl, ?_⟩) ?_;rotate_left
    ·(intro wS _; go_simp; try with_reducible rfl)
    simp only [getElem_toArray, getElem_cons_succ, getElem_cons_zero];simp only [Act.put, setIfInBounds_toArray, set_cons_zero, set_cons_succ];refine AnyX.done (by kernel_rfl) ?_ _;go_wp2_with fail
    go_meet
    exact RdC6.afterErr (below_over Ba hb2) (Nat.le_refl _) herr hb0 (by simp) (fun b hb hne => setRow_other _ _ _ _ hne) rfl rfl rfl
 case rest =>
  obtain ⟨hbc, g3, rfl, hg3, ⟨l, t, j, c, hok, rfl, rfl, hrow, hT⟩ | ⟨b, j, herr, hb0, rfl, rfl⟩⟩ := hcut
  ·obtain ⟨An, cA, As, cS, rfl, -⟩ := hT.parts
   have ss := SS.out;have hsz := hbc.size;have Gc := HH0.out.on hbc;have f1 := Gc.f 1;have m1 := Gc.c1;have Xc : Bx w.heap.size wc := (hbc.block w.heap.size (by omega)).trans HX0.out;obtain ⟨w5, hw5⟩ : ∃ w5, w5 = wc.setCell ⟨r, 1, none⟩ (.int .i64 j) := ⟨_, rfl⟩;have s5 : w5.heap.size = wc.heap.size := by rw [hw5]; simp
   have o5 : ∀ k, k ≠ r -> w5.heap[k]? = wc.heap[k]? := fun k hk => by rw [hw5]; exact Below.heap_setCell _ _ _ _ (by show k ≠ r; exact hk)
   have G5 : Rm r A S.n cn j 0 w5 := by rw [hw5]; exact Gc.at j
   have X5 : Bx w.heap.size w5 := (o5 _ (by omega)).trans Xc;have R5 := (o5 g3 (by omega)).trans hrow;have K5 : Kp r w w5 := by rw [hw5]; exact (Kp.of_below (below_over HB0.out hbc)).put 1 _
   have SEAL : Hid (RtyOut w r A S.n cn (badR 0 i (cutR (atR S i))) (.returned (.agg #[.int .i64 t.kind, .string t.pkg, .int .i64 t.major, .string t.mod, .string t.name, .slice An t.names.length cA, .slice As t.subs.length cS])) (w5.setRow w.heap.size #[.int .i64 t.kind, .string t.pkg, .int .i64 t.major, .string t.mod, .string t.name, .slice An t.names.length cA, .slice As t.subs.length cS])) := zH
    ⟨[.int .i64 t.kind, .string t.pkg, .int .i64 t.major, .string t.mod, .string t.name, .slice An t.names.length cA, .slice As t.subs.length cS], t, j, 0, rfl, hT.move (by simp [s5]) fun b hlt hS => ⟨fun e => hS (.inl (by omega)), (setRow_other w5 w.heap.size b _ (fun e => hS (.inl (by omega)))).trans (o5 b (fun e => hS (.inl (by omega))))⟩,
     ⟨K5.os, K5.tape, K5.output, by have := K5.size; simpa using this, fun k hk hne => (setRow_other w5 w.heap.size k _ (by omega)).trans (K5.block k hk hne)⟩,
     G5.other (setRow_other w5 w.heap.size r _ (by omega)), by rw [hok]; rfl⟩
   obtain ⟨x0, x1, x2, x3, x4, x5, x6⟩ := cq7 R5;simp at x0 x1 x2 x3 x4 x5 x6;have HX5 := zH X5;have HW5 := zH hw5;unfold Bx at X5
   clear hbc hrow hT Xc hw5 o5 G5 R5 K5 CA HH0 HX0 a0 a1 a2 Gc;go_upto_region 9 with fail
   rw [<- HW5.out];go_wp2_with (first | ((with_reducible refine wpList_putRow 48 (w.heap.size) #[.int .i64 t.kind, .string t.pkg, .int .i64 t.major, .string t.mod, .string t.name, .slice An t.names.length cA, .slice As t.subs.length cS] _ _ X5 ?_ ?_ ?_ ?_ ?_ ?_); exact tySize; rfl; exact tyOne; iterate 2 (focus (first | (go_simp; done) | rfl))))
   exact ret_agg1 (fn := Tryz.f22) (vs := [.int .i64 t.kind, .string t.pkg, .int .i64 t.major, .string t.mod, .string t.name, .slice An t.names.length cA, .slice As t.subs.length cS]) (b := w.heap.size) rfl rfl Tryz.underlying48 (by kernel_rfl) (cell7 (setRow_heap w5 w.heap.size _ _ _ _ HX5.out)) rfl SEAL.out
  ·have ss := SS.out
   have hsz := hbc.size;have Gc := HH0.out.on hbc;have f1 := Gc.f 1;have f2 := Gc.f 2;have m1 := Gc.c1;have m2 := Gc.c2;simp at m2;have Xc : Bx w.heap.size wc := (hbc.block w.heap.size (by omega)).trans HX0.out;obtain ⟨w5, hw5⟩ : ∃ w5, w5 = (wc.setCell ⟨r, 2, none⟩ (.int .i64 b)).setCell ⟨r, 1, none⟩ (.int .i64 j) := ⟨_, rfl⟩;have s5 : w5.heap.size = wc.heap.size := by rw [hw5]; simp
   have o5 : ∀ k, k ≠ r -> w5.heap[k]? = wc.heap[k]? := fun k hk => by rw [hw5, Below.heap_setCell _ _ _ _ (by show k ≠ r; exact hk), Below.heap_setCell _ _ _ _ (by show k ≠ r; exact hk)]
   have G5 : Rm r A S.n cn j b w5 := by rw [hw5]; exact (Gc.bad b).at j
   have X5 : Bx w.heap.size w5 := (o5 _ (by omega)).trans Xc;have K5 : Kp r w w5 := by rw [hw5]; exact ((Kp.of_below (below_over HB0.out hbc)).put 2 _).put 1 _
   have SEAL : Hid (RtyOut w r A S.n cn (badR 0 i (cutR (atR S i))) (.returned (.agg #[.int .i64 0, .string ⟨#[]⟩, .int .i64 0, .string ⟨#[]⟩, .string ⟨#[]⟩, .slice none 0 0, .slice none 0 0])) (w5.setRow w.heap.size #[.int .i64 0, .string ⟨#[]⟩, .int .i64 0, .string ⟨#[]⟩, .string ⟨#[]⟩, .slice none 0 0, .slice none 0 0])) := zH
    ⟨[.int .i64 0, .string ⟨#[]⟩, .int .i64 0, .string ⟨#[]⟩, .string ⟨#[]⟩, .slice none 0 0, .slice none 0 0], noT, j, b, rfl, TyAt.zero _,
     ⟨K5.os, K5.tape, K5.output, by have := K5.size; simpa using this, fun k hk hne => (setRow_other w5 w.heap.size k _ (by omega)).trans (K5.block k hk hne)⟩,
     G5.other (setRow_other w5 w.heap.size r _ (by omega)), by rw [badR_ne _ _ hb0, herr]; rfl⟩
   have b2 : (((b : Nat) : Int) != 0) = true := by simp; omega
   have HX5 := zH X5;have HW5 := zH hw5;unfold Bx at X5
   clear hbc Xc hw5 o5 G5 K5 CA HH0 HX0 a0 a1 a2 Gc herr hb0;go_upto_region 7 with fail
   rw [<- HW5.out];go_wp2_with (first | ((with_reducible refine wpList_putRow 48 (w.heap.size) #[.int .i64 0, .string ⟨#[]⟩, .int .i64 0, .string ⟨#[]⟩, .string ⟨#[]⟩, .slice none 0 0, .slice none 0 0] _ _ X5 ?_ ?_ ?_ ?_ ?_ ?_); exact tySize; rfl; exact tyOne; iterate 2 (focus (first | (go_simp; done) | rfl))))
   exact ret_agg1 (fn := Tryz.f22) (vs := [.int .i64 0, .string ⟨#[]⟩, .int .i64 0, .string ⟨#[]⟩, .string ⟨#[]⟩, .slice none 0 0, .slice none 0 0]) (b := w.heap.size) rfl rfl Tryz.underlying48 (by kernel_rfl) (cell7 (setRow_heap w5 w.heap.size _ _ _ _ HX5.out)) rfl SEAL.out
theorem okW_small (S : Toks) (i : Nat) : okW S i 1 (fun s => smallB s.data.toList) = (decide (i < S.n) && smallK (S.K i) (S.T i)) := rfl
theorem okW_great (S : Toks) (i : Nat) : okW S i 2 (fun s => greatB s.data.toList) = (decide (i < S.n) && greatK (S.K i) (S.T i)) := rfl
theorem okW_key (S : Toks) (i : Nat) (l : ByteArray) : okW S i 1 (fun s => s.data.toList == l.data.toList) = keyS S i l.data.toList := by unfold okW keyS; rw [Bool.and_assoc]
theorem okW_sign (S : Toks) (i : Nat) (l : ByteArray) : okW S i 4 (fun s => s.data.toList == l.data.toList) = S.sign i l.data.toList := by unfold okW Toks.sign; rw [Bool.and_assoc]
theorem nameOut_ps {S : Toks} {q : Bool} {i b : Nat} {s : ByteArray} {i' b' : Nat} (h : NameOut S q i b s i' b') : i' = psI b q i /\ b' = psB b q := by
  rcases h with ⟨rfl, rfl, rfl, rfl, rfl⟩ | ⟨rfl, rfl, rfl, rfl⟩ | ⟨hb, rfl, rfl⟩
  · exact ⟨rfl, rfl⟩
  · exact ⟨rfl, rfl⟩
  · rw [psI_bad _ _ hb, psB_bad _ hb]; exact ⟨rfl, rfl⟩
def Ix (d : Nat) (p : ByteArray) (m : Int) (q a : ByteArray) (w : World) : Prop := w.heap[d]? = some (.cells #[.string p, .int .i64 m, .string q, .string a] 57 (0, 0))
def RiOut (w : World) (r : Nat) (A : Option Addr) (n cn : Nat) (R : Res Im) (e : Ending) (w' : World) : Prop :=
  ∃ (x : Im) (i' b' : Nat), e = .returned (.agg #[.string x.pkg, .int .i64 x.major, .string x.mod, .string x.asn]) /\ x.pkg.size <= 9223372036854775807 /\ x.mod.size <= 9223372036854775807 /\ x.asn.size <= 9223372036854775807 /\ Kp r w w' /\ Rm r A n cn i' b' w' /\ badR b' i' (.ok x i' 0) = R
theorem Rm.up {r : Nat} {A : Option Addr} {n cn i b : Nat} {w : World} (h : Rm r A n cn i b w) : Rm r A n cn (i + 1) b (w.setCell ⟨r, 1, none⟩ (.int .i64 ((i : Int) + 1))) := by have := h.at (i + 1); simpa using this
theorem rimp6_any {W : World} {r : Nat} {A : Option Addr} {S : Toks} {cn i : Nat} {w : World} (hc : RdCtx W r A S w) (h : Rm r A S.n cn i 0 w) (hi : i < S.n) :
    Calls Tryz.prog 20 #[.pointer (some ⟨r, 0, none⟩)] w (RiOut w r A S.n cn (impR S (i + 1))) := by
  have hr := h.lt;have hbig := hc.big;obtain ⟨w0, hw0⟩ : ∃ w0, w0 = w.alloc (.cells #[.string ⟨#[]⟩, .int .i64 0, .string ⟨#[]⟩, .string ⟨#[]⟩] 57) := ⟨_, rfl⟩;have B0 : Below w.heap.size w w0 := by rw [hw0]; exact below_new (Below.refl _ _) _
  have s0 : w0.heap.size = w.heap.size + 1 := by rw [hw0]; simp
  have X0 : w0.heap[w.heap.size]? = some (.cells #[.string ⟨#[]⟩, .int .i64 0, .string ⟨#[]⟩, .string ⟨#[]⟩] 57 (0, 0)) := by rw [hw0]; exact heap_alloc_new w _
  have h0 := h.on B0;have c1 := h0.c1;have f1 := h0.f 1;obtain ⟨w1, hw1⟩ : ∃ w1, w1 = w0.setCell ⟨r, 1, none⟩ (.int .i64 ((i : Int) + 1)) := ⟨_, rfl⟩;have h1 : Rm r A S.n cn (i + 1) 0 w1 := by rw [hw1]; exact h0.up
  have s1 : w1.heap.size = w0.heap.size := by rw [hw1]; simp
  have X1 := (show w1.heap[w.heap.size]? = w0.heap[w.heap.size]? by rw [hw1]; exact Below.heap_setCell _ _ _ _ (by show w.heap.size ≠ r; omega)).trans X0;have K1 : Kp r w w1 := by rw [hw1]; exact (Kp.of_below B0).put 1 _
  obtain ⟨w2, hw2⟩ : ∃ w2, w2 = w1.alloc (.cells #[.string ⟨#[]⟩, .int .i64 0, .string ⟨#[]⟩, .string ⟨#[]⟩] 57) := ⟨_, rfl⟩;have B2 : Below w1.heap.size w1 w2 := by rw [hw2]; exact below_new (Below.refl _ _) _
  have s2 : w2.heap.size = w1.heap.size + 1 := by rw [hw2]; simp
  have Y2 : Ix w1.heap.size ⟨#[]⟩ 0 ⟨#[]⟩ ⟨#[]⟩ w2 := by rw [hw2]; exact heap_alloc_new w1 _
  have X2 := (B2.block w.heap.size (by omega)).trans X1;have K2 := K1.trans (Kp.of_below B2);have H2 := zH (h1.on B2);have HC := zH hc;have HW0 := zH hw0;have HW1 := zH hw1;have HW2 := zH hw2;have HY2 := zH Y2;have HX2 := zH X2;have HK2 := zH K2;have hd1 : w.heap.size < w1.heap.size := by omega
  have hd2 : w1.heap.size < w2.heap.size := by omega
  clear hc h hw0 hw1 hw2 B0 B2 X0 X1 Y2 X2 K1 K2 h0 h1 s0 s1 s2;generalize hdd : w1.heap.size = d at hd1 hd2 HY2
  go_enter Tryz.func20, Tryz.ntmps20
  go_upto_region 1 with fail
  rw [<- HW0.out];go_upto_region 2 with fail
  rw [<- HW1.out];clear c1 f1;go_upto_region 3 with fail
  rw [<- HW2.out];clear HW0 HW1 HW2 hdd;have C2 := HC.out.on HK2.out hr;have CL := zH (rwS_any  C2 H2.out 1);clear C2;go_wp2_with fail
  refine CL.out.mono ?_; rintro e w3 ⟨s0, i1, b1, rfl, z0, h3, k3, hN⟩
  have hs3 := k3.size;have Y3 : Ix d ⟨#[]⟩ 0 ⟨#[]⟩ ⟨#[]⟩ w3 := (k3.blk (by omega) (by omega)).trans HY2.out;have X3 := (k3.blk (by omega) (by omega)).trans HX2.out;have K3 := HK2.out.trans k3;obtain ⟨w4, hw4⟩ : ∃ w4, w4 = w3.setCell ⟨d, 0, none⟩ (.string s0) := ⟨_, rfl⟩;have Y4 : Ix d s0 0 ⟨#[]⟩ ⟨#[]⟩ w4 := by have h2 := Joins.block_setCell (i := 0) Y3 (.string s0); rw [hw4]; simpa [Ix] using h2
  have o4 : ∀ b, b ≠ d -> w4.heap[b]? = w3.heap[b]? := fun b hb => by rw [hw4]; exact Below.heap_setCell _ _ _ _ (by show b ≠ d; exact hb)
  have t4 : w4.heap.size = w3.heap.size := by rw [hw4]; simp
  have HX4 := zH ((o4 w.heap.size (by omega)).trans X3);have HK4 : Hid (Kp r w w4) := zH (by rw [hw4]; exact K3.putNew _ (by show w.heap.size <= d; omega) _);have H4 := zH (h3.other (o4 r (by omega)));have HY4 := zH Y4;have ff := Lib.frozen_of_heap Y3 0;have mm := cZ Y3 0;simp at mm;have HW4 := zH hw4;have hd4 : d < w4.heap.size := by omega
  have HN0 := zH hN;clear CL Y3 Y4 X3 K3 h3 k3 hN HY2 HX2 HK2 H2 hw4 o4 t4 hd2 hs3;go_upto_region 4 with fail
  rw [<- HW4.out];clear mm ff HW4;have C4 := HC.out.on HK4.out hr;have CL := zH (rmaj6_any  C4 H4.out);clear C4;go_wp2_with fail
  refine CL.out.mono ?_; rintro e w5 ⟨v1, i2, b2, rfl, h5, k5, hN⟩
  have hs5 := k5.size;have Y5 : Ix d s0 0 ⟨#[]⟩ ⟨#[]⟩ w5 := (k5.blk (by omega) (by omega)).trans HY4.out;have X5 := (k5.blk (by omega) (by omega)).trans HX4.out;have K5 := HK4.out.trans k5;obtain ⟨w6, hw6⟩ : ∃ w6, w6 = w5.setCell ⟨d, 1, none⟩ (.int .i64 v1) := ⟨_, rfl⟩;have Y6 : Ix d s0 v1 ⟨#[]⟩ ⟨#[]⟩ w6 := by have h2 := Joins.block_setCell (i := 1) Y5 (.int .i64 v1); rw [hw6]; simpa [Ix] using h2
  have o6 : ∀ b, b ≠ d -> w6.heap[b]? = w5.heap[b]? := fun b hb => by rw [hw6]; exact Below.heap_setCell _ _ _ _ (by show b ≠ d; exact hb)
  have t6 : w6.heap.size = w5.heap.size := by rw [hw6]; simp
  have HX6 := zH ((o6 w.heap.size (by omega)).trans X5);have HK6 : Hid (Kp r w w6) := zH (by rw [hw6]; exact K5.putNew _ (by show w.heap.size <= d; omega) _);have H6 := zH (h5.other (o6 r (by omega)));have HY6 := zH Y6;have ff := Lib.frozen_of_heap Y5 1;have mm := cZ Y5 1;simp at mm;have HW6 := zH hw6;have hd6 : d < w6.heap.size := by omega
  have HN1 := zH hN;clear CL Y5 Y6 X5 K5 h5 k5 hN HY4 HX4 HK4 H4 hw6 o6 t6 hd4 hs5;go_upto_region 5 with fail
  rw [<- HW6.out];clear mm ff HW6;have C6 := HC.out.on HK6.out hr;have CL := zH (rwS_any  C6 H6.out 1);clear C6;go_wp2_with fail
  refine CL.out.mono ?_; rintro e w7 ⟨s2, i3, b3, rfl, z2, h7, k7, hN⟩
  have hs7 := k7.size;have Y7 : Ix d s0 v1 ⟨#[]⟩ ⟨#[]⟩ w7 := (k7.blk (by omega) (by omega)).trans HY6.out;have X7 := (k7.blk (by omega) (by omega)).trans HX6.out;have K7 := HK6.out.trans k7;obtain ⟨w8, hw8⟩ : ∃ w8, w8 = w7.setCell ⟨d, 2, none⟩ (.string s2) := ⟨_, rfl⟩;have Y8 : Ix d s0 v1 s2 ⟨#[]⟩ w8 := by have h2 := Joins.block_setCell (i := 2) Y7 (.string s2); rw [hw8]; simpa [Ix] using h2
  have o8 : ∀ b, b ≠ d -> w8.heap[b]? = w7.heap[b]? := fun b hb => by rw [hw8]; exact Below.heap_setCell _ _ _ _ (by show b ≠ d; exact hb)
  have t8 : w8.heap.size = w7.heap.size := by rw [hw8]; simp
  have HX8 := zH ((o8 w.heap.size (by omega)).trans X7);have HK8 : Hid (Kp r w w8) := zH (by rw [hw8]; exact K7.putNew _ (by show w.heap.size <= d; omega) _);have H8 := zH (h7.other (o8 r (by omega)));have HY8 := zH Y8;have ff := Lib.frozen_of_heap Y7 2;have mm := cZ Y7 2;simp at mm;have HW8 := zH hw8;have hd8 : d < w8.heap.size := by omega
  have HN2 := zH hN;clear CL Y7 Y8 X7 K7 h7 k7 hN HY6 HX6 HK6 H6 hw8 o8 t8 hd6 hs7;go_upto_region 6 with fail
  rw [<- HW8.out];clear mm ff HW8;have C8 := HC.out.on HK8.out hr;have CL := zH (rwK_any C8 H8.out 1 ⟨#[97, 115]⟩);clear C8;go_wp2_with fail
  refine CL.out.mono ?_; rintro e w9 ⟨s4, i4, b4, rfl, z4, h9, k9, hN⟩
  have hs9 := k9.size;have Y9 : Ix d s0 v1 s2 ⟨#[]⟩ w9 := (k9.blk (by omega) (by omega)).trans HY8.out;have X9 := (k9.blk (by omega) (by omega)).trans HX8.out;have K9 := HK8.out.trans k9;have hd9 : d < w9.heap.size := by omega
  have HY9 := zH Y9;have HX9 := zH X9;have HK9 := zH K9;have H9 := zH h9;have HNk := zH hN;clear CL Y9 X9 K9 h9 k9 hN HY8 HX8 HK8 H8 hd8 hs9;have C9 := HC.out.on HK9.out hr;have CL := zH (rwS_any  C9 H9.out 1);clear C9;go_wp2_with fail
  refine CL.out.mono ?_; rintro e w10 ⟨s3, i5, b5, rfl, z3, h10, k10, hN⟩
  have hs10 := k10.size;have Y10 : Ix d s0 v1 s2 ⟨#[]⟩ w10 := (k10.blk (by omega) (by omega)).trans HY9.out;have X10 := (k10.blk (by omega) (by omega)).trans HX9.out;have K10 := HK9.out.trans k10;obtain ⟨w11, hw11⟩ : ∃ w11, w11 = w10.setCell ⟨d, 3, none⟩ (.string s3) := ⟨_, rfl⟩;have Y11 : Ix d s0 v1 s2 s3 w11 := by have h2 := Joins.block_setCell (i := 3) Y10 (.string s3); rw [hw11]; simpa [Ix] using h2
  have o11 : ∀ b, b ≠ d -> w11.heap[b]? = w10.heap[b]? := fun b hb => by rw [hw11]; exact Below.heap_setCell _ _ _ _ (by show b ≠ d; exact hb)
  have t11 : w11.heap.size = w10.heap.size := by rw [hw11]; simp
  have HX11 := zH ((o11 w.heap.size (by omega)).trans X10);have HK11 : Hid (Kp r w w11) := zH (by rw [hw11]; exact K10.putNew _ (by show w.heap.size <= d; omega) _);have H11 := zH (h10.other (o11 r (by omega)));have HY11 := zH Y11;have ff := Lib.frozen_of_heap Y10 3;have mm := cZ Y10 3;simp at mm;have HW11 := zH hw11;have hd11 : d < w11.heap.size := by omega
  have HN3 := zH hN;clear CL Y10 Y11 X10 K10 h10 k10 hN HY9 HX9 HK9 H9 hw11 o11 t11 hd9 hs10;go_upto_region 8 with fail
  rw [<- HW11.out];clear mm ff HW11
  have FIN : badR b5 i5 (.ok (⟨s0, v1, s2, s3⟩ : Im) i5 0) = impR S (i + 1) := by
    have a1 := HN0.out;have a3 := HN2.out;have a4 := nameOut_ps HNk.out;have a5 := HN3.out;rw [okW_small] at a1 a3 a5;rw [show (okW S i3 1 fun s => s.data.toList == [97, 115]) = keyS S i3 kAs from okW_key S i3 ⟨#[97, 115]⟩] at a4;rw [a4.1, a4.2] at a5;have := imp_chain a1 HN1.out a3 a5
    rwa [badR_0] at this
  have SEAL : Hid (RiOut w r A S.n cn (impR S (i + 1)) (.returned (.agg #[.string s0, .int .i64 v1, .string s2, .string s3])) (w11.setRow w.heap.size #[.string s0, .int .i64 v1, .string s2, .string s3])) := zH (by
    have K := HK11.out;exact ⟨⟨s0, v1, s2, s3⟩, i5, b5, rfl, z0, z2, z3, ⟨K.os, K.tape, K.output, by have := K.size; simpa using this, fun k hk hne => (setRow_other w11 w.heap.size k _ (by omega)).trans (K.block k hk hne)⟩, H11.out.other (setRow_other w11 w.heap.size r _ (by omega)), FIN⟩)
  have Y := HY11.out;have X := HX11.out;obtain ⟨x0, x1, x2, x3⟩ := cq4 Y;simp at x0 x1 x2 x3;clear Y FIN HN0 HN1 HN2 HN3 HNk HY11 HK11 H11;go_wp2_with (first | ((with_reducible refine wpList_putRow 57 (w.heap.size) #[.string s0, .int .i64 v1, .string s2, .string s3] _ _ X ?_ ?_ ?_ ?_ ?_ ?_); exact impSize; rfl; exact impOne; iterate 2 (focus (first | (go_simp; done) | rfl))))
  exact ret_agg1 (fn := Tryz.f20) (vs := [.string s0, .int .i64 v1, .string s2, .string s3]) (b := w.heap.size) rfl rfl Tryz.underlying57 (by kernel_rfl) (cell4 (setRow_heap _ w.heap.size _ _ _ _ HX11.out)) rfl SEAL.out
theorem row_more {α : Type} {R : Reads α} {lo d g cap c B : Nat} {xs : List α} {A : Option Addr} {w1 w3 : World} {o : Obj} {l : List Value} {x : α} {C : List (List Value)} {old : Array Value} {T : TypeId} {k : Nat}
    (h : Row R lo xs A c w1) (hlo : lo <= B) (hB1 : B <= w1.heap.size) (hwo : ∀ b, (Value.slice A xs.length c).ownBlock = some b -> b < B)
    (hC1 : C.length = xs.length) (hC4 : ∀ (i : Nat) (l : List Value) (x : α), C[i]? = some l -> xs[i]? = some x -> R.E (strike (fun b => b < lo \/ (Value.slice A xs.length c).ownBlock = some b) w1) l x)
    (hE : R.E (strike (· < B) w1) l x) (hown : w3.ownsRow lo R.T R.k (.slice (some ⟨g, 0, none⟩) (xs.length + 1) cap) (xs.length + 1) (C.flatten ++ l)) (hgrow : (w1.alloc o).grownBy w3 (Value.slice A xs.length c).ownBlock)
    (hat : (Value.slice A xs.length c).ownBlock = some g \/ g = (w1.alloc o).heap.size) (hd : d < lo) (hbox : w1.heap[d]? = some (.cells old T (0, 0))) (hk : old[k]? = some (.slice A xs.length c)) :
    Row R lo (xs ++ [x]) (some ⟨g, 0, none⟩) cap (w3.setCell ⟨d, k, none⟩ (.slice (some ⟨g, 0, none⟩) (xs.length + 1) cap)) /\
    (w3.setCell ⟨d, k, none⟩ (.slice (some ⟨g, 0, none⟩) (xs.length + 1) cap)).heap[d]? = some (.cells (old.setIfInBounds k (.slice (some ⟨g, 0, none⟩) (xs.length + 1) cap)) T (0, 0)) /\
    (∀ b, b < lo -> b ≠ d -> (w3.setCell ⟨d, k, none⟩ (.slice (some ⟨g, 0, none⟩) (xs.length + 1) cap)).heap[b]? = w1.heap[b]?) /\
    (∀ m, m <= d -> Below m w1 (w3.setCell ⟨d, k, none⟩ (.slice (some ⟨g, 0, none⟩) (xs.length + 1) cap))) /\
    w3.cell? ⟨d, k, none⟩ = some (.slice A xs.length c) /\ w3.frozen? ⟨d, k, none⟩ = false /\ w1.heap.size <= (w3.setCell ⟨d, k, none⟩ (.slice (some ⟨g, 0, none⟩) (xs.length + 1) cap)).heap.size := by
  obtain ⟨R3, old3, hs3⟩ := Row.more h hlo hwo hC1 hC4 hE hown hgrow hat;have hlow : ∀ b, (Value.slice A xs.length c).ownBlock = some b -> lo <= b := fun b e => (h.lt e).1
  have hd1 : d < w1.heap.size := (Array.getElem?_eq_some_iff.1 hbox).1;have B3 := (old3 d (fun e => by have := hlow d e; omega) hd1).trans hbox;have ot : ∀ b, b ≠ d -> (w3.setCell ⟨d, k, none⟩ (.slice (some ⟨g, 0, none⟩) (xs.length + 1) cap)).heap[b]? = w3.heap[b]? := fun b hb => Below.heap_setCell _ _ _ _ (by show b ≠ d; exact hb)
  have of : ∀ b, b < lo -> b ≠ d -> (w3.setCell ⟨d, k, none⟩ (.slice (some ⟨g, 0, none⟩) (xs.length + 1) cap)).heap[b]? = w1.heap[b]? := fun b hb hne => (ot b hne).trans (old3 b (fun e => by have := hlow b e; omega) (by omega))
  refine ⟨R3.keep (by simp) (fun b hb hlt => ot b (by omega)), Joins.block_setCell (i := k) B3 _, of, fun m hm => ?_, ?_, Lib.frozen_of_heap B3 k, by simp; omega⟩
  · have hgw := hgrow
    exact ⟨hgw.os.trans rfl, hgw.tape.trans rfl, hgw.output.trans rfl, by simp; omega, fun j hj => of j (by omega) (by omega)⟩
  · rw [cZ B3 k]; exact hk
structure J1 (W w : World) (r d lo : Nat) (A : Option Addr) (S : Toks) (cn : Nat) (F : Res Mo) (nm : ByteArray) (xs : List Im) (Ai : Option Addr) (ci i b : Nat) (wr : World) : Prop where
  kb : Below W.heap.size W wr
  box : Mx d nm Ai xs.length ci none 0 0 wr
  rows : Row imR lo xs Ai ci wr
  cur : Rm r A S.n cn i b wr
  fin : F = badR b i (restM S nm (impsR S (21 - xs.length) i xs))
  most : xs.length <= 20
  lole : lo <= wr.heap.size
structure J2 (W w : World) (r d lo l2 : Nat) (A : Option Addr) (S : Toks) (cn : Nat) (F : Res Mo) (nm : ByteArray) (l : List Im) (Ai : Option Addr) (ci : Nat) (xs : List De) (Ad : Option Addr) (cd i b : Nat) (wr : World) : Prop where
  kb : Below W.heap.size W wr
  box : Mx d nm Ai l.length ci Ad xs.length cd wr
  ims : RowIn imR (strike (fun b => b < lo \/ l2 <= b) wr) Ai l
  rows : Row deR l2 xs Ad cd wr
  cur : Rm r A S.n cn i b wr
  fin : F = badR b i (restD S nm l i xs)
  most : xs.length <= 60
  lole : l2 <= wr.heap.size
def rmM (r n : Nat) (w : World) : Nat :=
  match w.heap[r]? with
  | some (Obj.cells cs _ _) => (match cs[1]?, cs[2]? with
    | some (Value.int _ i), some (Value.int _ b) => if b = 0 then n + 3 - i.toNat + 1 else 0
    | _, _ => 0)
  | _ => 0
theorem Rm.m {r : Nat} {A : Option Addr} {n cn i b : Nat} {w : World} (h : Rm r A n cn i b w) : rmM r n w = if b = 0 then n + 3 - i + 1 else 0 := by
  unfold rmM
  unfold Rm at h
  rw [h];by_cases hb : b = 0
  · subst hb; simp
  · simp [hb]
theorem RdCtx.to {W w : World} {r : Nat} {A : Option Addr} {S : Toks} (hT : TokAt W A S) (hb : Below W.heap.size W w) (hr : W.heap.size <= r) (hn : S.n <= 20000) : RdCtx W r A S w := ⟨hT, hb, hr, by omega⟩
end Go.Proofs.YtddlmigofilejaaGreatDoor
