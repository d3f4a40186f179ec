/-
  Several texts in one.
-/
import Derived.Test.YteecgiebimdbhaaGreatDoorK27
open List (getElem_toArray getElem_cons_succ getElem_cons_zero set_cons_zero set_cons_succ setIfInBounds_toArray)
set_option maxRecDepth 100000
set_option maxHeartbeats 4000000
namespace Go.Proofs.YteecgiebimdbhaaGreatDoor
open Go.RowKit
open Go.Sort
open M
theorem ctype_of {W : World} {q : Nat} {A : Option Addr} {S : Toks} {cn i b : Nat} {w : World} (hc : CdCtx W q A S w) (h : CSt q A S.n cn i b w) (he : CEnv W) (hi : b = 0 -> i <= S.n) (hL : b = 0 -> LeafAt S i) :
  Calls Tryz.prog 113 #[.pointer (some ⟨q, 0, none⟩), .func (.func 114) #[] #[]] w (TrOut w q A S.n cn (badR b i (cutR (atR S i)))) := by
 have hq := h.lt
 obtain ⟨w0, hw0⟩ : ∃ w0, w0 = w.alloc (.cells #[.int .i64 0, .string ⟨#[]⟩, .int .i64 0, .string ⟨#[]⟩, .string ⟨#[]⟩, .slice none 0 0, .slice none 0 0] 55) := ⟨_, rfl⟩
 have B0 : Below w.heap.size w w0 := by rw [hw0]; exact below_new (Below.refl _ _) _
 have s0 : w0.heap.size = w.heap.size + 1 := by rw [hw0]; simp
 obtain ⟨w1, hw1⟩ : ∃ w1, w1 = w0.alloc (.cells #[.int .i64 0, .string ⟨#[]⟩, .int .i64 0, .string ⟨#[]⟩, .string ⟨#[]⟩, .slice none 0 0, .slice none 0 0] 55) := ⟨_, rfl⟩
 have B1 : Below w0.heap.size w0 w1 := by rw [hw1]; exact below_new (Below.refl _ _) _
 have s1 : w1.heap.size = w0.heap.size + 1 := by rw [hw1]; simp
 have X0 : Bx w.heap.size w1 := (B1.block _ (by omega)).trans (by rw [hw0]; exact heap_alloc_new w _)
 have X1 : Bx w0.heap.size w1 := by rw [hw1]; exact heap_alloc_new w0 _
 have B01 := below_over B0 B1
 have h1 := h.below B01
 have HB01 := hZ B01
 have HX0 := hZ X0
 have HX1 := hZ X1
 have HW0 := hZ hw0
 have HW1 := hZ hw1
 have SS := hZ (⟨s0, s1⟩ : w0.heap.size = w.heap.size + 1 /\ w1.heap.size = w0.heap.size + 1)
 have HH1 := hZ h1
 unfold Bx at X1
 obtain ⟨z0, z1, z2, z3, z4, z5, z6⟩ := cq7 X1
 simp at z0 z1 z2 z3 z4 z5 z6
 have HZ := hZ (⟨z0, z1, z2, z3, z4, z5, z6⟩ : _ /\ _ /\ _ /\ _ /\ _ /\ _ /\ _)
 by_cases hb : b = 0
 rotate_left
 ·obtain ⟨x, g, G, -⟩ := h1.bad hb
  have c2 := cZ G 2;simp at c2
  have SEAL : Hid (TrOut w q A S.n cn (badR b i (cutR (atR S i))) (.returned (.agg #[.int .i64 0, .string ⟨#[]⟩, .int .i64 0, .string ⟨#[]⟩, .string ⟨#[]⟩, .slice none 0 0, .slice none 0 0])) (w1.setRow w.heap.size #[.int .i64 0, .string ⟨#[]⟩, .int .i64 0, .string ⟨#[]⟩, .string ⟨#[]⟩, .slice none 0 0, .slice none 0 0])) := hZ
   ⟨[.int .i64 0, .string ⟨#[]⟩, .int .i64 0, .string ⟨#[]⟩, .string ⟨#[]⟩, .slice none 0 0, .slice none 0 0], noT, i, b, rfl, (TyAt.zero _), ⟨B01.os, B01.tape, B01.output, by have := B01.size; simpa using this, fun j hj _ => (setRow_other w1 w.heap.size j _ (by omega)).trans (B01.block j hj)⟩,
    h1.keep (setRow_other w1 w.heap.size q _ (by omega)) (fun g vs fr hg => setRow_other w1 w.heap.size g _ (two_types hg X0 (by decide))), by rw [badR_ne _ _ hb, badR_ne _ _ hb]⟩
  unfold Bx at X0
  clear h h1 hc he hi hw0 hw1 B0 B1 B01 X1 s0 s1 G;go_enter Tryz.func113, Tryz.ntmps113
  go_upto_region 1 with fail
  rw [<- HW0.out];go_upto_region 2 with fail
  rw [<- HW1.out];go_upto_region 3 with fail
  go_wp2_with (first | ((with_reducible refine wpList_putRow 55 (w.heap.size) #[.int .i64 0, .string ⟨#[]⟩, .int .i64 0, .string ⟨#[]⟩, .string ⟨#[]⟩, .slice none 0 0, .slice none 0 0] _ _ X0 ?_ ?_ ?_ ?_ ?_ ?_); exact tySize; rfl; exact tyOne; iterate 2 (focus (first | (go_simp; done) | rfl))))
  exact ret_agg1 (fn := Tryz.f113) (vs := [.int .i64 0, .string ⟨#[]⟩, .int .i64 0, .string ⟨#[]⟩, .string ⟨#[]⟩, .slice none 0 0, .slice none 0 0]) (b := w.heap.size) rfl rfl Tryz.underlying55 (by kernel_rfl) (cell7 (setRow_heap w1 w.heap.size _ _ _ _ HX0.out)) rfl SEAL.out
 subst hb
 have G1 := h1.good
 obtain ⟨a0, a1, a2⟩ := cq3 G1
 simp at a0 a1 a2
 have CA : Hid (∀ wz, Below w.heap.size w wz -> Calls Tryz.prog 114 #[.slice A S.n cn, .int .i64 i] wz (AtOut wz S i)) := hZ (fun wz hb => cat_of (cn := cn) (hc.toks.below (hc.below.trans (hb.mono hc.below.size))) (he.on (hc.below.trans (hb.mono hc.below.size))) hc.big hc.small i (hi rfl) (hL rfl))
 clear hL
 have G1' := hZ G1
 clear h h1 hc he hi hw0 hw1 B0 B1 B01 X0 X1 s0 s1 G1
 go_enter Tryz.func113, Tryz.ntmps113
 go_upto_region 1 with fail
 rw [<- HW0.out]
 go_upto_region 2 with fail
 rw [<- HW1.out]
 go_upto_region 4 with fail
 go_cut [6, 7, 8] (fun s6 s7 s8 wx => RdC S i w1 s6 s7 s8 wx)
 case first =>
  have hH0 : w1.drew.cell? ⟨q, 0, none⟩ = some (.slice A S.n cn) /\ w1.drew.cell? ⟨q, 1, none⟩ = some (.int .i64 i) := ⟨a0, a1⟩;have BD : Below w1.heap.size w1 w1.drew := Below.drew (Below.refl _ _);clear HX0 HX1 HW0 HW1 HH1 HZ G1' z0 z1 z2 z3 z4 z5 z6 a0 a1 a2;refine AnyX.start (fun wx => wx.cell? ⟨q, 0, none⟩ = some (.slice A S.n cn) /\ wx.cell? ⟨q, 1, none⟩ = some (.int .i64 i)) (fun k => [9, 15].contains k) (by kernel_rfl) ?_;refine AnyX.mv (i := 0) (v := ?_) rfl (fun _ _ _ h => h) (Or.inl ⟨by rfl, ?_⟩) ?_;rotate_left
  ·(intro wS _; go_simp; try with_reducible rfl)
  simp only [getElem_toArray, getElem_cons_succ, getElem_cons_zero];simp only [Act.put, setIfInBounds_toArray, set_cons_zero, set_cons_succ];refine AnyX.mv (i := 1) (v := ?_) rfl (fun _ _ _ h => h) (Or.inl ⟨by rfl, ?_⟩) ?_;rotate_left
  ·(intro wS _; go_simp; try with_reducible rfl)
  simp only [getElem_toArray, getElem_cons_succ, getElem_cons_zero];simp only [Act.put, setIfInBounds_toArray, set_cons_zero, set_cons_succ];refine AnyX.mv (i := 2) (v := ?_) rfl (fun _ _ _ h => h) (Or.inl ⟨by rfl, ?_⟩) ?_;rotate_left
  ·(intro wS _; go_simp; try with_reducible rfl)
  simp only [getElem_toArray, getElem_cons_succ, getElem_cons_zero];simp only [Act.put, setIfInBounds_toArray, set_cons_zero, set_cons_succ];refine AnyX.mv (i := 3) (v := ?_) rfl (fun _ _ _ h => h) (Or.inl ⟨by rfl, ?_⟩) ?_;rotate_left
  ·(intro wS _; go_simp; try with_reducible rfl)
  simp only [getElem_toArray, getElem_cons_succ, getElem_cons_zero];simp only [Act.put, setIfInBounds_toArray, set_cons_zero, set_cons_succ];refine AnyX.tk (i := 4) (v := ?_) rfl (fun _ _ _ h => h) hH0 (Or.inl ⟨by rfl, ?_⟩) ?_;rotate_left
  ·(intro wS hS; (try obtain ⟨hS0, hS1⟩ := hS); go_simp; try with_reducible rfl)
  simp only [getElem_toArray, getElem_cons_succ, getElem_cons_zero];simp only [Act.put, setIfInBounds_toArray, set_cons_zero, set_cons_succ];refine AnyX.mv (i := 5) (v := ?_) rfl (fun _ _ _ h => h) (Or.inl ⟨by rfl, ?_⟩) ?_;rotate_left
  ·(intro wS _; go_simp; try with_reducible rfl)
  simp only [getElem_toArray, getElem_cons_succ, getElem_cons_zero];simp only [Act.put, setIfInBounds_toArray, set_cons_zero, set_cons_succ];refine AnyX.mv (i := 6) (v := ?_) rfl (fun _ _ _ h => h) (Or.inl ⟨by rfl, ?_⟩) ?_;rotate_left
  ·(intro wS _; go_simp; try with_reducible rfl)
  simp only [getElem_toArray, getElem_cons_succ, getElem_cons_zero];simp only [Act.put, setIfInBounds_toArray, set_cons_zero, set_cons_succ];refine AnyX.mv (i := 7) (v := ?_) rfl (fun _ _ _ h => h) (Or.inl ⟨by rfl, ?_⟩) ?_;rotate_left
  ·(intro wS _; go_simp; try with_reducible rfl)
  simp only [getElem_toArray, getElem_cons_succ, getElem_cons_zero];simp only [Act.put, setIfInBounds_toArray, set_cons_zero, set_cons_succ];refine AnyX.tk (i := 8) (v := ?_) rfl (fun _ _ _ h => h) hH0 (Or.inl ⟨by rfl, ?_⟩) ?_;rotate_left
  ·(intro wS hS; (try obtain ⟨hS0, hS1⟩ := hS); go_simp; try with_reducible rfl)
  simp only [getElem_toArray, getElem_cons_succ, getElem_cons_zero];simp only [Act.put, setIfInBounds_toArray, set_cons_zero, set_cons_succ];refine AnyX.go2 9 14 (by kernel_rfl) rfl rfl rfl rfl (fun K hK => ?_) (fun K hK => ?_)
  ·simp only [getElem_toArray, getElem_cons_succ, getElem_cons_zero]
   go_simp
   refine (CA.out _ (below_over HB01.out BD)).mono ?_;rintro e w2 ⟨hb2, ⟨l, t, j, c, hok, rfl, hT⟩ | ⟨b, j, g, herr, hb0, rfl, hsp⟩⟩
   ·obtain ⟨An, cA, As, cS, rfl, -⟩ := hT.parts
    have hs2 := hb2.size;have hsd : w1.drew.heap.size = w1.heap.size := rfl;simp only [];refine hK.out _ _ (fun hoff _ => absurd hoff (by decide)) ?_;clear hK;(try simp only [Act.put, setIfInBounds_toArray, set_cons_zero, set_cons_succ]);refine AnyX.mv (i := 10) (v := ?_) rfl (fun _ _ _ h => h) (Or.inl ⟨by rfl, ?_⟩) ?_;rotate_left
    ·(intro wS _; go_simp; try with_reducible rfl)
    simp only [getElem_toArray, getElem_cons_succ, getElem_cons_zero];simp only [Act.put, setIfInBounds_toArray, set_cons_zero, set_cons_succ];refine AnyX.mv (i := 11) (v := ?_) rfl (fun _ _ _ h => h) (Or.inl ⟨by rfl, ?_⟩) ?_;rotate_left
    ·(intro wS _; go_simp; try with_reducible rfl)
    simp only [getElem_toArray, getElem_cons_succ, getElem_cons_zero];simp only [Act.put, setIfInBounds_toArray, set_cons_zero, set_cons_succ];refine AnyX.mv (i := 12) (v := ?_) rfl (fun _ _ _ h => h) (Or.inl ⟨by rfl, ?_⟩) ?_;rotate_left
    ·(intro wS _; go_simp; try with_reducible rfl)
    simp only [getElem_toArray, getElem_cons_succ, getElem_cons_zero];simp only [Act.put, setIfInBounds_toArray, set_cons_zero, set_cons_succ];refine AnyX.mv (i := 13) (v := ?_) rfl (fun _ _ _ h => h) (Or.inl ⟨by rfl, ?_⟩) ?_;rotate_left
    ·(intro wS _; go_simp; try with_reducible rfl)
    simp only [getElem_toArray, getElem_cons_succ, getElem_cons_zero];simp only [Act.put, setIfInBounds_toArray, set_cons_zero, set_cons_succ];refine AnyX.go 14 (by kernel_rfl) rfl rfl (fun K hK => ?_);simp only [getElem_toArray, getElem_cons_succ, getElem_cons_zero];go_simp
    refine hK.out _ _ (fun _ hS => ⟨cell_alloc hS.1, cell_alloc hS.2⟩) ?_;clear hK;(try simp only [Act.put, setIfInBounds_toArray, set_cons_zero, set_cons_succ]);refine AnyX.go 15 (by kernel_rfl) rfl rfl (fun K hK => ?_);simp only [getElem_toArray, getElem_cons_succ, getElem_cons_zero];refine wp_store_row 55 (.tmp 6) (.tmp 26) rfl w2.heap.size #[.int .i64 t.kind, .string t.pkg, .int .i64 t.major, .string t.mod, .string t.name, .slice An t.names.length cA, .slice As t.subs.length cS] rfl rfl _ _ (heap_alloc_new w2 _) tySize rfl tyOne ?_;refine hK.out _ _ (fun hoff _ => absurd hoff (by decide)) ?_;clear hK;(try simp only [Act.put, setIfInBounds_toArray, set_cons_zero, set_cons_succ]);refine AnyX.mv (i := 16) (v := ?_) rfl (fun _ _ _ h => h) (Or.inl ⟨by rfl, ?_⟩) ?_;rotate_left
    ·(intro wS _; go_simp; try with_reducible rfl)
    simp only [getElem_toArray, getElem_cons_succ, getElem_cons_zero];simp only [Act.put, setIfInBounds_toArray, set_cons_zero, set_cons_succ];refine AnyX.mv (i := 17) (v := ?_) rfl (fun _ _ _ h => h) (Or.inl ⟨by rfl, ?_⟩) ?_;rotate_left
    ·(intro wS _; go_simp; try with_reducible rfl)
    simp only [getElem_toArray, getElem_cons_succ, getElem_cons_zero];simp only [Act.put, setIfInBounds_toArray, set_cons_zero, set_cons_succ];refine AnyX.done (by kernel_rfl) ?_ _;go_wp2_with fail
    go_meet
    exact RdC.afterOk (below_over BD hb2) (by omega) hok (hT.move (Nat.le_refl _) fun b hlt hS => ⟨by rintro (e | e); exact hS e; omega, rfl⟩) (by simp) (setRow_heap _ _ _ _ _ _ (heap_alloc_new w2 _)) (fun b hb _ => (setRow_other _ _ _ _ (by omega)).trans (Lib.alloc_old w2 _ b hb)) rfl rfl rfl
   ·have hs2 := hb2.size
    have hsd : w1.drew.heap.size = w1.heap.size := rfl;have hgl : g < w2.heap.size := (Array.getElem?_eq_some_iff.1 hsp).1;simp only [];refine hK.out _ _ (fun hoff _ => absurd hoff (by decide)) ?_;clear hK;(try simp only [Act.put, setIfInBounds_toArray, set_cons_zero, set_cons_succ]);refine AnyX.mv (i := 10) (v := ?_) rfl (fun _ _ _ h => h) (Or.inl ⟨by rfl, ?_⟩) ?_;rotate_left
    ·(intro wS _; go_simp; try with_reducible rfl)
    simp only [getElem_toArray, getElem_cons_succ, getElem_cons_zero];simp only [Act.put, setIfInBounds_toArray, set_cons_zero, set_cons_succ];refine AnyX.mv (i := 11) (v := ?_) rfl (fun _ _ _ h => h) (Or.inl ⟨by rfl, ?_⟩) ?_;rotate_left
    ·(intro wS _; go_simp; try with_reducible rfl)
    simp only [getElem_toArray, getElem_cons_succ, getElem_cons_zero];simp only [Act.put, setIfInBounds_toArray, set_cons_zero, set_cons_succ];refine AnyX.mv (i := 12) (v := ?_) rfl (fun _ _ _ h => h) (Or.inl ⟨by rfl, ?_⟩) ?_;rotate_left
    ·(intro wS _; go_simp; try with_reducible rfl)
    simp only [getElem_toArray, getElem_cons_succ, getElem_cons_zero];simp only [Act.put, setIfInBounds_toArray, set_cons_zero, set_cons_succ];refine AnyX.mv (i := 13) (v := ?_) rfl (fun _ _ _ h => h) (Or.inl ⟨by rfl, ?_⟩) ?_;rotate_left
    ·(intro wS _; go_simp; try with_reducible rfl)
    simp only [getElem_toArray, getElem_cons_succ, getElem_cons_zero];simp only [Act.put, setIfInBounds_toArray, set_cons_zero, set_cons_succ];refine AnyX.go 14 (by kernel_rfl) rfl rfl (fun K hK => ?_);simp only [getElem_toArray, getElem_cons_succ, getElem_cons_zero];go_simp
    refine hK.out _ _ (fun _ hS => ⟨cell_alloc hS.1, cell_alloc hS.2⟩) ?_;clear hK;(try simp only [Act.put, setIfInBounds_toArray, set_cons_zero, set_cons_succ]);refine AnyX.go 15 (by kernel_rfl) rfl rfl (fun K hK => ?_);simp only [getElem_toArray, getElem_cons_succ, getElem_cons_zero];refine wp_store_row 55 (.tmp 6) (.tmp 26) rfl w2.heap.size #[.int .i64 0, .string ⟨#[]⟩, .int .i64 0, .string ⟨#[]⟩, .string ⟨#[]⟩, .slice none 0 0, .slice none 0 0] rfl rfl _ _ (heap_alloc_new w2 _) tySize rfl tyOne ?_;refine hK.out _ _ (fun hoff _ => absurd hoff (by decide)) ?_;clear hK;(try simp only [Act.put, setIfInBounds_toArray, set_cons_zero, set_cons_succ]);refine AnyX.mv (i := 16) (v := ?_) rfl (fun _ _ _ h => h) (Or.inl ⟨by rfl, ?_⟩) ?_;rotate_left
    ·(intro wS _; go_simp; try with_reducible rfl)
    simp only [getElem_toArray, getElem_cons_succ, getElem_cons_zero];simp only [Act.put, setIfInBounds_toArray, set_cons_zero, set_cons_succ];refine AnyX.mv (i := 17) (v := ?_) rfl (fun _ _ _ h => h) (Or.inl ⟨by rfl, ?_⟩) ?_;rotate_left
    ·(intro wS _; go_simp; try with_reducible rfl)
    simp only [getElem_toArray, getElem_cons_succ, getElem_cons_zero];simp only [Act.put, setIfInBounds_toArray, set_cons_zero, set_cons_succ];refine AnyX.done (by kernel_rfl) ?_ _;go_wp2_with fail
    go_meet
    exact RdC.afterErr (below_over BD hb2) (by omega) herr hb0 hsp (by simp) (by omega) (fun b hb _ => (setRow_other _ _ _ _ (by omega)).trans (Lib.alloc_old w2 _ b hb)) rfl rfl rfl
  ·simp only [getElem_toArray, getElem_cons_succ, getElem_cons_zero]
   go_simp
   refine hK.out _ _ (fun _ hS => ⟨cell_alloc hS.1, cell_alloc hS.2⟩) ?_;clear hK;(try simp only [Act.put, setIfInBounds_toArray, set_cons_zero, set_cons_succ]);obtain ⟨wa, hwa⟩ : ∃ wa, wa = (w1.alloc (.cells #[.int .i64 0, .string ⟨#[]⟩, .int .i64 0, .string ⟨#[]⟩, .string ⟨#[]⟩, .slice none 0 0, .slice none 0 0] 55)).drew := ⟨_, rfl⟩;have Ba : Below w1.heap.size w1 wa := by rw [hwa]; exact Below.drew (below_new (Below.refl _ _) _)
   have Xa : wa.heap[w1.heap.size]? = some (.cells #[.int .i64 0, .string ⟨#[]⟩, .int .i64 0, .string ⟨#[]⟩, .string ⟨#[]⟩, .slice none 0 0, .slice none 0 0] 55 (0, 0)) := by rw [hwa]; exact heap_alloc_new w1 _
   have sa : wa.heap.size = w1.heap.size + 1 := by rw [hwa]; simp
   rw [<- hwa];clear hwa;refine AnyX.go 9 (by kernel_rfl) rfl rfl (fun K hK => ?_);simp only [getElem_toArray, getElem_cons_succ, getElem_cons_zero];go_simp
   refine (CA.out _ (below_over HB01.out Ba)).mono ?_;rintro e w2 ⟨hb2, ⟨l, t, j, c, hok, rfl, hT⟩ | ⟨b, j, g, herr, hb0, rfl, hsp⟩⟩
   ·obtain ⟨An, cA, As, cS, rfl, -⟩ := hT.parts
    have hs2 := hb2.size;have X2 := (hb2.block _ (by omega)).trans Xa;simp only [];refine hK.out _ _ (fun hoff _ => absurd hoff (by decide)) ?_;clear hK;(try simp only [Act.put, setIfInBounds_toArray, set_cons_zero, set_cons_succ]);refine AnyX.mv (i := 10) (v := ?_) rfl (fun _ _ _ h => h) (Or.inl ⟨by rfl, ?_⟩) ?_;rotate_left
    ·(intro wS _; go_simp; try with_reducible rfl)
    simp only [getElem_toArray, getElem_cons_succ, getElem_cons_zero];simp only [Act.put, setIfInBounds_toArray, set_cons_zero, set_cons_succ];refine AnyX.mv (i := 11) (v := ?_) rfl (fun _ _ _ h => h) (Or.inl ⟨by rfl, ?_⟩) ?_;rotate_left
    ·(intro wS _; go_simp; try with_reducible rfl)
    simp only [getElem_toArray, getElem_cons_succ, getElem_cons_zero];simp only [Act.put, setIfInBounds_toArray, set_cons_zero, set_cons_succ];refine AnyX.mv (i := 12) (v := ?_) rfl (fun _ _ _ h => h) (Or.inl ⟨by rfl, ?_⟩) ?_;rotate_left
    ·(intro wS _; go_simp; try with_reducible rfl)
    simp only [getElem_toArray, getElem_cons_succ, getElem_cons_zero];simp only [Act.put, setIfInBounds_toArray, set_cons_zero, set_cons_succ];refine AnyX.mv (i := 13) (v := ?_) rfl (fun _ _ _ h => h) (Or.inl ⟨by rfl, ?_⟩) ?_;rotate_left
    ·(intro wS _; go_simp; try with_reducible rfl)
    simp only [getElem_toArray, getElem_cons_succ, getElem_cons_zero];simp only [Act.put, setIfInBounds_toArray, set_cons_zero, set_cons_succ];refine AnyX.go 15 (by kernel_rfl) rfl rfl (fun K hK => ?_);simp only [getElem_toArray, getElem_cons_succ, getElem_cons_zero];refine wp_store_row 55 (.tmp 6) (.tmp 26) rfl w1.heap.size #[.int .i64 t.kind, .string t.pkg, .int .i64 t.major, .string t.mod, .string t.name, .slice An t.names.length cA, .slice As t.subs.length cS] rfl rfl _ _ X2 tySize rfl tyOne ?_;refine hK.out _ _ (fun hoff _ => absurd hoff (by decide)) ?_;clear hK;(try simp only [Act.put, setIfInBounds_toArray, set_cons_zero, set_cons_succ]);refine AnyX.mv (i := 16) (v := ?_) rfl (fun _ _ _ h => h) (Or.inl ⟨by rfl, ?_⟩) ?_;rotate_left
    ·(intro wS _; go_simp; try with_reducible rfl)
    simp only [getElem_toArray, getElem_cons_succ, getElem_cons_zero];simp only [Act.put, setIfInBounds_toArray, set_cons_zero, set_cons_succ];refine AnyX.mv (i := 17) (v := ?_) rfl (fun _ _ _ h => h) (Or.inl ⟨by rfl, ?_⟩) ?_;rotate_left
    ·(intro wS _; go_simp; try with_reducible rfl)
    simp only [getElem_toArray, getElem_cons_succ, getElem_cons_zero];simp only [Act.put, setIfInBounds_toArray, set_cons_zero, set_cons_succ];refine AnyX.done (by kernel_rfl) ?_ _;go_wp2_with fail
    go_meet
    exact RdC.afterOk (below_over Ba hb2) (Nat.le_refl _) hok (hT.move (Nat.le_refl _) fun b hlt hS => ⟨by rintro (e | e) <;> omega, rfl⟩) (by simp) (setRow_heap _ _ _ _ _ _ X2) (fun b hb hne => setRow_other _ _ _ _ hne) rfl rfl rfl
   ·have hs2 := hb2.size
    have X2 := (hb2.block _ (by omega)).trans Xa;have hgg : g ≠ w1.heap.size := two_types hsp X2 (by decide);simp only [];refine hK.out _ _ (fun hoff _ => absurd hoff (by decide)) ?_;clear hK;(try simp only [Act.put, setIfInBounds_toArray, set_cons_zero, set_cons_succ]);refine AnyX.mv (i := 10) (v := ?_) rfl (fun _ _ _ h => h) (Or.inl ⟨by rfl, ?_⟩) ?_;rotate_left
    ·(intro wS _; go_simp; try with_reducible rfl)
    simp only [getElem_toArray, getElem_cons_succ, getElem_cons_zero];simp only [Act.put, setIfInBounds_toArray, set_cons_zero, set_cons_succ];refine AnyX.mv (i := 11) (v := ?_) rfl (fun _ _ _ h => h) (Or.inl ⟨by rfl, ?_⟩) ?_;rotate_left
    ·(intro wS _; go_simp; try with_reducible rfl)
    simp only [getElem_toArray, getElem_cons_succ, getElem_cons_zero];simp only [Act.put, setIfInBounds_toArray, set_cons_zero, set_cons_succ];refine AnyX.mv (i := 12) (v := ?_) rfl (fun _ _ _ h => h) (Or.inl ⟨by rfl, ?_⟩) ?_;rotate_left
    ·(intro wS _; go_simp; try with_reducible rfl)
    simp only [getElem_toArray, getElem_cons_succ, getElem_cons_zero];simp only [Act.put, setIfInBounds_toArray, set_cons_zero, set_cons_succ];refine AnyX.mv (i := 13) (v := ?_) rfl (fun _ _ _ h => h) (Or.inl ⟨by rfl, ?_⟩) ?_;rotate_left
    ·(intro wS _; go_simp; try with_reducible rfl)
    simp only [getElem_toArray, getElem_cons_succ, getElem_cons_zero];simp only [Act.put, setIfInBounds_toArray, set_cons_zero, set_cons_succ];refine AnyX.go 15 (by kernel_rfl) rfl rfl (fun K hK => ?_);simp only [getElem_toArray, getElem_cons_succ, getElem_cons_zero];refine wp_store_row 55 (.tmp 6) (.tmp 26) rfl w1.heap.size #[.int .i64 0, .string ⟨#[]⟩, .int .i64 0, .string ⟨#[]⟩, .string ⟨#[]⟩, .slice none 0 0, .slice none 0 0] rfl rfl _ _ X2 tySize rfl tyOne ?_;refine hK.out _ _ (fun hoff _ => absurd hoff (by decide)) ?_;clear hK;(try simp only [Act.put, setIfInBounds_toArray, set_cons_zero, set_cons_succ]);refine AnyX.mv (i := 16) (v := ?_) rfl (fun _ _ _ h => h) (Or.inl ⟨by rfl, ?_⟩) ?_;rotate_left
    ·(intro wS _; go_simp; try with_reducible rfl)
    simp only [getElem_toArray, getElem_cons_succ, getElem_cons_zero];simp only [Act.put, setIfInBounds_toArray, set_cons_zero, set_cons_succ];refine AnyX.mv (i := 17) (v := ?_) rfl (fun _ _ _ h => h) (Or.inl ⟨by rfl, ?_⟩) ?_;rotate_left
    ·(intro wS _; go_simp; try with_reducible rfl)
    simp only [getElem_toArray, getElem_cons_succ, getElem_cons_zero];simp only [Act.put, setIfInBounds_toArray, set_cons_zero, set_cons_succ];refine AnyX.done (by kernel_rfl) ?_ _;go_wp2_with fail
    go_meet
    exact RdC.afterErr (below_over Ba hb2) (Nat.le_refl _) herr hb0 hsp (by simp) hgg (fun b hb hne => setRow_other _ _ _ _ hne) rfl rfl rfl
 case rest =>
  obtain ⟨hbc, g6, rfl, hg6, ⟨l, t, j, c, hok, rfl, rfl, hrow, hT⟩ | ⟨b, j, g, herr, hb0, rfl, rfl, hsp⟩⟩ := hcut
  ·obtain ⟨An, cA, As, cS, rfl, -⟩ := hT.parts
   have ss := SS.out;have hsz := hbc.size;have Gc := (hbc.block q (by omega)).trans G1'.out;have f1 := Lib.frozen_of_heap Gc 1;have m1 := cZ Gc 1;simp at m1;have Xc := (hbc.block w.heap.size (by omega)).trans HX0.out;obtain ⟨w5, hw5⟩ : ∃ w5, w5 = wc.setCell ⟨q, 1, none⟩ (.int .i64 j) := ⟨_, rfl⟩;have s5 : w5.heap.size = wc.heap.size := by rw [hw5]; simp
   have o5 : ∀ k, k ≠ q -> w5.heap[k]? = wc.heap[k]? := fun k hk => by rw [hw5]; exact Below.heap_setCell _ _ _ _ (by show k ≠ q; exact hk)
   have G5 : CGd q A S.n cn j w5 := by
    have h2 := Joins.block_setCell (i := 1) Gc (.int .i64 j);rw [hw5]; simpa [CGd] using h2
   have X5 : Bx w.heap.size w5 := (o5 _ (by omega)).trans Xc;have R5 := (o5 g6 (by omega)).trans hrow;have K5 : Kp q w w5 := by rw [hw5]; exact (Kp.of_below (below_over HB01.out hbc)).put 1 _
   have SEAL : Hid (TrOut w q A S.n cn (badR 0 i (cutR (atR S i))) (.returned (.agg #[.int .i64 t.kind, .string t.pkg, .int .i64 t.major, .string t.mod, .string t.name, .slice An t.names.length cA, .slice As t.subs.length cS])) (w5.setRow w.heap.size #[.int .i64 t.kind, .string t.pkg, .int .i64 t.major, .string t.mod, .string t.name, .slice An t.names.length cA, .slice As t.subs.length cS])) := hZ
    ⟨[.int .i64 t.kind, .string t.pkg, .int .i64 t.major, .string t.mod, .string t.name, .slice An t.names.length cA, .slice As t.subs.length cS], t, j, 0, rfl, hT.move (by simp [s5]) fun b hlt hS => ⟨fun e => hS (.inl (by omega)), (setRow_other w5 w.heap.size b _ (fun e => hS (.inl (by omega)))).trans (o5 b (fun e => hS (.inl (by omega))))⟩,
     ⟨K5.os, K5.tape, K5.output, by have := K5.size; simpa using this, fun k hk hne => (setRow_other w5 w.heap.size k _ (by omega)).trans (K5.block k hk hne)⟩,
     .inl ⟨rfl, (setRow_other w5 w.heap.size q _ (by omega)).trans G5⟩, by rw [hok]; rfl⟩
   obtain ⟨x0, x1, x2, x3, x4, x5, x6⟩ := cq7 R5;simp at x0 x1 x2 x3 x4 x5 x6;have HX5 := hZ X5;have HW5 := hZ hw5;unfold Bx at X5
   clear hbc hrow hT Xc hw5 o5 G5 R5 K5 CA HH1 HX0 HX1 z0 z1 z2 z3 z4 z5 z6 a0 a1 a2 Gc;go_upto_region 9 with fail
   rw [<- HW5.out];go_wp2_with (first | ((with_reducible refine wpList_putRow 55 (w.heap.size) #[.int .i64 t.kind, .string t.pkg, .int .i64 t.major, .string t.mod, .string t.name, .slice An t.names.length cA, .slice As t.subs.length cS] _ _ X5 ?_ ?_ ?_ ?_ ?_ ?_); exact tySize; rfl; exact tyOne; iterate 2 (focus (first | (go_simp; done) | rfl))))
   exact ret_agg1 (fn := Tryz.f113) (vs := [.int .i64 t.kind, .string t.pkg, .int .i64 t.major, .string t.mod, .string t.name, .slice An t.names.length cA, .slice As t.subs.length cS]) (b := w.heap.size) rfl rfl Tryz.underlying55 (by kernel_rfl) (cell7 (setRow_heap w5 w.heap.size _ _ _ _ HX5.out)) rfl SEAL.out
  ·have ss := SS.out
   have hsz := hbc.size;have Gc := (hbc.block q (by omega)).trans G1'.out;have f2 := Lib.frozen_of_heap Gc 2;have m2 := cZ Gc 2;simp at m2;have Xc := (hbc.block w.heap.size (by omega)).trans HX0.out;have Yc := (hbc.block w0.heap.size (by omega)).trans HX1.out;have hgq : g ≠ q := two_types hsp Gc (by decide);have hgx : g ≠ w.heap.size := two_types hsp Xc (by decide);obtain ⟨w5, hw5⟩ : ∃ w5, w5 = wc.setCell ⟨q, 2, none⟩ (.iface 89 (.pointer (some ⟨g, 0, none⟩))) := ⟨_, rfl⟩;have s5 : w5.heap.size = wc.heap.size := by rw [hw5]; simp
   have o5 : ∀ k, k ≠ q -> w5.heap[k]? = wc.heap[k]? := fun k hk => by rw [hw5]; exact Below.heap_setCell _ _ _ _ (by show k ≠ q; exact hk)
   have G5 : CBd q A S.n cn b j w5 := by
    have h2 := Joins.block_setCell (i := 2) Gc (.iface 89 (.pointer (some ⟨g, 0, none⟩)));exact ⟨i, g, by rw [hw5]; simpa using h2, (o5 g hgq).trans hsp⟩
   have X5 : Bx w.heap.size w5 := (o5 _ (by omega)).trans Xc;have Y5 : Bx w0.heap.size w5 := (o5 _ (by omega)).trans Yc;have K5 : Kp q w w5 := by rw [hw5]; exact (Kp.of_below (below_over HB01.out hbc)).put 2 _
   have SEAL : Hid (TrOut w q A S.n cn (badR 0 i (cutR (atR S i))) (.returned (.agg #[.int .i64 0, .string ⟨#[]⟩, .int .i64 0, .string ⟨#[]⟩, .string ⟨#[]⟩, .slice none 0 0, .slice none 0 0])) (w5.setRow w.heap.size #[.int .i64 0, .string ⟨#[]⟩, .int .i64 0, .string ⟨#[]⟩, .string ⟨#[]⟩, .slice none 0 0, .slice none 0 0])) := hZ
    ⟨[.int .i64 0, .string ⟨#[]⟩, .int .i64 0, .string ⟨#[]⟩, .string ⟨#[]⟩, .slice none 0 0, .slice none 0 0], noT, j, b, rfl, TyAt.zero _,
     ⟨K5.os, K5.tape, K5.output, by have := K5.size; simpa using this, fun k hk hne => (setRow_other w5 w.heap.size k _ (by omega)).trans (K5.block k hk hne)⟩,
     .inr ⟨hb0, by
      obtain ⟨x', g', e1, e2⟩ := G5;exact ⟨x', g', (setRow_other w5 w.heap.size q _ (by omega)).trans e1, (setRow_other w5 w.heap.size g' _ (two_types e2 X5 (by decide))).trans e2⟩⟩, by rw [badR_ne _ _ hb0, herr]; rfl⟩
   rw [ss.1] at Y5;unfold Bx at Y5
   obtain ⟨x0, x1, x2, x3, x4, x5, x6⟩ := cq7 Y5;simp at x0 x1 x2 x3 x4 x5 x6;have HX5 := hZ X5;have HW5 := hZ hw5;unfold Bx at X5
   clear hbc hsp Xc Yc hw5 o5 G5 K5 CA HH1 HX0 HX1 z0 z1 z2 z3 z4 z5 z6 a0 a1 a2 Gc hgq hgx herr hb0;go_upto_region 7 with fail
   rw [<- HW5.out];go_wp2_with (first | ((with_reducible refine wpList_putRow 55 (w.heap.size) #[.int .i64 0, .string ⟨#[]⟩, .int .i64 0, .string ⟨#[]⟩, .string ⟨#[]⟩, .slice none 0 0, .slice none 0 0] _ _ X5 ?_ ?_ ?_ ?_ ?_ ?_); exact tySize; rfl; exact tyOne; iterate 2 (focus (first | (go_simp; done) | rfl))))
   exact ret_agg1 (fn := Tryz.f113) (vs := [.int .i64 0, .string ⟨#[]⟩, .int .i64 0, .string ⟨#[]⟩, .string ⟨#[]⟩, .slice none 0 0, .slice none 0 0]) (b := w.heap.size) rfl rfl Tryz.underlying55 (by kernel_rfl) (cell7 (setRow_heap w5 w.heap.size _ _ _ _ HX5.out)) rfl SEAL.out
theorem usSize : (Tryz.prog.info? 25).map (·.size) = some 2 := by kernel_rfl
theorem usOne {A5 A6 : Option Addr} {n5 c5 n6 c6 : Nat} : (#[.slice A5 n5 c5, .slice A6 n6 c6] : Array Value).all (·.oneCell') = true := Array.all_eq_true_iff_forall_mem.2 (fun v hv => by simp at hv; rcases hv with rfl | rfl <;> rfl)
theorem lnSize : (Tryz.prog.info? 60).map (·.size) = some 10 := by kernel_rfl
theorem lnOne {s m : ByteArray} {k0 k j : Int} {p d n : ByteArray} {A5 A6 : Option Addr} {n5 c5 n6 c6 : Nat} : (#[.int .i64 k0, .string m, .string s, .int .i64 k, .string p, .int .i64 j, .string d, .string n, .slice A5 n5 c5, .slice A6 n6 c6] : Array Value).all (·.oneCell') = true := Array.all_eq_true_iff_forall_mem.2 (fun v hv => by simp at hv; rcases hv with rfl | rfl | rfl | rfl | rfl | rfl | rfl | rfl | rfl | rfl <;> rfl)
theorem cell2 {w : World} {b : Nat} {v0 v1 : Value} {T : TypeId} {fr : Nat × Nat} (h : w.heap[b]? = some (.cells #[v0, v1] T fr)) : ∀ i v, ([v0, v1] : List Value)[i]? = some v -> w.cell? ⟨b, i, none⟩ = some v := fun i v hv => by
  rw [cZ h, <- hv, <- List.getElem?_toArray]
theorem cell10 {w : World} {b : Nat} {v0 v1 v2 v3 v4 v5 v6 v7 v8 v9 : Value} {T : TypeId} {fr : Nat × Nat} (h : w.heap[b]? = some (.cells #[v0, v1, v2, v3, v4, v5, v6, v7, v8, v9] T fr)) : ∀ i v, ([v0, v1, v2, v3, v4, v5, v6, v7, v8, v9] : List Value)[i]? = some v -> w.cell? ⟨b, i, none⟩ = some v := fun i v hv => by
  rw [cZ h, <- hv, <- List.getElem?_toArray]
def LnOut (w : World) (q : Nat) (A : Option Addr) (n cn : Nat) (R : Res Ln) (e : Ending) (w' : World) : Prop :=
  ∃ (l : List Value) (x : Ln) (i' b' : Nat), e = .returned (.agg (#[.int .i64 x.kind, .string x.mod, .string x.name] ++ l.toArray)) /\ (x.mod.size <= 9223372036854775807 /\ x.name.size <= 9223372036854775807) /\ TyAt (strike (· < w.heap.size) w') l x.typ /\ Kp q w w' /\ CSt q A n cn i' b' w' /\ badR b' i' (.ok x i' 0) = R
theorem ln_info : (Tryz.prog.info? 60).map (fun i => (i.zero, i.size, i.bytes)) = some (some (.agg #[.int .i64 0, .string ⟨#[]⟩, .string ⟨#[]⟩, .int .i64 0, .string ⟨#[]⟩, .int .i64 0, .string ⟨#[]⟩, .string ⟨#[]⟩, .slice none 0 0, .slice none 0 0]), 10, 152) := by kernel_rfl
def Ux (d : Nat) (Ai : Option Addr) (ni ci : Nat) (Ad : Option Addr) (nd cd : Nat) (w : World) : Prop := w.heap[d]? = some (.cells #[.slice Ai ni ci, .slice Ad nd cd] 25 (0, 0))
theorem lns_more {q lo d g cap c B : Nat} {xs : List Ln} {A Ai : Option Addr} {ni ci n cn i b : Nat} {As : Option Addr} {w w1 w3 : World} {o : Obj} {l : List Value} {x : Ln} {C : List (List Value)}
    (h : Row lnR lo xs A c w1) (hlo : lo <= B) (hwo : ∀ b, (Value.slice A xs.length c).ownBlock = some b -> b < B)
    (hC1 : C.length = xs.length) (hC4 : ∀ (i : Nat) (l : List Value) (x : Ln), C[i]? = some l -> xs[i]? = some x -> lnE (strike (fun b => b < lo \/ (Value.slice A xs.length c).ownBlock = some b) w1) l x)
    (hE : lnE (strike (· < B) w1) l x) (hown : w3.ownsRow lo 60 10 (.slice (some ⟨g, 0, none⟩) (xs.length + 1) cap) (xs.length + 1) (C.flatten ++ l)) (hgrow : (w1.alloc o).grownBy w3 (Value.slice A xs.length c).ownBlock)
    (hat : (Value.slice A xs.length c).ownBlock = some g \/ g = (w1.alloc o).heap.size)
    (hB1 : B <= w1.heap.size) (hd : d < lo) (hwd : w.heap.size <= d) (hql : q < w.heap.size) (hbox : Ux d Ai ni ci A xs.length c w1) (hK : Kp q w w1) (hc : CSt q As n cn i b w1) :
    Row lnR lo (xs ++ [x]) (some ⟨g, 0, none⟩) cap (w3.setCell ⟨d, 1, none⟩ (.slice (some ⟨g, 0, none⟩) (xs.length + 1) cap)) /\
    Ux d Ai ni ci (some ⟨g, 0, none⟩) (xs.length + 1) cap (w3.setCell ⟨d, 1, none⟩ (.slice (some ⟨g, 0, none⟩) (xs.length + 1) cap)) /\
    Kp q w (w3.setCell ⟨d, 1, none⟩ (.slice (some ⟨g, 0, none⟩) (xs.length + 1) cap)) /\ CSt q As n cn i b (w3.setCell ⟨d, 1, none⟩ (.slice (some ⟨g, 0, none⟩) (xs.length + 1) cap)) /\
    (∀ b, b < lo -> b ≠ d -> (w3.setCell ⟨d, 1, none⟩ (.slice (some ⟨g, 0, none⟩) (xs.length + 1) cap)).heap[b]? = w1.heap[b]?) /\
    w3.cell? ⟨d, 1, none⟩ = some (.slice A xs.length c) /\ w3.frozen? ⟨d, 1, none⟩ = false /\ w1.heap.size <= (w3.setCell ⟨d, 1, none⟩ (.slice (some ⟨g, 0, none⟩) (xs.length + 1) cap)).heap.size := by
  obtain ⟨R3, old3, hs3⟩ := Row.more (R := lnR) h hlo hwo hC1 hC4 hE hown hgrow hat;have hlow : ∀ b, (Value.slice A xs.length c).ownBlock = some b -> lo <= b := fun b e => (h.lt e).1
  have hd1 : d < w1.heap.size := (Array.getElem?_eq_some_iff.1 hbox).1;have B3 := (old3 d (fun e => by have := hlow d e; omega) hd1).trans hbox;have ot : ∀ b, b ≠ d -> (w3.setCell ⟨d, 1, none⟩ (.slice (some ⟨g, 0, none⟩) (xs.length + 1) cap)).heap[b]? = w3.heap[b]? := fun b hb => Below.heap_setCell _ _ _ _ (by show b ≠ d; exact hb)
  have K3 : Kp q w w3 := (hK.alloc o).grow hgrow fun b e => by have := hlow b e; omega
  have c3 : CSt q As n cn i b w3 := hc.keep (old3 q (fun e => by have := hlow q e; omega) hc.lt) (fun g vs fr hg => old3 g (fun e => by
    obtain ⟨C', -, h3, -⟩ := h.cells;rcases h3.2 with ⟨e1, -⟩ | ⟨g6, cap6, cur6, hv, -, hg6, -⟩
    · rw [e1] at e; simp [Value.ownBlock] at e
    · rw [hv] at e; simp [Value.ownBlock] at e
      subst e;exact two_types hg hg6 (by decide) rfl) (Array.getElem?_eq_some_iff.1 hg).1)
  refine ⟨R3.keep (by simp) (fun b hb hlt => ot b (by omega)), ?_, K3.putNew _ (by show w.heap.size <= d; omega) _, c3.keep (ot q (by omega)) (fun g vs fr hg => ot g (two_types hg B3 (by decide))), fun b hb hne => (ot b hne).trans (old3 b (fun e => by have := hlow b e; omega) (by omega)), ?_, Lib.frozen_of_heap B3 1, by simp; omega⟩
  · have h2 := Joins.block_setCell (i := 1) B3 (.slice (some ⟨g, 0, none⟩) (xs.length + 1) cap)
    simpa [Ux] using h2
  · have := cZ B3 1
    simpa using this
structure LpI (w : World) (q : Nat) (A : Option Addr) (S : Toks) (cn : Nat) (F : Res Us) (d lo B6 : Nat) (l : List Im) (Ai : Option Addr) (ci : Nat) (xs : List Ln) (Ad : Option Addr) (cd i b : Nat) (wr : World) : Prop where
  kp : Kp q w wr
  box : Ux d Ai l.length ci Ad xs.length cd wr
  res : wr.heap[w.heap.size]? = some (.cells #[.slice none 0 0, .slice none 0 0] 25 (0, 0))
  ims : RowIn imR (strike (fun b => b < B6 \/ d <= b) wr) Ai l
  rows : Row lnR lo xs Ad cd wr
  cur : CSt q A S.n cn i b wr
  fin : F = badR b i (restL S l i xs)
  most : b = 0 -> xs.length <= 60
  some : xs.length <= 61
  lole : lo <= wr.heap.size
def UrOut (w : World) (q : Nat) (A : Option Addr) (n cn : Nat) (R : Res Us) (e : Ending) (w' : World) : Prop :=
  ∃ (l : List Value) (m : Us) (i b : Nat), e = .returned (.agg l.toArray) /\ UsAt (strike (· < w.heap.size) w') l m /\ CapU l m /\ Kp q w w' /\ CSt q A n cn i b w' /\ badR b i (.ok m i 0) = R
theorem LpI.fin2 {w : World} {q : Nat} {A : Option Addr} {S : Toks} {cn : Nat} {F : Res Us} {d lo B6 : Nat} {l : List Im} {Ai : Option Addr} {ci : Nat} {xs : List Ln} {Ad : Option Addr} {cd i b : Nat} {wr : World}
    (h : LpI w q A S cn F d lo B6 l Ai ci xs Ad cd i b wr) (hl : l.length <= 1000) (hci : l.length <= ci) (h6 : w.heap.size < B6) (hlo : w.heap.size < lo) (hq : q < w.heap.size) (hno : (decide (b = 0) && decide (i < S.n)) = false) :
    UrOut w q A S.n cn F (.returned (.agg #[.slice Ai l.length ci, .slice Ad xs.length cd])) (wr.setRow w.heap.size #[.slice Ai l.length ci, .slice Ad xs.length cd]) := by
  have mv : ∀ b, b ≠ w.heap.size -> (wr.setRow w.heap.size #[.slice Ai l.length ci, .slice Ad xs.length cd]).heap[b]? = wr.heap[b]? := fun b hb => setRow_other wr w.heap.size b _ hb
  refine ⟨[.slice Ai l.length ci, .slice Ad xs.length cd], ⟨l, xs⟩, i, b, rfl, ⟨Ai, ci, Ad, cd, rfl, by show l.length <= _; omega, by have := h.some; show xs.length <= _; omega, ?_, ?_⟩, CapU.of (u := ⟨l, xs⟩) hci h.rows.cap rfl rfl, ?_, ?_, ?_⟩
  · exact h.ims.move (by simp) fun b hb hS => ⟨fun e => hS (.inl (by omega)), mv b (fun e => hS (.inl (by omega)))⟩
  · exact (h.rows.done (Nat.le_refl _)).move (by simp) fun b hb hS => ⟨by omega, mv b (by omega)⟩
  · have hk := h.kp
    exact ⟨hk.os, hk.tape, hk.output, by have := hk.size; simpa using this, fun j hj hne => (mv j (by omega)).trans (hk.block j hj hne)⟩
  · exact h.cur.keep (mv q (by omega)) (fun g vs fr hg => mv g (two_types hg h.res (by decide)))
  · rw [h.fin]
    exact (restL_no (by
      by_cases hb : b = 0
      · exact .inl (h.most hb)
      · exact .inr hb) hno).symm
theorem LnOut.fin {w w' : World} {q : Nat} {A : Option Addr} {n cn i b : Nat} {R : Res Ln} {k : Int} {m s : ByteArray} {t : Ty} {v0 v1 v2 v3 v4 v5 v6 : Value} {old : Array Value}
    (hm : m.size <= 9223372036854775807) (hs : s.size <= 9223372036854775807) (hT : TyAt (strike (· < w.heap.size + 1) w') [v0, v1, v2, v3, v4, v5, v6] t) (hk : Kp q w w') (hq : q < w.heap.size) (hc : CSt q A n cn i b w') (hX : w'.heap[w.heap.size]? = some (.cells old 60 (0, 0))) (hR : badR b i (.ok (⟨k, m, s, t⟩ : Ln) i 0) = R) :
    LnOut w q A n cn R (.returned (.agg #[.int .i64 k, .string m, .string s, v0, v1, v2, v3, v4, v5, v6])) (w'.setRow w.heap.size #[.int .i64 k, .string m, .string s, v0, v1, v2, v3, v4, v5, v6]) :=
  ⟨[v0, v1, v2, v3, v4, v5, v6], ⟨k, m, s, t⟩, i, b, rfl, ⟨hm, hs⟩, hT.move (by simp) fun b hb hS => ⟨fun e => hS (Nat.lt_succ_of_lt e), setRow_other w' w.heap.size b _ (fun e => by subst e; exact hS (Nat.lt_succ_self _))⟩,
    ⟨hk.os, hk.tape, hk.output, by have := hk.size; simpa using this, fun j hj hne => (setRow_other w' w.heap.size j _ (by omega)).trans (hk.block j hj hne)⟩,
    hc.keep (setRow_other w' w.heap.size q _ (by omega)) (fun g vs fr hg => setRow_other w' w.heap.size g _ (two_types hg hX (by decide))), hR⟩
end Go.Proofs.YteecgiebimdbhaaGreatDoor
