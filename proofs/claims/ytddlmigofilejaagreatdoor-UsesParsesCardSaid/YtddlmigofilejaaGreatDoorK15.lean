/-
  Several texts in one.
-/
import Derived.Test.YtddlmigofilejaaGreatDoorK13
import Derived.Lib.IndexAny
import Derived.Lib.IndexLaws
open List (getElem_toArray getElem_cons_succ getElem_cons_zero set_cons_zero set_cons_succ setIfInBounds_toArray)
set_option maxRecDepth 100000
set_option maxHeartbeats 4000000
namespace Go.Proofs.YtddlmigofilejaaGreatDoor
open Go.RowKit
open Go.Sort
open M
theorem type_bad {W : World} {r : Nat} {A : Option Addr} {S : Toks} {cn : Nat} (d i c b : Nat) (w : World) (hc5 : c <= 500) (hc : RdCtx W r A S w) (h : Rd r A S.n cn i c b w) (hb : b ≠ 0) (res : Res Ty) (hres : res = .err b i) :
    Calls Tryz.prog 82 #[.pointer (some ⟨r, 0, none⟩), .int .i64 d] w (TyOut w r A S.n cn res) := by
  have hr := h.lt;obtain ⟨W1, hW1⟩ : ∃ W1, W1 = w.alloc (.cells #[.int .i64 0, .string ⟨#[]⟩, .int .i64 0, .string ⟨#[]⟩, .string ⟨#[]⟩, .slice none 0 0, .slice none 0 0] 48) := ⟨_, rfl⟩;have B1 : Below w.heap.size w W1 := by rw [hW1]; exact below_new (Below.refl _ _) _
  have s1 : W1.heap.size = w.heap.size + 1 := by rw [hW1]; simp
  have X1 : W1.heap[w.heap.size]? = some (.cells #[.int .i64 0, .string ⟨#[]⟩, .int .i64 0, .string ⟨#[]⟩, .string ⟨#[]⟩, .slice none 0 0, .slice none 0 0] 48 (0, 0)) := by rw [hW1]; exact heap_alloc_new w _
  have C1 := hc.on (Kp.of_below B1) hr;have R1 := h.on B1;have BG := zH (begins_any C1 R1);have HX1 := zH X1;have HC1 := zH C1;have HR1 := zH R1;have HB1 := zH B1;have HW1 := zH hW1;clear hc h B1 X1 C1 R1 hW1;go_enter Tryz.func82, Tryz.ntmps82
  go_wp2_with fail
  rw [<- HW1.out];refine BG.out.mono ?_; rintro e w2 ⟨rfl, hb2⟩
  have K2 : Kp r w w2 := (Kp.of_below HB1.out).trans (Kp.of_below hb2);have C2 := HC1.out.on (Kp.of_below hb2) HR1.out.lt;have R2 := HR1.out.on hb2;have s2 := hb2.size;have X2 : w2.heap[w.heap.size]? = _ := (hb2.block _ (by omega)).trans HX1.out;have hs2 : w.heap.size < w2.heap.size := by omega
  have HX2 := zH X2;have HK2 := zH K2;have HR2 := zH R2;clear hb2 K2 C2 X2 BG HX1 HC1 HB1 HW1 s1 s2 HR1;have e0 : (decide (b = 0) && S.begins i) = false := by simp [hb]
  have HRES := zH hres;rw [e0];clear e0 hres;go_wp2_with fail
  refine (wrong_any HR2.out).mono ?_; rintro e w3 ⟨rfl, R3, k3⟩
  have X3 : w3.heap[w.heap.size]? = _ := (k3.blk hs2 (by omega)).trans HX2.out;have s3 := k3.size;rw [wrB_ne hb] at R3;have SEAL := zH (TyOut.seal (res := res) (A := A) (n := S.n) (cn := cn) (Nat.le_refl _) X3 (HK2.out.trans k3) (TyAt.zero (strike (· < w.heap.size + 1) w3)) (Nat.lt_succ_self _) hr (by rw [HRES.out]; exact RdRes.bad hb hc5 R3));clear k3 R3;go_wp2_with (first | ((with_reducible refine wpList_putRow 48 (w.heap.size) #[.int .i64 0, .string ⟨#[]⟩, .int .i64 0, .string ⟨#[]⟩, .string ⟨#[]⟩, .slice none 0 0, .slice none 0 0] _ _ X3 ?_ ?_ ?_ ?_ ?_ ?_); exact tySize; rfl; exact tyOne; iterate 2 (focus (first | (go_simp; done) | rfl))))
  exact ret_agg1 (fn := Tryz.f82) (vs := [.int .i64 0, .string ⟨#[]⟩, .int .i64 0, .string ⟨#[]⟩, .string ⟨#[]⟩, .slice none 0 0, .slice none 0 0]) (b := w.heap.size) rfl rfl Tryz.underlying48 (by kernel_rfl) SEAL.out.1 rfl SEAL.out.2
theorem type_ok {W : World} {r : Nat} {A : Option Addr} {S : Toks} {cn : Nat} : ∀ f, TypeOk W r A S cn f := by
  intro f;induction f using Nat.strongRecOn with
  | ind f ih =>
    cases f with
    | zero =>
      intro d i c b w hd hc5 hc h hne;by_cases hb : b = 0
      · exact absurd (by unfold pT; rfl) (hne hb 0)
      · exact type_bad d i c b w hc5 hc h hb _ (badR_ne _ _ hb)
    | succ f => exact type_step (ih f (Nat.lt_succ_self f)) (parts_ok fun g hg => ih g (by omega)) (fn_ok fun g hg => ih g (by omega))
def RtOut (w : World) (S : Toks) (i : Nat) (e : Ending) (w' : World) : Prop :=
  Below w.heap.size w w' /\
  ((∃ (l : List Value) (t : Ty) (j c : Nat), atR S i = .ok t j c /\ e = .returned (.tuple #[.agg l.toArray, .int .i64 j, .int .i64 0, .int .i64 (-1)]) /\ TyAt (strike (· < w.heap.size) w') l t) \/
   (∃ (b j : Nat), atR S i = .err b j /\ b ≠ 0 /\ e = .returned (.tuple #[.agg #[.int .i64 0, .string ⟨#[]⟩, .int .i64 0, .string ⟨#[]⟩, .string ⟨#[]⟩, .slice none 0 0, .slice none 0 0], .int .i64 0, .int .i64 b, .int .i64 j])))
theorem rat_in {A : Option Addr} {S : Toks} {cn : Nat} {w : World} (hT : TokAt w A S) (hbig : S.n <= 9223372036854775806) (i : Nat) (hi : i <= S.n) :
  Calls Tryz.prog 43 #[.slice A S.n cn, .int .i64 i] w (RtOut w S i) := by
 obtain ⟨w0, hw0⟩ : ∃ w0, w0 = w.alloc (.cells #[.int .i64 0, .string ⟨#[]⟩, .int .i64 0, .string ⟨#[]⟩, .string ⟨#[]⟩, .slice none 0 0, .slice none 0 0] 48) := ⟨_, rfl⟩
 have B0 : Below w.heap.size w w0 := by rw [hw0]; exact below_new (Below.refl _ _) _
 have X0 : Bx w.heap.size w0 := by rw [hw0]; exact heap_alloc_new w _
 have s0 : w0.heap.size = w.heap.size + 1 := by rw [hw0]; simp
 obtain ⟨w2, hw2⟩ : ∃ w2, w2 = w0.alloc (.cells #[.slice A S.n cn, .int .i64 i, .int .i64 0, .int .i64 0] 145) := ⟨_, rfl⟩
 have B2 : Below w0.heap.size w0 w2 := by rw [hw2]; exact below_new (Below.refl _ _) _
 have R2 : Rd w0.heap.size A S.n cn i 0 0 w2 := by rw [hw2]; exact heap_alloc_new w0 _
 have s2 : w2.heap.size = w0.heap.size + 1 := by rw [hw2]; simp
 have B02 : Below w.heap.size w w2 := below_over B0 B2
 have C2 : RdCtx w w0.heap.size A S w2 := ⟨hT, B02, by omega, hbig⟩
 have RE := type_ok (W := w) (r := w0.heap.size) (A := A) (S := S) (cn := cn) (2 * S.n + 3) 1 i 0 0 w2 (by omega) (by omega) C2 R2 (fun _ j => atR_far S i j)
 rw [badR_0] at RE
 have HRE : Hid (Calls Tryz.prog 82 #[.pointer (some ⟨w0.heap.size, 0, none⟩), .int .i64 1] w2 (TyOut w2 w0.heap.size A S.n cn (atR S i))) := zH RE
 have HX2 : Hid (Bx w.heap.size w2) := zH ((B2.block _ (by omega)).trans X0)
 have HB02 := zH B02
 have SS := zH (⟨s0, s2⟩ : w0.heap.size = w.heap.size + 1 /\ w2.heap.size = w0.heap.size + 1)
 have HW0 := zH hw0
 have HW2 := zH hw2
 have hi0 : ¬ (i : Int) < 0 := by omega
 have hi1 : ¬ S.n < i := by omega
 clear hT hi hw0 hw2 B0 B2 X0 R2 B02 C2 RE s0 s2
 go_enter Tryz.func43, Tryz.ntmps43
 go_upto_region 1 with fail
 rw [<- HW0.out]
 go_upto_region 3 with fail
 clear hi0 hi1
 go_upto_region 4 with fail
 rw [<- HW2.out]
 go_wp2_with fail
 refine HRE.out.mono ?_
 rintro e w3 ⟨l, t, rfl, hT3, k3, i3, c3, b3, hres, hc3, h3⟩
 obtain ⟨An, cA, As, cS, rfl, -⟩ := hT3.parts
 have ss := SS.out
 have hw0s : w.heap.size < w0.heap.size := by omega
 have hs3 := k3.size
 have hw3s : w.heap.size < w3.heap.size := by omega
 obtain ⟨w4, hw4⟩ : ∃ w4, w4 = w3.alloc (.cells #[.int .i64 t.kind, .string t.pkg, .int .i64 t.major, .string t.mod, .string t.name, .slice An t.names.length cA, .slice As t.subs.length cS] 48) := ⟨_, rfl⟩
 have B4 : Below w3.heap.size w3 w4 := by rw [hw4]; exact below_new (Below.refl _ _) _
 have O4 : w4.heap[w3.heap.size]? = some (.cells #[.int .i64 t.kind, .string t.pkg, .int .i64 t.major, .string t.mod, .string t.name, .slice An t.names.length cA, .slice As t.subs.length cS] 48 (0, 0)) := by rw [hw4]; exact heap_alloc_new w3 _
 have h4 := h3.on B4
 have X4 : Bx w.heap.size w4 := (B4.block _ (by omega)).trans ((k3.blk (by omega) (by omega)).trans HX2.out)
 have k24 := k3.trans (Kp.of_below B4)
 have B24 : Below w.heap.size w w4 := HB02.out.trans ((k24.below (by omega)).mono (by omega))
 have T4 : TyAt (strike (· < w.heap.size + 1) w4) [.int .i64 t.kind, .string t.pkg, .int .i64 t.major, .string t.mod, .string t.name, .slice An t.names.length cA, .slice As t.subs.length cS] t := hT3.move (by have := B4.size; omega) fun b hb hS => ⟨by omega, B4.block b hb⟩
 have r3 := h4.c3
 have r1 := h4.c1
 have HW4 := zH hw4
 have HT4 := zH T4
 have HB24 := zH B24
 have HX4 := zH X4
 have HO4 := zH O4
 have HRS := zH hres
 have hr4 := h4.lt
 clear hT3 k3 h3 hres B4 O4 h4 k24 B24 T4 hw4 ss hs3 HRE HX2 HB02 SS
 go_upto_region 5 with fail
 rw [<- HW4.out]
 have HXD : Hid (Bx w.heap.size w4.drew) := zH X4
 clear X4
 by_cases hb : b3 = 0
 ·subst hb
  have hok : atR S i = .ok t i3 c3 := by rw [HRS.out]; rfl
  have O4 := HO4.out;obtain ⟨x0, x1, x2, x3, x4, x5, x6⟩ := cq7 O4;simp at x0 x1 x2 x3 x4 x5 x6;simp at r3
  have FIN : Hid (RtOut w S i (.returned (.tuple #[.agg #[.int .i64 t.kind, .string t.pkg, .int .i64 t.major, .string t.mod, .string t.name, .slice An t.names.length cA, .slice As t.subs.length cS], .int .i64 i3, .int .i64 0, .int .i64 (-1)])) (w4.drew.setRow w.heap.size #[.int .i64 t.kind, .string t.pkg, .int .i64 t.major, .string t.mod, .string t.name, .slice An t.names.length cA, .slice As t.subs.length cS])) := zH
   ⟨setRow_below ((HB24.out).trans (Below.drew (Below.refl _ _))) (Nat.le_refl _) _, .inl ⟨[.int .i64 t.kind, .string t.pkg, .int .i64 t.major, .string t.mod, .string t.name, .slice An t.names.length cA, .slice As t.subs.length cS], t, i3, c3, hok, rfl, HT4.out.move (by simp) fun b hb hS => ⟨fun e => hS (Nat.lt_succ_of_lt e), (setRow_other w4.drew w.heap.size b _ (fun e => by subst e; exact hS (Nat.lt_succ_self _))).trans rfl⟩⟩⟩
  clear hok O4;go_upto_region 7 with fail
  refine AnyX.start (fun wx => wx.cell? ⟨w0.heap.size, 1, none⟩ = some (.int .i64 i3) /\ wx.cell? ⟨w3.heap.size, 0, none⟩ = some (.int .i64 t.kind) /\ wx.cell? ⟨w3.heap.size, 1, none⟩ = some (.string t.pkg) /\ wx.cell? ⟨w3.heap.size, 2, none⟩ = some (.int .i64 t.major) /\ wx.cell? ⟨w3.heap.size, 3, none⟩ = some (.string t.mod) /\ wx.cell? ⟨w3.heap.size, 4, none⟩ = some (.string t.name) /\ wx.cell? ⟨w3.heap.size, 5, none⟩ = some (.slice An t.names.length cA) /\ wx.cell? ⟨w3.heap.size, 6, none⟩ = some (.slice As t.subs.length cS)) (fun _ => false) (by kernel_rfl) ?_;have hH0 : w4.drew.cell? ⟨w3.heap.size, 0, none⟩ = some (.int .i64 t.kind) /\ w4.drew.cell? ⟨w3.heap.size, 1, none⟩ = some (.string t.pkg) /\ w4.drew.cell? ⟨w3.heap.size, 2, none⟩ = some (.int .i64 t.major) /\ w4.drew.cell? ⟨w3.heap.size, 3, none⟩ = some (.string t.mod) /\ w4.drew.cell? ⟨w3.heap.size, 4, none⟩ = some (.string t.name) /\ w4.drew.cell? ⟨w3.heap.size, 5, none⟩ = some (.slice An t.names.length cA) /\ w4.drew.cell? ⟨w3.heap.size, 6, none⟩ = some (.slice As t.subs.length cS) := ⟨x0, x1, x2, x3, x4, x5, x6⟩;have hH1 : w4.drew.cell? ⟨w0.heap.size, 1, none⟩ = some (.int .i64 i3) := r1;have hC : ∀ (b o : Nat) (v : Value), b ≠ w.heap.size -> w4.drew.cell? ⟨b, o, none⟩ = some v -> (w4.drew.setRow w.heap.size #[.int .i64 t.kind, .string t.pkg, .int .i64 t.major, .string t.mod, .string t.name, .slice An t.names.length cA, .slice As t.subs.length cS]).cell? ⟨b, o, none⟩ = some v := fun b o v hb h => (World.cell?_of_block (a := ⟨b, o, none⟩) (setRow_other w4.drew w.heap.size b _ hb)).trans h
  refine AnyX.tk (i := 0) (v := ?_) rfl (fun _ _ _ h => h) ⟨hH1, hH0⟩ (Or.inl ⟨by rfl, ?_⟩) ?_;rotate_left
  ·(intro wS hS; (try obtain ⟨hS0, hS1, hS2, hS3, hS4, hS5, hS6, hS7⟩ := hS); go_simp; try with_reducible rfl)
  simp only [getElem_toArray, getElem_cons_succ, getElem_cons_zero];simp only [Act.put, setIfInBounds_toArray, set_cons_zero, set_cons_succ];refine AnyX.mv (i := 1) (v := ?_) rfl (fun _ _ _ h => h) (Or.inl ⟨by rfl, ?_⟩) ?_;rotate_left
  ·(intro wS _; go_simp; try with_reducible rfl)
  simp only [getElem_toArray, getElem_cons_succ, getElem_cons_zero];simp only [Act.put, setIfInBounds_toArray, set_cons_zero, set_cons_succ];refine AnyX.mv (i := 2) (v := ?_) rfl (fun _ _ _ h => h) (Or.inl ⟨by rfl, ?_⟩) ?_;rotate_left
  ·(intro wS _; go_simp; try with_reducible rfl)
  simp only [getElem_toArray, getElem_cons_succ, getElem_cons_zero];simp only [Act.put, setIfInBounds_toArray, set_cons_zero, set_cons_succ];refine AnyX.mv (i := 3) (v := ?_) rfl (fun _ _ _ h => h) (Or.inl ⟨by rfl, ?_⟩) ?_;rotate_left
  ·(intro wS _; go_simp; try with_reducible rfl)
  simp only [getElem_toArray, getElem_cons_succ, getElem_cons_zero];simp only [Act.put, setIfInBounds_toArray, set_cons_zero, set_cons_succ];refine AnyX.tk (i := 4) (v := ?_) rfl (fun _ _ _ h => h) ⟨hH1, hH0⟩ (Or.inl ⟨by rfl, ?_⟩) ?_;rotate_left
  ·(intro wS hS; (try obtain ⟨hS0, hS1, hS2, hS3, hS4, hS5, hS6, hS7⟩ := hS); go_simp; try with_reducible rfl)
  simp only [getElem_toArray, getElem_cons_succ, getElem_cons_zero];simp only [Act.put, setIfInBounds_toArray, set_cons_zero, set_cons_succ];refine AnyX.go 5 (by kernel_rfl) rfl rfl (fun K hK => ?_);simp only [getElem_toArray, getElem_cons_succ, getElem_cons_zero];refine wp_store_row 48 (.tmp 4) (.tmp 40) rfl w.heap.size #[.int .i64 t.kind, .string t.pkg, .int .i64 t.major, .string t.mod, .string t.name, .slice An t.names.length cA, .slice As t.subs.length cS] rfl rfl _ _ HXD.out tySize rfl tyOne ?_;refine hK.out _ _ (fun hoff _ => ⟨hC _ _ _ (by omega) hH1, hC _ _ _ (by omega) x0, hC _ _ _ (by omega) x1, hC _ _ _ (by omega) x2, hC _ _ _ (by omega) x3, hC _ _ _ (by omega) x4, hC _ _ _ (by omega) x5, hC _ _ _ (by omega) x6⟩) ?_;clear hK;(try simp only [Act.put, setIfInBounds_toArray, set_cons_zero, set_cons_succ]);refine AnyX.mv (i := 6) (v := ?_) rfl (fun _ _ _ h => h) (Or.inl ⟨by rfl, ?_⟩) ?_;rotate_left
  ·(intro wS _; go_simp; try with_reducible rfl)
  simp only [getElem_toArray, getElem_cons_succ, getElem_cons_zero];simp only [Act.put, setIfInBounds_toArray, set_cons_zero, set_cons_succ];refine AnyX.mv (i := 7) (v := ?_) rfl (fun _ _ _ h => h) (Or.inl ⟨by rfl, ?_⟩) ?_;rotate_left
  ·(intro wS _; go_simp; try with_reducible rfl)
  simp only [getElem_toArray, getElem_cons_succ, getElem_cons_zero];simp only [Act.put, setIfInBounds_toArray, set_cons_zero, set_cons_succ];refine AnyX.mv (i := 8) (v := ?_) rfl (fun _ _ _ h => h) (Or.inl ⟨by rfl, ?_⟩) ?_;rotate_left
  ·(intro wS _; go_simp; try with_reducible rfl)
  simp only [getElem_toArray, getElem_cons_succ, getElem_cons_zero];simp only [Act.put, setIfInBounds_toArray, set_cons_zero, set_cons_succ];refine AnyX.done (by kernel_rfl) ?_ _;go_wp2_with fail
  exact ret_agg4 (fn := Tryz.f43) (vs := [.int .i64 t.kind, .string t.pkg, .int .i64 t.major, .string t.mod, .string t.name, .slice An t.names.length cA, .slice As t.subs.length cS]) (b := w.heap.size) rfl rfl rfl rfl rfl Tryz.underlying48 (by kernel_rfl) (cell7 (setRow_heap w4.drew w.heap.size _ _ _ _ HXD.out)) rfl FIN.out
 ·have herr : atR S i = .err b3 i3 := by rw [HRS.out]; exact badR_ne _ _ hb
  have FIN : Hid (RtOut w S i (.returned (.tuple #[.agg #[.int .i64 0, .string ⟨#[]⟩, .int .i64 0, .string ⟨#[]⟩, .string ⟨#[]⟩, .slice none 0 0, .slice none 0 0], .int .i64 0, .int .i64 b3, .int .i64 i3])) (w4.drew.setRow w.heap.size #[.int .i64 0, .string ⟨#[]⟩, .int .i64 0, .string ⟨#[]⟩, .string ⟨#[]⟩, .slice none 0 0, .slice none 0 0])) := zH
   ⟨setRow_below ((HB24.out).trans (Below.drew (Below.refl _ _))) (Nat.le_refl _) _, .inr ⟨b3, i3, herr, hb, rfl⟩⟩
  have hb1 : (((b3 : Nat) : Int) == 0) = false := by simp; omega
  have hb2 : (((b3 : Nat) : Int) != 0) = true := by simp; omega
  clear herr hb;go_upto_region 6 with fail
  refine AnyX.start (fun wx => wx.cell? ⟨w0.heap.size, 1, none⟩ = some (.int .i64 i3) /\ wx.cell? ⟨w0.heap.size, 3, none⟩ = some (.int .i64 b3)) (fun _ => false) (by kernel_rfl) ?_;have hH1 : w4.drew.cell? ⟨w0.heap.size, 1, none⟩ = some (.int .i64 i3) := r1;have hH3 : w4.drew.cell? ⟨w0.heap.size, 3, none⟩ = some (.int .i64 b3) := r3;have hC : ∀ (b o : Nat) (v : Value), b ≠ w.heap.size -> w4.drew.cell? ⟨b, o, none⟩ = some v -> (w4.drew.setRow w.heap.size #[.int .i64 0, .string ⟨#[]⟩, .int .i64 0, .string ⟨#[]⟩, .string ⟨#[]⟩, .slice none 0 0, .slice none 0 0]).cell? ⟨b, o, none⟩ = some v := fun b o v hb h => (World.cell?_of_block (a := ⟨b, o, none⟩) (setRow_other w4.drew w.heap.size b _ hb)).trans h
  refine AnyX.mv (i := 0) (v := ?_) rfl (fun _ _ _ h => h) (Or.inl ⟨by rfl, ?_⟩) ?_;rotate_left
  ·(intro wS _; go_simp; try with_reducible rfl)
  simp only [getElem_toArray, getElem_cons_succ, getElem_cons_zero];simp only [Act.put, setIfInBounds_toArray, set_cons_zero, set_cons_succ];refine AnyX.mv (i := 1) (v := ?_) rfl (fun _ _ _ h => h) (Or.inl ⟨by rfl, ?_⟩) ?_;rotate_left
  ·(intro wS _; go_simp; try with_reducible rfl)
  simp only [getElem_toArray, getElem_cons_succ, getElem_cons_zero];simp only [Act.put, setIfInBounds_toArray, set_cons_zero, set_cons_succ];refine AnyX.mv (i := 2) (v := ?_) rfl (fun _ _ _ h => h) (Or.inl ⟨by rfl, ?_⟩) ?_;rotate_left
  ·(intro wS _; go_simp; try with_reducible rfl)
  simp only [getElem_toArray, getElem_cons_succ, getElem_cons_zero];simp only [Act.put, setIfInBounds_toArray, set_cons_zero, set_cons_succ];refine AnyX.mv (i := 3) (v := ?_) rfl (fun _ _ _ h => h) (Or.inl ⟨by rfl, ?_⟩) ?_;rotate_left
  ·(intro wS _; go_simp; try with_reducible rfl)
  simp only [getElem_toArray, getElem_cons_succ, getElem_cons_zero];simp only [Act.put, setIfInBounds_toArray, set_cons_zero, set_cons_succ];refine AnyX.tk (i := 4) (v := ?_) rfl (fun _ _ _ h => h) ⟨hH1, hH3⟩ (Or.inl ⟨by rfl, ?_⟩) ?_;rotate_left
  ·(intro wS hS; (try obtain ⟨hS0, hS1⟩ := hS); go_simp; try with_reducible rfl)
  simp only [getElem_toArray, getElem_cons_succ, getElem_cons_zero];simp only [Act.put, setIfInBounds_toArray, set_cons_zero, set_cons_succ];refine AnyX.mv (i := 5) (v := ?_) rfl (fun _ _ _ h => h) (Or.inl ⟨by rfl, ?_⟩) ?_;rotate_left
  ·(intro wS _; go_simp; try with_reducible rfl)
  simp only [getElem_toArray, getElem_cons_succ, getElem_cons_zero];simp only [Act.put, setIfInBounds_toArray, set_cons_zero, set_cons_succ];refine AnyX.mv (i := 6) (v := ?_) rfl (fun _ _ _ h => h) (Or.inl ⟨by rfl, ?_⟩) ?_;rotate_left
  ·(intro wS _; go_simp; try with_reducible rfl)
  simp only [getElem_toArray, getElem_cons_succ, getElem_cons_zero];simp only [Act.put, setIfInBounds_toArray, set_cons_zero, set_cons_succ];refine AnyX.mv (i := 7) (v := ?_) rfl (fun _ _ _ h => h) (Or.inl ⟨by rfl, ?_⟩) ?_;rotate_left
  ·(intro wS _; go_simp; try with_reducible rfl)
  simp only [getElem_toArray, getElem_cons_succ, getElem_cons_zero];simp only [Act.put, setIfInBounds_toArray, set_cons_zero, set_cons_succ];refine AnyX.tk (i := 8) (v := ?_) rfl (fun _ _ _ h => h) ⟨hH1, hH3⟩ (Or.inl ⟨by rfl, ?_⟩) ?_;rotate_left
  ·(intro wS hS; (try obtain ⟨hS0, hS1⟩ := hS); go_simp; try with_reducible rfl)
  simp only [getElem_toArray, getElem_cons_succ, getElem_cons_zero];simp only [Act.put, setIfInBounds_toArray, set_cons_zero, set_cons_succ];refine AnyX.go 9 (by kernel_rfl) rfl rfl (fun K hK => ?_);simp only [getElem_toArray, getElem_cons_succ, getElem_cons_zero];refine wp_store_row 48 (.tmp 4) (.tmp 31) rfl w.heap.size #[.int .i64 0, .string ⟨#[]⟩, .int .i64 0, .string ⟨#[]⟩, .string ⟨#[]⟩, .slice none 0 0, .slice none 0 0] rfl rfl _ _ HXD.out tySize rfl tyOne ?_;refine hK.out _ _ (fun hoff _ => ⟨hC _ _ _ (by omega) hH1, hC _ _ _ (by omega) hH3⟩) ?_;clear hK;(try simp only [Act.put, setIfInBounds_toArray, set_cons_zero, set_cons_succ]);refine AnyX.mv (i := 10) (v := ?_) rfl (fun _ _ _ h => h) (Or.inl ⟨by rfl, ?_⟩) ?_;rotate_left
  ·(intro wS _; go_simp; try with_reducible rfl)
  simp only [getElem_toArray, getElem_cons_succ, getElem_cons_zero];simp only [Act.put, setIfInBounds_toArray, set_cons_zero, set_cons_succ];refine AnyX.mv (i := 11) (v := ?_) rfl (fun _ _ _ h => h) (Or.inl ⟨by rfl, ?_⟩) ?_;rotate_left
  ·(intro wS _; go_simp; try with_reducible rfl)
  simp only [getElem_toArray, getElem_cons_succ, getElem_cons_zero];simp only [Act.put, setIfInBounds_toArray, set_cons_zero, set_cons_succ];refine AnyX.mv (i := 12) (v := ?_) rfl (fun _ _ _ h => h) (Or.inl ⟨by rfl, ?_⟩) ?_;rotate_left
  ·(intro wS _; go_simp; try with_reducible rfl)
  simp only [getElem_toArray, getElem_cons_succ, getElem_cons_zero];simp only [Act.put, setIfInBounds_toArray, set_cons_zero, set_cons_succ];refine AnyX.done (by kernel_rfl) ?_ _;go_wp2_with fail
  exact ret_agg4 (fn := Tryz.f43) (vs := [.int .i64 0, .string ⟨#[]⟩, .int .i64 0, .string ⟨#[]⟩, .string ⟨#[]⟩, .slice none 0 0, .slice none 0 0]) (b := w.heap.size) rfl rfl rfl rfl rfl Tryz.underlying48 (by kernel_rfl) (cell7 (setRow_heap w4.drew w.heap.size _ _ _ _ HXD.out)) rfl FIN.out
end Go.Proofs.YtddlmigofilejaaGreatDoor
namespace Go.Proofs.YtddlmigofilejaaGreatDoor.M
def blankC (n : Int) : Bool := n == 32 || n == 9 || n == 10
def lineC (n : Int) : Bool := !(n == 10)
def signs : List Int := [123, 125, 40, 41, 91, 93, 60, 62, 44, 58, 46, 61]
def signC (n : Int) : Bool := signs.contains n
def stop (g : Int -> Bool) (l : List UInt8) (i : Nat) : Nat := i + ((l.drop i).takeWhile fun c => g (c.toNat : Int)).length
def twoC (a b : Int) : Bool := (a == 45 && b == 62) || (a == 46 && b == 46)
def item (l : List UInt8) (i : Nat) : Nat × Nat :=
  if blankC (bt l i) = true then (0, i + 1)
  else if bt l i = 35 then (0, stop lineC l (i + 1))
  else if lowC (bt l i) = true then (1, stop anyC l (i + 1))
  else if upC (bt l i) = true then (2, stop anyC l (i + 1))
  else if digC (bt l i) = true then (3, stop digC l (i + 1))
  else if twoC (bt l i) (bt l (i + 1)) = true then (4, i + 2)
  else if signC (bt l i) = true then (4, i + 1)
  else (5, i)
structure Tok where
  kind : Nat
  place : Nat
  text : ByteArray
def finN (s : ByteArray) : Nat -> Nat -> List Tok -> List Tok × Int
  | 0, _, acc => (acc, -1)
  | n + 1, i, acc =>
    if s.size <= i then (acc, -1)
    else if (item s.data.toList i).1 = 5 then ([], (i : Int))
    else if (item s.data.toList i).1 = 0 then finN s n (item s.data.toList i).2 acc
    else finN s n (item s.data.toList i).2 (acc ++ [⟨(item s.data.toList i).1, i, s.extract i (item s.data.toList i).2⟩])
def fin (s : ByteArray) (i : Nat) (acc : List Tok) : List Tok × Int := finN s (s.size - i) i acc
theorem bt_drop (l : List UInt8) (i j : Nat) : bt (l.drop i) j = bt l (i + j) := by
  unfold bt
  simp [List.getD_eq_getElem?_getD]
theorem bt_past (l : List UInt8) (j : Nat) (h : l.length <= j) : bt l j = 0 := by
  unfold bt
  rw [List.getD_eq_getElem?_getD, List.getElem?_eq_none h];rfl
theorem takeWhile_at (g : Int -> Bool) (l : List UInt8) (n : Nat) (hn : n <= l.length) (h : ∀ j, j < n -> g (bt l j) = true) (he : n = l.length \/ g (bt l n) = false) :
    (l.takeWhile fun c => g (c.toNat : Int)).length = n := by
  induction l generalizing n with
  | nil => simp at hn; subst hn; rfl
  | cons c r ih =>
    rcases n with _ | n
    · rcases he with he | he
      · simp at he
      · have : g (c.toNat : Int) = false := he
        simp [this]
    · have h0 : g (c.toNat : Int) = true := h 0 (by omega)
      have e : ∀ j, bt (c :: r) (j + 1) = bt r j := fun j => by unfold bt; simp
      have he' : n = r.length \/ g (bt r n) = false := by
        rw [<- e];rcases he with he | he
        · left; simpa using he
        · right; exact he
      rw [List.takeWhile_cons, if_pos h0, List.length_cons, ih n (by simpa using hn) (fun j hj => by rw [<- e]; exact h (j + 1) (by omega)) he']
theorem stop_eq (g : Int -> Bool) (l : List UInt8) (i k : Nat) (hi : i <= k) (hk : k <= l.length) (h : ∀ j, i <= j -> j < k -> g (bt l j) = true) (he : k = l.length \/ g (bt l k) = false) : stop g l i = k := by
  unfold stop
  rw [takeWhile_at g (l.drop i) (k - i) (by simp; omega) (fun j hj => by rw [bt_drop]; exact h _ (by omega) (by omega)) (by
    rcases he with he | he
    · left; simp; omega
    · right; rw [bt_drop, show i + (k - i) = k by omega]; exact he)]
  omega
theorem stop_ge (g : Int -> Bool) (l : List UInt8) (i : Nat) : i <= stop g l i := by unfold stop; omega
theorem stop_le (g : Int -> Bool) (l : List UInt8) (i : Nat) (h : i <= l.length) : stop g l i <= l.length := by
  unfold stop
  have := (List.takeWhile_sublist (fun c : UInt8 => g (c.toNat : Int)) (l := l.drop i)).length_le
  simp at this;omega
theorem stop_step (g : Int -> Bool) (l : List UInt8) (i : Nat) (h : i < l.length) (hg : g (bt l i) = true) : stop g l i = stop g l (i + 1) := by
  unfold stop
  rw [List.drop_eq_getElem_cons h, List.takeWhile_cons]
  have : g (l[i].toNat : Int) = true := by
    unfold bt at hg
    rwa [List.getD_eq_getElem?_getD, List.getElem?_eq_getElem h] at hg
  rw [if_pos this];simp;omega
theorem stop_drop (g : Int -> Bool) (l : List UInt8) (i j : Nat) : i + stop g (l.drop i) j = stop g l (i + j) := by
  unfold stop
  rw [List.drop_drop];omega
theorem item_drop (l : List UInt8) (i : Nat) : item l i = ((item (l.drop i) 0).1, i + (item (l.drop i) 0).2) := by
  unfold item
  simp only [bt_drop, Nat.add_zero, Nat.zero_add];have e : ∀ g, stop g l (i + 1) = i + stop g (l.drop i) 1 := fun g => (stop_drop g l i 1).symm
  simp only [e]
  (repeat' split) <;> simp
theorem item_gt (l : List UInt8) (i : Nat) (h : (item l i).1 ≠ 5) : i < (item l i).2 := by
  unfold item at *
  have h1 := stop_ge lineC l (i + 1);have h2 := stop_ge anyC l (i + 1);have h3 := stop_ge digC l (i + 1);revert h
  (repeat' split) <;> simp <;> omega
theorem item_le (l : List UInt8) (i : Nat) (hi : i < l.length) : (item l i).2 <= l.length := by
  unfold item
  have h1 := stop_le lineC l (i + 1) (by omega);have h2 := stop_le anyC l (i + 1) (by omega);have h3 := stop_le digC l (i + 1) (by omega)
  (repeat' split) <;> try (simp; omega)
  rename_i h
  have : i + 1 < l.length := by
    rcases Nat.lt_or_ge (i + 1) l.length with a | a
    · exact a
    · rw [bt_past l (i + 1) a] at h
      simp [twoC] at h
  simp; omega
theorem finN_same (s : ByteArray) : ∀ (n m i : Nat) (acc : List Tok), s.size - i <= n -> s.size - i <= m -> finN s n i acc = finN s m i acc
  | 0, 0, _, _, _, _ => rfl
  | 0, m + 1, i, acc, h, _ => by
    have : s.size <= i := by omega
    simp [finN, this]
  | n + 1, 0, i, acc, _, h => by
    have : s.size <= i := by omega
    simp [finN, this]
  | n + 1, m + 1, i, acc, h1, h2 => by
    unfold finN
    by_cases a : s.size <= i
    · simp [a]
    · by_cases b : (item s.data.toList i).1 = 5
      · simp [a, b]
      · have g := item_gt s.data.toList i b
        by_cases c : (item s.data.toList i).1 = 0
        · simp only [a, c, if_false, if_true]
          exact finN_same s n m _ _ (by omega) (by omega)
        · simp only [a, b, c, if_false]
          exact finN_same s n m _ _ (by omega) (by omega)
theorem fin_end (s : ByteArray) (i : Nat) (acc : List Tok) (h : s.size <= i) : fin s i acc = (acc, -1) := by
  unfold fin
  rw [show s.size - i = 0 by omega];rfl
theorem fin_step (s : ByteArray) (i : Nat) (acc : List Tok) (h : i < s.size) :
    fin s i acc = if (item s.data.toList i).1 = 5 then ([], (i : Int)) else if (item s.data.toList i).1 = 0 then fin s (item s.data.toList i).2 acc
      else fin s (item s.data.toList i).2 (acc ++ [⟨(item s.data.toList i).1, i, s.extract i (item s.data.toList i).2⟩]) := by
  have e : s.size - i = (s.size - i - 1) + 1 := by omega
  unfold fin
  rw [e];conv => lhs; unfold finN
  rw [if_neg (by omega)];by_cases b : (item s.data.toList i).1 = 5
  · simp [b]
  · have g := item_gt s.data.toList i b
    by_cases c : (item s.data.toList i).1 = 0
    · simp only [c, if_true]
      rw [if_neg (by omega), if_neg (by omega)];exact finN_same s _ _ _ _ (by omega) (by omega)
    · simp only [b, c, if_false]
      exact finN_same s _ _ _ _ (by omega) (by omega)
theorem fin_skip {s : ByteArray} {i k : Nat} (acc : List Tok) (h : i < s.size) (e : item s.data.toList i = (0, k)) : fin s i acc = fin s k acc := by
  rw [fin_step s i acc h, e]; simp
theorem fin_bad {s : ByteArray} {i k : Nat} (acc : List Tok) (h : i < s.size) (e : item s.data.toList i = (5, k)) : fin s i acc = ([], (i : Int)) := by
  rw [fin_step s i acc h, e]; simp
theorem fin_tok {s : ByteArray} {i k c : Nat} (acc : List Tok) (h : i < s.size) (e : item s.data.toList i = (c, k)) (c0 : c ≠ 0) (c5 : c ≠ 5) : fin s i acc = fin s k (acc ++ [⟨c, i, s.extract i k⟩]) := by
  rw [fin_step s i acc h, e]; simp [c0, c5]
theorem fin_at (s : ByteArray) (n : Nat) : ∀ (i : Nat) (acc : List Tok), s.size - i <= n -> (fin s i acc).2 = -1 \/ ∃ k : Nat, k < s.size /\ fin s i acc = ([], (k : Int)) := by
  induction n with
  | zero => intro i acc h; left; rw [fin_end s i acc (by omega)]
  | succ n ih =>
    intro i acc h;rcases Nat.lt_or_ge i s.size with a | a
    · rw [fin_step s i acc a]
      by_cases b : (item s.data.toList i).1 = 5
      · right; exact ⟨i, a, by simp [b]⟩
      · have g := item_gt s.data.toList i b
        by_cases c : (item s.data.toList i).1 = 0
        · simp only [c, if_true]
          rw [if_neg (by omega)];exact ih _ _ (by omega)
        · simp only [b, c, if_false]
          exact ih _ _ (by omega)
    · left; rw [fin_end s i acc a]
end Go.Proofs.YtddlmigofilejaaGreatDoor.M
namespace Go.Proofs.YtddlmigofilejaaGreatDoor.M
open Go
theorem list_one {l : List UInt8} (h : l.length = 1) : ∃ c, l = [c] := by
  match l, h with
  | [c], _ => exact ⟨c, rfl⟩
theorem arr_one {s : ByteArray} (h : s.size = 1) : ∃ c : UInt8, s = ⟨#[c]⟩ := by
  obtain ⟨c, hc⟩ := list_one (l := s.data.toList) (by simpa using h);refine ⟨c, ?_⟩;cases s with
  | mk d => cases d with
    | mk l => simp at hc; subst hc; rfl
theorem bt_one (c : UInt8) : bt [c] 0 = (c.toNat : Int) := rfl
theorem key_one (c : UInt8) : keyB [c] = false := by
  unfold keyB keys
  simp
theorem word_one (c : UInt8) : wordB [c] = false := by
  unfold wordB words
  simp
theorem small_one {s : ByteArray} (h : s.size = 1) : smallB s.data.toList = lowC (bt s.data.toList 0) := by
  obtain ⟨c, rfl⟩ := arr_one h;simp [smallB, key_one, spell, bt]
theorem great_one {s : ByteArray} (h : s.size = 1) : greatB s.data.toList = upC (bt s.data.toList 0) := by
  obtain ⟨c, rfl⟩ := arr_one h;simp [greatB, word_one, spell, bt]
theorem piece_size (s : ByteArray) (k : Nat) (h : k < s.size) : (s.extract k (k + 1)).size = 1 := by
  simp;omega
theorem piece_bt (s : ByteArray) (k : Nat) : bt (s.extract k (k + 1)).data.toList 0 = bt s.data.toList k := by
  unfold bt
  simp only [List.getD_eq_getElem?_getD, ByteArray.data_extract, Array.toList_extract, List.extract];rw [List.getElem?_take_of_lt (by omega), List.getElem?_drop];simp
theorem tail_list (s : ByteArray) (k : Nat) : (s.extract k s.size).data.toList = s.data.toList.drop k := Lib.extract_to_end s k
theorem tail_size (s : ByteArray) (k : Nat) : (s.extract k s.size).size = s.size - k := by
  simp
theorem line_iff (c : UInt8) : lineC (c.toNat : Int) = !(c == 10) := by
  unfold lineC
  congr 1
  rw [Bool.eq_iff_iff];simp [<- UInt8.toNat_inj];omega
theorem bt_get (l : List UInt8) (j : Nat) (c : UInt8) (h : l[j]? = some c) : bt l j = (c.toNat : Int) := by
  unfold bt; rw [List.getD_eq_getElem?_getD, h]; rfl
theorem line_none (l : List UInt8) (k : Nat) (hk : k <= l.length) (h : Lib.indexByte (l.drop k) 10 = -1) : stop lineC l k = l.length := by
  refine stop_eq _ _ _ _ hk (Nat.le_refl _) (fun j h1 h2 => ?_) (.inl rfl);have := Lib.indexByte_none h (j - k)
  rw [List.getElem?_drop, show k + (j - k) = j by omega, List.getElem?_eq_getElem h2] at this;rw [bt_get l j _ (List.getElem?_eq_getElem h2), line_iff];simpa using this
theorem line_some (l : List UInt8) (k o : Nat) (h : Lib.indexByte (l.drop k) 10 = o) : stop lineC l k = k + o /\ k + o < l.length := by
  obtain ⟨h1, h2⟩ := Lib.indexByte_some h;rw [List.getElem?_drop] at h1
  have hlt : k + o < l.length := by
    rcases Nat.lt_or_ge (k + o) l.length with a | a
    · exact a
    · rw [List.getElem?_eq_none a] at h1; cases h1
  refine ⟨stop_eq _ _ _ _ (by omega) (by omega) (fun j h3 h4 => ?_) (.inr ?_), hlt⟩
  · have := h2 (j - k) (by omega)
    rw [List.getElem?_drop, show k + (j - k) = j by omega, List.getElem?_eq_getElem (by omega)] at this;rw [bt_get l j _ (List.getElem?_eq_getElem (by omega)), line_iff];simpa using this
  · rw [bt_get l _ _ h1, line_iff]; rfl
theorem index_cases (l : List UInt8) (c : UInt8) : Lib.indexByte l c = -1 \/ ∃ o : Nat, Lib.indexByte l c = o := by
  have := Lib.indexByte_ge l c
  rcases Int.lt_or_le (Lib.indexByte l c) 0 with a | a
  · left; omega
  · right; exact ⟨(Lib.indexByte l c).toNat, by omega⟩
theorem pre_two (a b : UInt8) (hb : b ≠ 0) (ha : a ≠ 0) (l : List UInt8) : Lib.hasPrefix l [a, b] = (bt l 0 == (a.toNat : Int) && bt l 1 == (b.toNat : Int)) := by
  unfold Lib.hasPrefix bt
  have e : ∀ x y : UInt8, (x == y) = ((y.toNat : Int) == (x.toNat : Int)) := fun x y => by
    rw [Bool.eq_iff_iff]; simp [<- UInt8.toNat_inj]; omega
  match l with
  | [] => simp [List.isPrefixOf]; intro h; exact absurd (UInt8.toNat_inj.1 (by simpa using h.symm)) ha
  | [x] => simp [List.isPrefixOf]; intro _ h; exact absurd (UInt8.toNat_inj.1 (by simpa using h.symm)) hb
  | x :: y :: r => simp [List.isPrefixOf, e a x, e b y]
theorem sign_iff (c : UInt8) : ([123, 125, 40, 41, 91, 93, 60, 62, 44, 58, 46, 61] : List UInt8).contains c = signC (c.toNat : Int) := by
  unfold signC signs
  rw [Bool.eq_iff_iff];simp [<- UInt8.toNat_inj];omega
end Go.Proofs.YtddlmigofilejaaGreatDoor.M
namespace Go.Proofs.YtddlmigofilejaaGreatDoor
open Go.RowKit
open M
theorem ret_nat {a b : Nat} (h : b = a) : Ending.returned (.int .i64 (a : Int)) = .returned (.int .i64 (b : Int)) := by rw [h]
theorem one_le {s : ByteArray} (h : s.size = 1) : s.size <= 9223372036854775807 := by omega
theorem lower1 (s : ByteArray) (b : Bool) (w : World) (h : s.size = 1) (hb : lowC (bt s.data.toList 0) = b) : Calls Tryz.prog 110 #[.string s] w fun e w' => e = .returned (.bool b) /\ w = w' := by
  have H := zH h;have HB := zH hb;clear h hb;go_enter Tryz.func110, Tryz.ntmps110
  go_wp2_with fail
  refine (small_any _ _ (one_le H.out)).mono ?_; rintro e w' ⟨rfl, rfl⟩
  rw [small_one H.out, HB.out];go_wp2
  go_ret;exact ⟨rfl, rfl⟩
theorem upper1 (s : ByteArray) (b : Bool) (w : World) (h : s.size = 1) (hb : upC (bt s.data.toList 0) = b) : Calls Tryz.prog 113 #[.string s] w fun e w' => e = .returned (.bool b) /\ w = w' := by
  have H := zH h;have HB := zH hb;clear h hb;go_enter Tryz.func113, Tryz.ntmps113
  go_wp2_with fail
  refine (great_any _ _ (one_le H.out)).mono ?_; rintro e w' ⟨rfl, rfl⟩
  rw [great_one H.out, HB.out];go_wp2
  go_ret;exact ⟨rfl, rfl⟩
theorem digit_lit (c : UInt8) (w : World) : Calls Tryz.prog 114 #[.string ⟨#[c]⟩] w fun e w' => e = .returned (.bool (digC (c.toNat : Int))) /\ w = w' := by
  have E1 : (⟨#[c]⟩ : ByteArray).toList = [c] := by rw [Lib.toList_data]
  have E2 : (⟨#[48]⟩ : ByteArray).toList = [48] := by rw [Lib.toList_data]
  have E3 : (⟨#[57]⟩ : ByteArray).toList = [57] := by rw [Lib.toList_data]
  go_enter Tryz.func114, Tryz.ntmps114
  go_wp2
  all_goals go_ret
  all_goals refine ⟨ret_bool ?_, rfl⟩
  all_goals (unfold digC; rw [Bool.eq_iff_iff]; simp_all [Op.bytesLess, UInt8.lt_iff_toNat_lt, <- UInt8.toNat_inj]; try omega)
theorem digit1 (s : ByteArray) (b : Bool) (w : World) (h : s.size = 1) (hb : digC (bt s.data.toList 0) = b) : Calls Tryz.prog 114 #[.string s] w fun e w' => e = .returned (.bool b) /\ w = w' := by
  obtain ⟨c, rfl⟩ := arr_one h;have := digit_lit c w
  rw [<- bt_one, hb] at this;exact this
theorem any_parts {n : Int} {b : Bool} (h : anyC n = b) : (lowC n || (upC n || digC n)) = b := by
  rw [<- h]; unfold anyC; rw [Bool.or_assoc]
theorem inWord1 (s : ByteArray) (b : Bool) (w : World) (h : s.size = 1) (hb : anyC (bt s.data.toList 0) = b) : Calls Tryz.prog 112 #[.string s] w fun e w' => e = .returned (.bool b) /\ w = w' := by
  have H := zH h;have hb' := any_parts hb
  clear h hb;rcases hid_or (lowC (bt s.data.toList 0)) with h1 | h1
  · rcases hid_or (upC (bt s.data.toList 0)) with h2 | h2
    · have HB : Hid (digC (bt s.data.toList 0) = b) := by
        refine zH ?_;rw [h1.out, h2.out] at hb'; exact hb'
      clear hb';go_enter Tryz.func112, Tryz.ntmps112
      go_wp2_with fail
      refine (lower1 _ _ _ H.out h1.out).mono ?_; rintro e w' ⟨rfl, rfl⟩
      go_wp2_with fail
      refine (upper1 _ _ _ H.out h2.out).mono ?_; rintro e w' ⟨rfl, rfl⟩
      go_wp2_with fail
      refine (digit1 _ _ _ H.out HB.out).mono ?_; rintro e w' ⟨rfl, rfl⟩
      go_wp2
      go_ret;exact ⟨rfl, rfl⟩
    · obtain rfl : true = b := by rw [h1.out, h2.out] at hb'; exact hb'
      go_enter Tryz.func112, Tryz.ntmps112
      go_wp2_with fail
      refine (lower1 _ _ _ H.out h1.out).mono ?_; rintro e w' ⟨rfl, rfl⟩
      go_wp2_with fail
      refine (upper1 _ _ _ H.out h2.out).mono ?_; rintro e w' ⟨rfl, rfl⟩
      go_wp2
      go_ret;exact ⟨rfl, rfl⟩
  · obtain rfl : true = b := by rw [h1.out] at hb'; exact hb'
    go_enter Tryz.func112, Tryz.ntmps112
    go_wp2_with fail
    refine (lower1 _ _ _ H.out h1.out).mono ?_; rintro e w' ⟨rfl, rfl⟩
    go_wp2
    go_ret;exact ⟨rfl, rfl⟩
theorem span_word (s : ByteArray) (w : World) (hs : s.size <= 9223372036854775806) :
    Calls Tryz.prog 111 #[.string s, .func (.func 112) #[] #[]] w fun e w' => e = .returned (.int .i64 (stop anyC s.data.toList 0 : Nat)) /\ w = w' := by
  go_enter Tryz.func111, Tryz.ntmps111
  go_wp2
  go_loop [5] (fun i => ∃ k : Nat, k <= s.size /\ i = .int .i64 k /\ Hid (∀ j, 0 <= j -> j < k -> anyC (bt s.data.toList j) = true)) (fun i => s.size - (intOf i).toNat)
  case atStart => exact ⟨0, by omega, rfl, zH (fun j a b => by omega)⟩
  case round =>
    obtain ⟨k, hk, rfl, HK⟩ := hrel;by_cases hlt : k < s.size
    · have PS := zH (piece_size s k hlt)
      have PB := zH (piece_bt s k);rcases hid_or (anyC (bt s.data.toList k)) with H | H
      · have R : Hid (stop anyC s.data.toList 0 = k) := zH (stop_eq _ _ _ _ (by omega) (by simp; omega) HK.out (.inr H.out))
        go_wp2_with (go_at_call 112; refine (inWord1 _ false _ PS.out (by rw [PB.out]; exact H.out)).mono ?_; rintro e w' ⟨rfl, rfl⟩)
        go_ret;exact ⟨ret_nat R.out, rfl⟩
      · go_wp2_with (go_at_call 112; refine (inWord1 _ true _ PS.out (by rw [PB.out]; exact H.out)).mono ?_; rintro e w' ⟨rfl, rfl⟩)
        go_round
        case rel => exact ⟨k + 1, by omega, by go_num, zH (upto_step (P := fun j => anyC (bt s.data.toList j)) HK.out H.out)⟩
        case measure => simp [intOf]; omega
    · have R : Hid (stop anyC s.data.toList 0 = k) := zH (stop_eq _ _ _ _ (by omega) (by simp; omega) HK.out (.inl (by simp; omega)))
      go_wp2
      go_ret;exact ⟨ret_nat R.out, rfl⟩
theorem span_digit (s : ByteArray) (w : World) (hs : s.size <= 9223372036854775806) :
    Calls Tryz.prog 111 #[.string s, .func (.func 114) #[] #[]] w fun e w' => e = .returned (.int .i64 (stop digC s.data.toList 0 : Nat)) /\ w = w' := by
  go_enter Tryz.func111, Tryz.ntmps111
  go_wp2
  go_loop [5] (fun i => ∃ k : Nat, k <= s.size /\ i = .int .i64 k /\ Hid (∀ j, 0 <= j -> j < k -> digC (bt s.data.toList j) = true)) (fun i => s.size - (intOf i).toNat)
  case atStart => exact ⟨0, by omega, rfl, zH (fun j a b => by omega)⟩
  case round =>
    obtain ⟨k, hk, rfl, HK⟩ := hrel;by_cases hlt : k < s.size
    · have PS := zH (piece_size s k hlt)
      have PB := zH (piece_bt s k);rcases hid_or (digC (bt s.data.toList k)) with H | H
      · have R : Hid (stop digC s.data.toList 0 = k) := zH (stop_eq _ _ _ _ (by omega) (by simp; omega) HK.out (.inr H.out))
        go_wp2_with (go_at_call 114; refine (digit1 _ false _ PS.out (by rw [PB.out]; exact H.out)).mono ?_; rintro e w' ⟨rfl, rfl⟩)
        go_ret;exact ⟨ret_nat R.out, rfl⟩
      · go_wp2_with (go_at_call 114; refine (digit1 _ true _ PS.out (by rw [PB.out]; exact H.out)).mono ?_; rintro e w' ⟨rfl, rfl⟩)
        go_round
        case rel => exact ⟨k + 1, by omega, by go_num, zH (upto_step (P := fun j => digC (bt s.data.toList j)) HK.out H.out)⟩
        case measure => simp [intOf]; omega
    · have R : Hid (stop digC s.data.toList 0 = k) := zH (stop_eq _ _ _ _ (by omega) (by simp; omega) HK.out (.inl (by simp; omega)))
      go_wp2
      go_ret;exact ⟨ret_nat R.out, rfl⟩
theorem lineEnd_any (s : ByteArray) (k : Nat) (w : World) (hs : s.size <= 9223372036854775806) (hk : k <= s.size) :
    Calls Tryz.prog 109 #[.string s, .int .i64 k] w fun e w' => e = .returned (.int .i64 (stop lineC s.data.toList k : Nat)) /\ w = w' := by
  have TL := zH (tail_list s k);rcases index_cases (s.data.toList.drop k) 10 with h | ⟨o, h⟩
  · have R := zH (line_none _ _ (by simp; omega) h)
    have H := zH h;clear h;have LS := zH (len_size s);rw [R.out, LS.out];clear R LS;go_enter Tryz.func109, Tryz.ntmps109
    go_wp2_with (go_at_call 159; refine (Tryz.strings_IndexByte _ _ _).mono ?_; rintro e w' ⟨rfl, rfl⟩; rw [TL.out, show (10 : Int).toNat.toUInt8 = 10 from rfl, H.out])
    go_ret;exact ⟨rfl, rfl⟩
  · have R := zH (line_some _ _ _ h).1
    have b := (line_some _ _ _ h).2;have LS := len_size s;have b' : k + o < s.size := by omega
    have H := zH h;clear h b LS;rw [R.out];clear R;go_enter Tryz.func109, Tryz.ntmps109
    go_wp2_with (go_at_call 159; refine (Tryz.strings_IndexByte _ _ _).mono ?_; rintro e w' ⟨rfl, rfl⟩; rw [TL.out, show (10 : Int).toNat.toUInt8 = 10 from rfl, H.out])
    go_ret;exact ⟨by go_num, rfl⟩
def signN (a b : Int) : Nat := if twoC a b = true then 2 else if signC a = true then 1 else 0
theorem two_parts (a b : Int) : twoC a b = ((a == 45 && b == 62) || (a == 46 && b == 46)) := rfl
theorem dash_gt (s : ByteArray) : Lib.hasPrefix s.data.toList (⟨#[45, 62]⟩ : ByteArray).data.toList = (bt s.data.toList 0 == 45 && bt s.data.toList 1 == 62) := pre_two 45 62 (by decide) (by decide) _
theorem dot_dot (s : ByteArray) : Lib.hasPrefix s.data.toList (⟨#[46, 46]⟩ : ByteArray).data.toList = (bt s.data.toList 0 == 46 && bt s.data.toList 1 == 46) := pre_two 46 46 (by decide) (by decide) _
theorem sign_ix (s : ByteArray) (h : 0 < s.size) : signC (bt s.data.toList 0) = decide ((0 : Int) <= Lib.indexByte ([123, 125, 40, 41, 91, 93, 60, 62, 44, 58, 46, 61] : List UInt8) ((s[0].toNat : Int)).toNat.toUInt8) := by
 rw [<- Lib.contains_iff_indexByte, <- bt_eq s 0 h, <- sign_iff]
 congr 1
 simp
theorem sign_any (s : ByteArray) (w : World) (h : 0 < s.size) :
  Calls Tryz.prog 115 #[.string s] w fun e w' => e = .returned (.int .i64 (signN (bt s.data.toList 0) (bt s.data.toList 1) : Nat)) /\ w = w' := by
 have D1 := zH (dash_gt s)
 have D2 := zH (dot_dot s)
 rcases hid_or (bt s.data.toList 0 == 45 && bt s.data.toList 1 == 62) with h1 | h1
 ·rcases hid_or (bt s.data.toList 0 == 46 && bt s.data.toList 1 == 46) with h2 | h2
  ·have S := zH (sign_ix s h)
   have T : Hid (twoC (bt s.data.toList 0) (bt s.data.toList 1) = false) := zH (by rw [two_parts, h1.out, h2.out]; rfl);rcases hid_or (signC (bt s.data.toList 0)) with h3 | h3
   ·have R : Hid (signN (bt s.data.toList 0) (bt s.data.toList 1) = 0) := zH (by unfold signN; rw [T.out, h3.out]; rfl)
    have B : ¬ (0 : Int) <= Lib.indexByte ([123, 125, 40, 41, 91, 93, 60, 62, 44, 58, 46, 61] : List UInt8) ((s[0].toNat : Int)).toNat.toUInt8 := by
     have := S.out; rw [h3.out] at this; simpa using this.symm
    generalize hz : Lib.indexByte ([123, 125, 40, 41, 91, 93, 60, 62, 44, 58, 46, 61] : List UInt8) ((s[0].toNat : Int)).toNat.toUInt8 = z at B
    have HZ := zH hz;clear hz S;rw [R.out];go_enter Tryz.func115, Tryz.ntmps115
    go_wp2_with fail
    refine (Tryz.strings_HasPrefix _ _ _).mono ?_; rintro e w' ⟨rfl, rfl⟩; rw [D1.out, h1.out]
    go_wp2_with fail
    refine (Tryz.strings_HasPrefix _ _ _).mono ?_; rintro e w' ⟨rfl, rfl⟩; rw [D2.out, h2.out]
    go_wp2_with fail
    refine (Tryz.strings_IndexByte _ _ _).mono ?_; rintro e w' ⟨rfl, rfl⟩
    simp only [HZ.out];go_wp2
    go_ret;exact ⟨rfl, rfl⟩
   ·have R : Hid (signN (bt s.data.toList 0) (bt s.data.toList 1) = 1) := zH (by unfold signN; rw [T.out, h3.out]; rfl)
    have B : (0 : Int) <= Lib.indexByte ([123, 125, 40, 41, 91, 93, 60, 62, 44, 58, 46, 61] : List UInt8) ((s[0].toNat : Int)).toNat.toUInt8 := by
     have := S.out; rw [h3.out] at this; simpa using this.symm
    generalize hz : Lib.indexByte ([123, 125, 40, 41, 91, 93, 60, 62, 44, 58, 46, 61] : List UInt8) ((s[0].toNat : Int)).toNat.toUInt8 = z at B
    have HZ := zH hz;clear hz S;rw [R.out];go_enter Tryz.func115, Tryz.ntmps115
    go_wp2_with fail
    refine (Tryz.strings_HasPrefix _ _ _).mono ?_; rintro e w' ⟨rfl, rfl⟩; rw [D1.out, h1.out]
    go_wp2_with fail
    refine (Tryz.strings_HasPrefix _ _ _).mono ?_; rintro e w' ⟨rfl, rfl⟩; rw [D2.out, h2.out]
    go_wp2_with fail
    refine (Tryz.strings_IndexByte _ _ _).mono ?_; rintro e w' ⟨rfl, rfl⟩
    simp only [HZ.out];go_wp2
    go_ret;exact ⟨rfl, rfl⟩
  ·have R : Hid (signN (bt s.data.toList 0) (bt s.data.toList 1) = 2) := zH (by unfold signN; rw [two_parts, h1.out, h2.out]; rfl)
   rw [R.out];go_enter Tryz.func115, Tryz.ntmps115
   go_wp2_with fail
   refine (Tryz.strings_HasPrefix _ _ _).mono ?_; rintro e w' ⟨rfl, rfl⟩; rw [D1.out, h1.out]
   go_wp2_with fail
   refine (Tryz.strings_HasPrefix _ _ _).mono ?_; rintro e w' ⟨rfl, rfl⟩; rw [D2.out, h2.out]
   go_wp2
   go_ret;exact ⟨rfl, rfl⟩
 ·have R : Hid (signN (bt s.data.toList 0) (bt s.data.toList 1) = 2) := zH (by unfold signN; rw [two_parts, h1.out]; rfl)
  rw [R.out];go_enter Tryz.func115, Tryz.ntmps115
  go_wp2_with fail
  refine (Tryz.strings_HasPrefix _ _ _).mono ?_; rintro e w' ⟨rfl, rfl⟩; rw [D1.out, h1.out]
  go_wp2
  go_ret;exact ⟨rfl, rfl⟩
def firstK (m : List UInt8) : Nat := if (item m 0).1 = 5 then 4 else (item m 0).1
def firstN (m : List UInt8) : Nat := if (item m 0).1 = 5 then 0 else (item m 0).2
theorem low_not {n : Int} (h : lowC n = true) : blankC n = false /\ (n = 35) = False := by
 unfold lowC blankC at *
 simp at *; omega
theorem up_not {n : Int} (h : upC n = true) : blankC n = false /\ (n = 35) = False := by
 unfold upC blankC at *
 simp at *; omega
theorem dig_not {n : Int} (h : digC n = true) : blankC n = false /\ (n = 35) = False := by
 unfold digC blankC at *
 simp at *; omega
theorem any_of_low {n : Int} (h : lowC n = true) : anyC n = true := by unfold anyC; rw [h]; rfl
theorem any_of_up {n : Int} (h : upC n = true) : anyC n = true := by unfold anyC; rw [h]; simp
theorem first_low (m : List UInt8) (hl : 0 < m.length) (h : lowC (bt m 0) = true) : firstK m = 1 /\ firstN m = stop anyC m 0 := by
 obtain ⟨a, b⟩ := low_not h
 unfold firstK firstN item
 simp [a, b, h, stop_step anyC m 0 hl (any_of_low h)]
theorem first_up (m : List UInt8) (hl : 0 < m.length) (h1 : lowC (bt m 0) = false) (h : upC (bt m 0) = true) : firstK m = 2 /\ firstN m = stop anyC m 0 := by
 obtain ⟨a, b⟩ := up_not h
 unfold firstK firstN item
 simp [a, b, h, h1, stop_step anyC m 0 hl (any_of_up h)]
theorem first_dig (m : List UInt8) (hl : 0 < m.length) (h1 : lowC (bt m 0) = false) (h2 : upC (bt m 0) = false) (h : digC (bt m 0) = true) : firstK m = 3 /\ firstN m = stop digC m 0 := by
 obtain ⟨a, b⟩ := dig_not h
 unfold firstK firstN item
 simp [a, b, h, h1, h2, stop_step digC m 0 hl h]
theorem first_sign (m : List UInt8) (h0 : (item m 0).1 ≠ 0) (h1 : lowC (bt m 0) = false) (h2 : upC (bt m 0) = false) (h : digC (bt m 0) = false) : firstK m = 4 /\ firstN m = signN (bt m 0) (bt m 1) := by
 unfold firstK firstN signN item at *
 by_cases a : blankC (bt m 0) = true
 ·simp [a] at h0
 by_cases b : bt m 0 = 35
 ·rw [b] at h0; simp [blankC] at h0
 by_cases c : twoC (bt m 0) (bt m 1) = true
 ·simp [a, b, h1, h2, h, c]
 by_cases d : signC (bt m 0) = true
 ·simp [a, b, h1, h2, h, c, d]
 ·simp [a, b, h1, h2, h, c, d]
theorem head_size (s : ByteArray) (h : 0 < s.size) : (s.extract 0 1).size = 1 := piece_size s 0 h
theorem head_bt (s : ByteArray) : bt (s.extract 0 1).data.toList 0 = bt s.data.toList 0 := piece_bt s 0
theorem first_any (s : ByteArray) (w : World) (hs : s.size <= 9223372036854775806) (h : 0 < s.size) (h0 : (item s.data.toList 0).1 ≠ 0) :
  Calls Tryz.prog 68 #[.string s] w fun e w' => e = .returned (.tuple #[.int .i64 (firstK s.data.toList : Nat), .int .i64 (firstN s.data.toList : Nat)]) /\ w = w' := by
 have HS := zH (head_size s h)
 have HB := zH (head_bt s)
 have hl : 0 < s.data.toList.length := by rw [len_size]; exact h
 have H0 := zH h0
 clear h0
 have h' : 1 <= s.size := h
 rcases hid_or (lowC (bt s.data.toList 0)) with h1 | h1
 ·rcases hid_or (upC (bt s.data.toList 0)) with h2 | h2
  ·rcases hid_or (digC (bt s.data.toList 0)) with h3 | h3
   ·have R := zH (first_sign _ H0.out h1.out h2.out h3.out)
    rw [R.out.1, R.out.2];clear hl;go_enter Tryz.func68, Tryz.ntmps68
    go_wp2_with fail
    refine (lower1 _ false _ HS.out (by rw [HB.out]; exact h1.out)).mono ?_; rintro e w' ⟨rfl, rfl⟩
    go_wp2_with fail
    refine (upper1 _ false _ HS.out (by rw [HB.out]; exact h2.out)).mono ?_; rintro e w' ⟨rfl, rfl⟩
    go_wp2_with fail
    refine (digit1 _ false _ HS.out (by rw [HB.out]; exact h3.out)).mono ?_; rintro e w' ⟨rfl, rfl⟩
    go_wp2_with fail
    refine (sign_any _ _ h).mono ?_; rintro e w' ⟨rfl, rfl⟩
    go_wp2
    go_ret2
    exact ⟨rfl, rfl⟩
   ·have R := zH (first_dig _ hl h1.out h2.out h3.out)
    rw [R.out.1, R.out.2];clear hl;go_enter Tryz.func68, Tryz.ntmps68
    go_wp2_with fail
    refine (lower1 _ false _ HS.out (by rw [HB.out]; exact h1.out)).mono ?_; rintro e w' ⟨rfl, rfl⟩
    go_wp2_with fail
    refine (upper1 _ false _ HS.out (by rw [HB.out]; exact h2.out)).mono ?_; rintro e w' ⟨rfl, rfl⟩
    go_wp2_with fail
    refine (digit1 _ true _ HS.out (by rw [HB.out]; exact h3.out)).mono ?_; rintro e w' ⟨rfl, rfl⟩
    go_wp2_with fail
    refine (span_digit _ _ hs).mono ?_; rintro e w' ⟨rfl, rfl⟩
    go_wp2
    go_ret2
    exact ⟨rfl, rfl⟩
  ·have R := zH (first_up _ hl h1.out h2.out)
   rw [R.out.1, R.out.2];clear hl;go_enter Tryz.func68, Tryz.ntmps68
   go_wp2_with fail
   refine (lower1 _ false _ HS.out (by rw [HB.out]; exact h1.out)).mono ?_; rintro e w' ⟨rfl, rfl⟩
   go_wp2_with fail
   refine (upper1 _ true _ HS.out (by rw [HB.out]; exact h2.out)).mono ?_; rintro e w' ⟨rfl, rfl⟩
   go_wp2_with fail
   refine (span_word _ _ hs).mono ?_; rintro e w' ⟨rfl, rfl⟩
   go_wp2
   go_ret2
   exact ⟨rfl, rfl⟩
 ·have R := zH (first_low _ hl h1.out)
  rw [R.out.1, R.out.2];clear hl;go_enter Tryz.func68, Tryz.ntmps68
  go_wp2_with fail
  refine (lower1 _ true _ HS.out (by rw [HB.out]; exact h1.out)).mono ?_; rintro e w' ⟨rfl, rfl⟩
  go_wp2_with fail
  refine (span_word _ _ hs).mono ?_; rintro e w' ⟨rfl, rfl⟩
  go_wp2
  go_ret2
  exact ⟨rfl, rfl⟩
def Passed (s : ByteArray) (i k : Nat) : Prop := ∀ acc, fin s i acc = fin s k acc
def PassPost (s : ByteArray) (i : Nat) (w : World) (e : Ending) (w' : World) : Prop :=
 ∃ k : Nat, e = .returned (.int .i64 k) /\ w = w' /\ i <= k /\ k <= s.size /\ Passed s i k /\ (k < s.size -> (item s.data.toList k).1 ≠ 0)
theorem item_blank (l : List UInt8) (k : Nat) (x : Int) (e : bt l k = x) (h : x = 32 \/ x = 9 \/ x = 10) : item l k = (0, k + 1) := by
 unfold item blankC
 subst e
 rcases h with h | h | h <;> simp [h]
theorem item_rem (l : List UInt8) (k : Nat) (h : bt l k = 35) : item l k = (0, stop lineC l (k + 1)) := by
 unfold item blankC
 simp [h]
theorem item_rem' (l : List UInt8) (k : Nat) (hk : k < l.length) (h : bt l k = 35) : item l k = (0, stop lineC l k) := by
 rw [item_rem l k h, stop_step lineC l k hk (by rw [h]; rfl)]
theorem item_not (l : List UInt8) (k : Nat) (x : Int) (e : bt l k = x) (h1 : x ≠ 32) (h2 : x ≠ 9) (h3 : x ≠ 10) (h4 : x ≠ 35) : (item l k).1 ≠ 0 := by
 unfold item blankC
 subst e
 simp only [h4]
 (repeat' split) <;> simp_all
theorem lxpass_any (s : ByteArray) (i : Nat) (w : World) (hs : s.size <= 9223372036854775806) (hi : i <= s.size) :
  Calls Tryz.prog 67 #[.string s, .int .i64 i] w (PassPost s i w) := by
 go_enter Tryz.func67, Tryz.ntmps67
 go_wp2
 go_loop [1] (fun i' => ∃ k : Nat, i <= k /\ k <= s.size /\ i' = .int .i64 k /\ Hid (Passed s i k)) (fun i' => s.size - (intOf i').toNat)
 case atStart => exact ⟨i, by omega, by omega, rfl, zH (fun _ => rfl)⟩
 case round =>
  obtain ⟨k, hik, hk, rfl, HP⟩ := hrel;by_cases hlt : k < s.size
  ·have BK := zH (bt_eq s k hlt)
   have sl := stop_le lineC s.data.toList k (by simp; omega);have sg := stop_ge lineC s.data.toList k;have LS := len_size s;by_cases h35 : (s[k].toNat : Int) = 35
   ·have R := zH (item_rem' s.data.toList k (by simpa using hlt) (BK.out.symm.trans h35))
    have g := item_gt s.data.toList k (by rw [R.out]; simp);rw [R.out] at g;have hle : stop lineC s.data.toList k <= s.size := by omega
    have g' : k < stop lineC s.data.toList k := g
    clear sl sg LS g;have a1 : ((s[k].toNat : Int) == 32) = false := by rw [h35]; rfl
    have a2 : ((s[k].toNat : Int) == 9) = false := by rw [h35]; rfl
    have a3 : ((s[k].toNat : Int) == 10) = false := by rw [h35]; rfl
    have a4 : ((s[k].toNat : Int) == 35) = true := by rw [h35]; rfl
    clear h35;go_wp2_with (go_at_call 109; refine (lineEnd_any _ _ _ hs hk).mono ?_; rintro e w' ⟨rfl, rfl⟩)
    go_round
    case rel => exact ⟨stop lineC s.data.toList k, by omega, hle, rfl, zH (fun acc => (HP.out acc).trans (fin_skip acc hlt R.out))⟩
    case measure => simp [intOf]; omega
   ·clear sl sg LS
    by_cases hb : (s[k].toNat : Int) = 32 \/ (s[k].toNat : Int) = 9 \/ (s[k].toNat : Int) = 10
    ·have R := zH (item_blank s.data.toList k _ BK.out.symm hb)
     rcases hb with hb | hb | hb
     ·have a1 : ((s[k].toNat : Int) == 32) = true := by rw [hb]; rfl
      clear hb h35;go_wp2
      go_round
      case rel => exact ⟨k + 1, by omega, by omega, by go_num, zH (fun acc => (HP.out acc).trans (fin_skip acc hlt R.out))⟩
      case measure => simp [intOf]; omega
     ·have a1 : ((s[k].toNat : Int) == 32) = false := by rw [hb]; rfl
      have a2 : ((s[k].toNat : Int) == 9) = true := by rw [hb]; rfl
      clear hb h35;go_wp2
      go_round
      case rel => exact ⟨k + 1, by omega, by omega, by go_num, zH (fun acc => (HP.out acc).trans (fin_skip acc hlt R.out))⟩
      case measure => simp [intOf]; omega
     ·have a1 : ((s[k].toNat : Int) == 32) = false := by rw [hb]; rfl
      have a2 : ((s[k].toNat : Int) == 9) = false := by rw [hb]; rfl
      have a3 : ((s[k].toNat : Int) == 10) = true := by rw [hb]; rfl
      clear hb h35;go_wp2
      go_round
      case rel => exact ⟨k + 1, by omega, by omega, by go_num, zH (fun acc => (HP.out acc).trans (fin_skip acc hlt R.out))⟩
      case measure => simp [intOf]; omega
    ·have n1 : (s[k].toNat : Int) ≠ 32 := fun e => hb (.inl e)
     have n2 : (s[k].toNat : Int) ≠ 9 := fun e => hb (.inr (.inl e))
     have n3 : (s[k].toNat : Int) ≠ 10 := fun e => hb (.inr (.inr e))
     have R := zH (item_not s.data.toList k _ BK.out.symm n1 n2 n3 h35);have a1 : ((s[k].toNat : Int) == 32) = false := by simpa using n1
     have a2 : ((s[k].toNat : Int) == 9) = false := by simpa using n2
     have a3 : ((s[k].toNat : Int) == 10) = false := by simpa using n3
     have a4 : ((s[k].toNat : Int) == 35) = false := by simpa using h35
     clear n1 n2 n3 hb h35;go_wp2
     go_ret;exact ⟨k, rfl, rfl, hik, hk, HP.out, fun _ => R.out⟩
  ·have hk' : s.size <= k := by omega
   go_wp2
   go_ret;exact ⟨k, rfl, rfl, hik, hk, HP.out, fun a => absurd a hlt⟩
end Go.Proofs.YtddlmigofilejaaGreatDoor
