/-
  The walk of the reference's function, over its Type.
-/
import Derived.Test.YtbknmokamcjgpaaGreatDoorJ12
import Derived.LoopTactic
namespace Go.Proofs.YtbknmokamcjgpaaGreatDoor
open Go.RowKit
open Go.Sort
open M

theorem one_hne {S : Toks} {g d i c : Nat} {ss : List Ty} (h : ∀ j, pSubs S (g + 1) d i c ss ≠ .err 99 j) : ∀ j, oneR S g d i c ss.length ≠ .err 99 j := fun j e => h j (by rw [subs_eq, e])
theorem end_hne {S : Toks} {g d i c : Nat} {ss : List Ty} (h : ∀ j, pEnd S (g + 1) d i c ss ≠ .err 99 j) : psB 0 (S.sign i [45, 62]) = 0 → ∀ j, oneR S g d (psI 0 (S.sign i [45, 62]) i) c ss.length ≠ .err 99 j := fun hq j e => h j (by
  rw [end_eq]
  by_cases hs : S.sign i [45, 62] = false
  · rw [hs] at hq; cases hq
  · rw [if_neg hs]
    have : S.sign i [45, 62] = true := by simpa using hs
    rw [this, psI_yes] at e
    rw [e])

/-- One type more: what stands behind. -/
theorem GrR.more {w : World} {r : Nat} {A : Option Addr} {n cn : Nat} {ns : List ByteArray} {n5 : Nat} {A5 : Option Addr} {c5 : Nat} {ss : List Ty} {n6 : Nat} {A6 : Option Addr} {c6 g cap lo : Nat} {wo w1 w3 : World} {o : Obj} {l : List Value} {t : Ty} {C : List (List Value)}
    (h : GrR lo ns n5 ss n6 (.slice A5 n5 c5) (.slice A6 n6 c6) w1) (hlo : lo ≤ wo.heap.size) (hz : wo.heap.size ≤ w1.heap.size) (hwo : ∀ b, (Value.slice A5 n5 c5).ownBlock = some b ∨ (Value.slice A6 n6 c6).ownBlock = some b → b < wo.heap.size)
    (hC1 : C.length = n6) (hC2 : ∀ l, l ∈ C → l.length = 7) (hC4 : ∀ (i : Nat) (l : List Value) (t : Ty), C[i]? = some l → ss[i]? = some t → GrT lo (.slice A5 n5 c5) (.slice A6 n6 c6) w1 l t) (hl : l.length = 7)
    (hT : TyAt (strike (· < wo.heap.size) w1) l t) (hown : w3.ownsRow lo 26 7 (.slice (some ⟨g, 0, none⟩) (n6 + 1) cap) (n6 + 1) (C.flatten ++ l)) (hgrow : (w1.alloc o).grownBy w3 (Value.slice A6 n6 c6).ownBlock)
    (hat : (Value.slice A6 n6 c6).ownBlock = some g ∨ g = (w1.alloc o).heap.size) {B : Nat} (hB : B < lo) (hrB : r ≠ B) (hrlo : r < lo) {u0 u1 u2 u3 u4 u5 u6 : Value} (hbox : w1.heap[B]? = some (.cells #[u0, u1, u2, u3, u4, u5, u6] 26 (0, 0)))
    (hR : ∃ i c b, Rd r A n cn i c b w1) (hK : Kp r w w1) (hw : w.heap.size ≤ B) :
    GrR lo ns n5 (ss ++ [t]) (n6 + 1) (.slice A5 n5 c5) (.slice (some ⟨g, 0, none⟩) (n6 + 1) cap) (w3.setCell ⟨B, 6, none⟩ (.slice (some ⟨g, 0, none⟩) (n6 + 1) cap)) ∧
    (w3.setCell ⟨B, 6, none⟩ (.slice (some ⟨g, 0, none⟩) (n6 + 1) cap)).heap[B]? = some (.cells #[u0, u1, u2, u3, u4, u5, .slice (some ⟨g, 0, none⟩) (n6 + 1) cap] 26 (0, 0)) ∧
    Kp r w (w3.setCell ⟨B, 6, none⟩ (.slice (some ⟨g, 0, none⟩) (n6 + 1) cap)) ∧ (∀ b, b < lo → b ≠ B → (w3.setCell ⟨B, 6, none⟩ (.slice (some ⟨g, 0, none⟩) (n6 + 1) cap)).heap[b]? = w1.heap[b]?) ∧
    w3.cell? ⟨B, 6, none⟩ = some u6 ∧ w3.frozen? ⟨B, 6, none⟩ = false ∧ w1.heap.size ≤ (w3.setCell ⟨B, 6, none⟩ (.slice (some ⟨g, 0, none⟩) (n6 + 1) cap)).heap.size := by
  have hlow : ∀ b, (Value.slice A6 n6 c6).ownBlock = some b → lo ≤ b := fun b e => by
    obtain ⟨C', -, -, h3, -⟩ := h.subs
    exact (h3.lt b e).1
  have hGT : GrT lo (.slice A5 n5 c5) (.slice A6 n6 c6) w1 l t := TyAt.move hT (Nat.le_refl _) fun b hlt hS => ⟨by
    rintro (e | e | e)
    · omega
    · have := hwo b (.inl e); omega
    · have := hwo b (.inr e); omega, rfl⟩
  have R3 := h.addSub hC1 hC2 hC4 hl hGT hown rfl hgrow hat
  have hsz : (w1.alloc o).heap.size = w1.heap.size + 1 := by simp
  have hsz3 := hgrow.size
  have old3 : ∀ b, b < lo → w3.heap[b]? = w1.heap[b]? := fun b hb => by
    rw [hgrow.block b (by omega) (fun e => by have := hlow b e.symm; omega)]
    exact Lib.alloc_old w1 o b (by omega)
  have hb3 := (old3 B hB).trans hbox
  refine ⟨R3.keep (by simp) (fun b hb _ => Below.heap_setCell _ _ _ _ (by show b ≠ B; omega)), ?_, ?_, fun b hb hne => (Below.heap_setCell _ _ _ _ (by show b ≠ B; omega)).trans (old3 b hb), Lib.cell_of_heap hb3 6, Lib.frozen_of_heap hb3 6, by simp; omega⟩
  · have := Joins.block_setCell (i := 6) hb3 (.slice (some ⟨g, 0, none⟩) (n6 + 1) cap); simpa using this
  · refine Kp.putNew ((hK.alloc o).grow hgrow fun b e => ?_) _ hw _
    have := hlow b e; omega

set_option maxRecDepth 100000 in
set_option maxHeartbeats 4000000 in
theorem fn_ok {W : World} {r : Nat} {A : Option Addr} {S : Toks} {cn f : Nat} (hTy : ∀ g, g < f → TypeOk W r A S cn g) : FnOk W r A S cn f := by
  intro d i c w hd hc5 hc h hne
  have hbig := hc.big
  have hr := h.lt
  obtain ⟨W1, hW1⟩ : ∃ W1, W1 = (w.alloc (.cells #[.int .i64 0, .string ⟨#[]⟩, .int .i64 0, .string ⟨#[]⟩, .string ⟨#[]⟩, .slice none 0 0, .slice none 0 0] 26)).alloc (.cells #[.int .i64 7, .string ⟨#[]⟩, .int .i64 0, .string ⟨#[]⟩, .string ⟨#[]⟩, .slice none 0 0, .slice none 0 0] 26) := ⟨_, rfl⟩
  have B1 : Below w.heap.size w W1 := by rw [hW1]; exact below_new (below_new (Below.refl _ _) _) _
  have s1 : W1.heap.size = w.heap.size + 2 := by rw [hW1]; simp
  have X1 : W1.heap[w.heap.size]? = some (.cells #[.int .i64 0, .string ⟨#[]⟩, .int .i64 0, .string ⟨#[]⟩, .string ⟨#[]⟩, .slice none 0 0, .slice none 0 0] 26 (0, 0)) := by rw [hW1, Lib.alloc_old _ _ _ (by simp)]; exact heap_alloc_new w _
  have O1 : W1.heap[w.heap.size + 1]? = some (.cells #[.int .i64 7, .string ⟨#[]⟩, .int .i64 0, .string ⟨#[]⟩, .string ⟨#[]⟩, .slice none 0 0, .slice none 0 0] 26 (0, 0)) := by
    rw [hW1]
    have e : w.heap.size + 1 = (w.alloc (.cells #[.int .i64 0, .string ⟨#[]⟩, .int .i64 0, .string ⟨#[]⟩, .string ⟨#[]⟩, .slice none 0 0, .slice none 0 0] 26)).heap.size := by simp
    rw [e]; exact heap_alloc_new _ _
  have C1 := hc.on (Kp.of_below B1) hr
  have R1 := h.on B1
  have IS := Lib.hid (is0 C1 R1 ⟨#[41]⟩)
  have HX1 := Lib.hid X1
  have HO1 := Lib.hid O1
  have HR1 := Lib.hid R1
  have HB1 := Lib.hid B1
  have HW1 := Lib.hid hW1
  have HC0 := Lib.hid hc
  have HTy := Lib.hid hTy
  have hf : 0 < f := by
    rcases Nat.eq_zero_or_pos f with rfl | hf
    · exfalso
      refine hne 0 ?_
      unfold fnR
      split
      · unfold pEnd; rfl
      · unfold pSubs; rfl
    · exact hf
  clear hc h B1 X1 O1 C1 R1 hW1 hTy
  obtain ⟨F, hF⟩ : ∃ F, F = fnR S f d i c := ⟨_, rfl⟩
  rw [← hF]
  have HF := Lib.hid hF
  have HNE : Hid (∀ j, F ≠ .err 99 j) := Lib.hid (fun j => by rw [hF]; exact hne j)
  clear hF hne
  go_enter Tryz.func81, Tryz.ntmps81
  go_wp2_with fail
  rw [← HW1.out]
  refine IS.out.mono ?_; rintro e w2 ⟨rfl, hb2⟩
  obtain ⟨q, hq⟩ : ∃ q, S.sign i (ByteArray.mk #[41]).data.toList = q := ⟨_, rfl⟩
  rw [hq]
  have HQ : Hid (S.sign i [41] = q) := Lib.hid hq
  clear hq
  have hs2 := hb2.size
  have K2 : Kp r w w2 := (Kp.of_below HB1.out).trans (Kp.of_below hb2)
  have R2 := HR1.out.on hb2
  have X2 : w2.heap[w.heap.size]? = _ := (hb2.block _ (by omega)).trans HX1.out
  have O2 : w2.heap[w.heap.size + 1]? = _ := (hb2.block _ (by omega)).trans HO1.out
  have r1 := R2.c1
  have f1 := R2.f 1
  have hr2 : r < w2.heap.size := R2.lt
  have RW0 := GrR.start (w.heap.size + 2) w2
  have I0 : Hid (S.sign i [41] = false → FnI w r A S cn d f F [] 0 none 0 i c 0 f true w2) := Lib.hid (fun hq => ⟨K2, O2, X2, RW0, R2, by rw [HF.out, badR_0]; unfold fnR; rw [if_neg (by rw [hq]; decide), if_pos rfl], Nat.le_refl _, by omega, fun _ => by omega, hc5⟩)
  have I1 : Hid (S.sign i [41] = true → FnI w r A S cn d f F [] 0 none 0 (i + 1) c 0 f false (w2.setCell ⟨r, 1, none⟩ (.int .i64 ((i : Int) + 1)))) := Lib.hid (fun hq => by
    have R3 := R2.at (i + 1)
    have ot : ∀ b, b ≠ r → (w2.setCell ⟨r, 1, none⟩ (.int .i64 ((i : Int) + 1))).heap[b]? = w2.heap[b]? := fun b hb => Below.heap_setCell _ _ _ _ hb
    refine ⟨K2.put 1 _, (ot _ (by omega)).trans O2, (ot _ (by omega)).trans X2, RW0.keep (by simp) (fun b hb _ => ot b (by omega)), by simpa using R3, ?_, Nat.le_refl _, by omega, fun _ => by omega, hc5⟩
    rw [HF.out, badR_0]; unfold fnR; rw [if_pos hq, if_neg (by decide)])
  have hi63 : S.sign i [41] = true → (i : Int) + 1 ≤ 9223372036854775807 := fun hq => by have := sign_lt hq; omega
  have HI63 := Lib.hid hi63
  clear hb2 hs2 K2 R2 X2 O2 RW0 HX1 HO1 HR1 HB1 IS HF s1 HW1 hi63
  go_upto_if 9 with fail
  go_cut [6] (fun s6 wx => ∃ (mb : Bool) (i' : Nat), s6 = .bool mb ∧ FnI w r A S cn d f F [] 0 none 0 i' c 0 f mb wx)
  case first =>
    cases q with
    | false =>
      have I := Lib.hid (I0.out HQ.out)
      clear I0 I1 HI63
      go_wp2_with fail
      go_meet
      exact ⟨true, i, rfl, I.out⟩
    | true =>
      have I := Lib.hid (I1.out HQ.out)
      have h63 := HI63.out HQ.out
      clear I0 I1 HI63
      go_wp2_with fail
      go_meet
      exact ⟨false, i + 1, rfl, I.out⟩
  case rest =>
    obtain ⟨mb, i0, rfl, hI⟩ := hcut
    have HI := Lib.hid hI
    clear hI I0 I1 r1 f1 HI63
    go_wp2_with fail
    go_loopw [6] (fun m wr => ∃ (mb : Bool) (ss : List Ty) (n6 : Nat) (A6 : Option Addr) (c6 i c b g : Nat), m = .bool mb ∧ Hid (FnI w r A S cn d f F ss n6 A6 c6 i c b g mb wr)) (fun _ wr => rdM r S.n wr)
    case atStart => exact ⟨mb, [], 0, none, 0, i0, c, 0, f, rfl, HI⟩
    case round =>
      obtain ⟨mb, ss, n6, A6, c6, i, c, b, g, rfl, HI⟩ := hrel
      obtain ⟨wo, rfl⟩ : ∃ wo : World, wo = wr := ⟨_, rfl⟩
      have R := HI.out.rd
      have r3 := R.c3
      have hr0 := R.lt
      by_cases hgo : mb = true ∧ b = 0
      · obtain ⟨rfl, rfl⟩ := hgo
        simp at r3
        have hfin : F = pSubs S g d i c ss := by have := HI.out.fin; rw [badR_0, if_pos rfl] at this; exact this
        obtain ⟨g', rfl⟩ : ∃ g', g = g' + 1 := by
          cases g with
          | zero => exact absurd (by rw [hfin]; unfold pSubs; rfl) (HNE.out 0)
          | succ g' => exact ⟨g', rfl⟩
        have hfu := HI.out.fuel
        have h20 := HI.out.most rfl
        have hcnt := HI.out.cnt
        have hl6 := HI.out.rows.len6
        have C0 := HC0.out.on HI.out.kp hr
        have ONE : Hid (∀ w', Below wo.heap.size wo w' → Calls Tryz.prog 133 #[.pointer (some ⟨r, 0, none⟩), .int .i64 n6, .int .i64 d] w' (TyOut w' r A S.n cn (badR 0 i (oneR S g' d i c n6)))) := Lib.hid (fun w' hb =>
          one_any (HTy.out g' (by omega)) d i c 0 n6 w' hd (by omega) hcnt (C0.on (Kp.of_below hb) hr0) (R.on hb) (fun _ => by rw [← hl6]; exact one_hne (fun j => by rw [← hfin]; exact HNE.out j)))
        have HFIN := Lib.hid hfin
        have HL6 := Lib.hid hl6
        have HBOX := Lib.hid HI.out.box
        have HRES := Lib.hid HI.out.res
        have HROWS := Lib.hid HI.out.rows
        have HKP := Lib.hid HI.out.kp
        have HRD := Lib.hid R
        have y6 : wo.cell? ⟨w.heap.size + 1, 6, none⟩ = some (.slice A6 n6 c6) := Lib.cell_of_heap HI.out.box 6
        have hB0 : w.heap.size + 1 < wo.heap.size := (Array.getElem?_eq_some_iff.1 HI.out.box).1
        have hlo0 : w.heap.size + 2 ≤ wo.heap.size := by omega
        clear hfin hl6 C0 R HI
        go_wp2_with fail
        clear r3
        refine AnyX.start (fun wx => wx.cell? ⟨w.heap.size + 1, 6, none⟩ = some (.slice A6 n6 c6)) (fun k => k == 11) (by kernel_rfl) ?_
        have hH0 : wo.drew.cell? ⟨w.heap.size + 1, 6, none⟩ = some (.slice A6 n6 c6) := by simpa using y6
        refine AnyX.move (i := 0) (v := ?_) rfl (by kernel_rfl) (by kernel_rfl) (by kernel_rfl) (by kernel_rfl) (fun _ _ _ h => h) (Or.inl ⟨by rfl, ?_⟩) ?_
        rotate_left
        · (intro wS _; go_simp; try with_reducible rfl)
        simp only [List.getElem_toArray, List.getElem_cons_succ, List.getElem_cons_zero]
        simp only [Act.put, List.setIfInBounds_toArray]
        simp only [List.set_cons_zero, List.set_cons_succ]
        refine AnyX.take (i := 1) (v := ?_) rfl (by kernel_rfl) (by kernel_rfl) (by kernel_rfl) (by kernel_rfl) (by kernel_rfl) (fun _ _ _ h => h) hH0 (Or.inl ⟨by rfl, ?_⟩) ?_
        rotate_left
        · (intro wS hS; (try obtain hc := hS); go_simp; try with_reducible rfl)
        simp only [List.getElem_toArray, List.getElem_cons_succ, List.getElem_cons_zero]
        simp only [Act.put, List.setIfInBounds_toArray]
        simp only [List.set_cons_zero, List.set_cons_succ]
        refine AnyX.move (i := 2) (v := ?_) rfl (by kernel_rfl) (by kernel_rfl) (by kernel_rfl) (by kernel_rfl) (fun _ _ _ h => h) (Or.inl ⟨by rfl, ?_⟩) ?_
        rotate_left
        · (intro wS _; go_simp; try with_reducible rfl)
        simp only [List.getElem_toArray, List.getElem_cons_succ, List.getElem_cons_zero]
        simp only [Act.put, List.setIfInBounds_toArray]
        simp only [List.set_cons_zero, List.set_cons_succ]
        refine AnyX.move (i := 3) (v := ?_) rfl (by kernel_rfl) (by kernel_rfl) (by kernel_rfl) (by kernel_rfl) (fun _ _ _ h => h) (Or.inl ⟨by rfl, ?_⟩) ?_
        rotate_left
        · (intro wS _; go_simp; try with_reducible rfl)
        simp only [List.getElem_toArray, List.getElem_cons_succ, List.getElem_cons_zero]
        simp only [Act.put, List.setIfInBounds_toArray]
        simp only [List.set_cons_zero, List.set_cons_succ]
        refine AnyX.take (i := 4) (v := ?_) rfl (by kernel_rfl) (by kernel_rfl) (by kernel_rfl) (by kernel_rfl) (by kernel_rfl) (fun _ _ _ h => h) hH0 (Or.inl ⟨by rfl, ?_⟩) ?_
        rotate_left
        · (intro wS hS; (try obtain hc := hS); go_simp; try with_reducible rfl)
        simp only [List.getElem_toArray, List.getElem_cons_succ, List.getElem_cons_zero]
        simp only [Act.put, List.setIfInBounds_toArray]
        simp only [List.set_cons_zero, List.set_cons_succ]
        refine AnyX.move (i := 5) (v := ?_) rfl (by kernel_rfl) (by kernel_rfl) (by kernel_rfl) (by kernel_rfl) (fun _ _ _ h => h) (Or.inl ⟨by rfl, ?_⟩) ?_
        rotate_left
        · (intro wS _; go_simp; try with_reducible rfl)
        simp only [List.getElem_toArray, List.getElem_cons_succ, List.getElem_cons_zero]
        simp only [Act.put, List.setIfInBounds_toArray]
        simp only [List.set_cons_zero, List.set_cons_succ]
        refine AnyX.move (i := 6) (v := ?_) rfl (by kernel_rfl) (by kernel_rfl) (by kernel_rfl) (by kernel_rfl) (fun _ _ _ h => h) (Or.inl ⟨by rfl, ?_⟩) ?_
        rotate_left
        · (intro wS _; go_simp; try with_reducible rfl)
        simp only [List.getElem_toArray, List.getElem_cons_succ, List.getElem_cons_zero]
        simp only [Act.put, List.setIfInBounds_toArray]
        simp only [List.set_cons_zero, List.set_cons_succ]
        refine AnyX.go 7 (by kernel_rfl) rfl rfl (fun K hK => ?_)
        simp only [List.getElem_toArray, List.getElem_cons_succ, List.getElem_cons_zero]
        go_simp
        refine (ONE.out _ (Below.drew (Below.refl _ _))).mono ?_
        rintro e w1 ⟨l, t, rfl, hT1', hK1', i2, c2, b2, hres, hc2, R1⟩
        have hK1 : Kp r wo w1 := (Kp.of_below (Below.drew (Below.refl _ _))).trans hK1'
        have hT1 : TyAt (strike (· < wo.heap.size) w1) l t := hT1'
        obtain ⟨An, cA, As, cS, rfl, -⟩ := hT1.parts
        have hs1 : wo.heap.size ≤ w1.heap.size := hK1.size
        have O1 := (hK1.blk hB0 (by omega)).trans HBOX.out
        have y61 : w1.cell? ⟨w.heap.size + 1, 6, none⟩ = some (.slice A6 n6 c6) := Lib.cell_of_heap O1 6
        have ROW1 := HROWS.out.keep hs1 (fun b hb hlt => hK1.blk hlt (by omega))
        simp only []
        refine hK.out _ _ (fun hoff _ => y61) ?_
        clear hK
        try simp only [Act.put, List.setIfInBounds_toArray]
        try simp only [List.set_cons_zero, List.set_cons_succ]
        refine AnyX.go 8 (by kernel_rfl) rfl rfl (fun K hK => ?_)
        simp only [List.getElem_toArray, List.getElem_cons_succ, List.getElem_cons_zero]
        go_simp
        refine hK.out _ _ (fun hoff _ => ((below_new (Below.refl _ _) _).cell (p := ⟨w.heap.size + 1, 6, none⟩) (by show w.heap.size + 1 < w1.heap.size; omega)).trans y61) ?_
        clear hK
        try simp only [Act.put, List.setIfInBounds_toArray]
        try simp only [List.set_cons_zero, List.set_cons_succ]
        obtain ⟨C, hC1, hC2, hown6, hC4⟩ := ROW1.subs
        have hlow6 : ∀ b, (Value.slice A6 n6 c6).ownBlock = some b → w.heap.size + 2 ≤ b ∧ b < w1.heap.size := fun b e => hown6.lt b e
        have hlow6' : ∀ b, (Value.slice A6 n6 c6).ownBlock = some b → b < wo.heap.size := fun b e => by
          obtain ⟨C', -, -, h3, -⟩ := HROWS.out.subs
          exact (h3.lt b e).2
        obtain ⟨inf, hi1, hy0, hy1, hy2⟩ := info_parts typ_info
        have hMX : n6 + 1 ≤ maxLen := by unfold maxLen; omega
        have hAL : ∀ oo, w.heap.size + 2 ≤ (w1.alloc oo).heap.size := fun oo => by have e1 : (w1.alloc oo).heap.size = w1.heap.size + 1 := (by simp); omega
        refine AnyX.go 9 (by kernel_rfl) rfl rfl (fun K hK => ?_)
        simp only [List.getElem_toArray, List.getElem_cons_succ, List.getElem_cons_zero]
        refine wp_append_lies _ (.tmp 26) (.tmp 33) 24 rfl (w.heap.size + 2) 26 inf _ 7 112 Tryz.underlying24 hi1 hy0 hy1 hy2 (by rfl) (Nat.zero_lt_succ 6) (.slice A6 n6 c6) n6 _ rfl (hown6.alloc _) ⟨w1.heap.size, 0, none⟩ 1 1 [.int .i64 t.kind, .string t.pkg, .int .i64 t.major, .string t.mod, .string t.name, .slice An t.names.length cA, .slice As t.subs.length cS] rfl rfl (fun q u hq => by rw [WideShapes.add_plain, Nat.zero_add, Lib.cell_of_heap (heap_alloc_new w1 _), ← hq, ← List.getElem?_toArray]) (fun u hu => by simp at hu; rcases hu with rfl | rfl | rfl | rfl | rfl | rfl | rfl <;> rfl) Nat.one_pos hMX (by omega) (hAL _) _ rfl ?_
        intro gb cap w3 hown3 hgrow hat hlt3
        have MORE := GrR.more (n := S.n) (cn := cn) ROW1 hlo0 hs1 (fun b e => by
          rcases e with e | e
          · simp [Value.ownBlock] at e
          · exact hlow6' b e) hC1 hC2 hC4 rfl hT1 hown3 hgrow hat (by omega : w.heap.size + 1 < w.heap.size + 2) (by omega) (by omega) O1 ⟨_, _, _, R1⟩ (HKP.out.trans hK1) (by omega)
        obtain ⟨ROW4, O4, K4, old4, z6, e6, hs4⟩ := MORE
        refine hK.out _ _ (fun hoff _ => z6) ?_
        clear hK
        try simp only [Act.put, List.setIfInBounds_toArray]
        try simp only [List.set_cons_zero, List.set_cons_succ]
        refine AnyX.move (i := 10) (v := ?_) rfl (by kernel_rfl) (by kernel_rfl) (by kernel_rfl) (by kernel_rfl) (fun _ _ _ h => h) (Or.inl ⟨by rfl, ?_⟩) ?_
        rotate_left
        · (intro wS _; go_simp; try with_reducible rfl)
        simp only [List.getElem_toArray, List.getElem_cons_succ, List.getElem_cons_zero]
        simp only [Act.put, List.setIfInBounds_toArray]
        simp only [List.set_cons_zero, List.set_cons_succ]
        refine AnyX.go 11 (by kernel_rfl) rfl rfl (fun K hK => ?_)
        simp only [List.getElem_toArray, List.getElem_cons_succ, List.getElem_cons_zero]
        go_simp
        refine hK.out _ _ (fun hoff _ => absurd hoff (by decide)) ?_
        clear hK
        try simp only [Act.put, List.setIfInBounds_toArray]
        try simp only [List.set_cons_zero, List.set_cons_succ]
        refine AnyX.done (by kernel_rfl) ?_ _
        obtain ⟨w4, hw4⟩ : ∃ w4, w4 = w3.setCell ⟨w.heap.size + 1, 6, none⟩ (.slice (some ⟨gb, 0, none⟩) (n6 + 1) cap) := ⟨_, rfl⟩
        rw [← hw4] at ROW4 O4 K4 old4 hs4 ⊢
        have R4 : Rd r A S.n cn i2 c2 b2 w4 := R1.other (old4 r (by omega) (by omega))
        have X4 : w4.heap[w.heap.size]? = _ := (old4 _ (by omega) (by omega)).trans ((hK1.blk (by omega) (by omega)).trans HRES.out)
        have C4 := HC0.out.on K4 hr
        have hres' : oneR S g' d i c ss.length = badR b2 i2 (.ok t i2 c2) := by rw [HL6.out]; exact hres
        have IS4 := Lib.hid (is_any C4 R4 ⟨#[41]⟩)
        have hm2 : b2 = 0 → i < i2 ∧ i < S.n := fun hb => by
          subst hb
          exact (one_ok hres').2
        have hlim : b2 = 0 → n6 + 1 ≤ 20 := fun hb => by
          subst hb
          have := (one_ok hres').1
          rw [HL6.out] at this; omega
        have HM2 := Lib.hid hm2
        have HLIM := Lib.hid hlim
        have HRES' := Lib.hid hres'
        have HROW4 := Lib.hid ROW4
        have HO4 := Lib.hid O4
        have HK4 := Lib.hid K4
        have HR4 := Lib.hid R4
        have HX4 := Lib.hid X4
        have HC4 := Lib.hid C4
        have hr4 : r < w4.heap.size := R4.lt
        have hlo4 : w.heap.size + 2 ≤ w4.heap.size := by omega
        have hg'f : g' ≤ f := by omega
        clear hw4 ROW4 O4 K4 old4 hs4 R4 X4 C4 hres' hm2 hlim hres R1 hT1 hK1 hT1' hK1' O1 y61 ROW1 hC1 hC2 hC4 hown6 hown3 hgrow hat hlt3 z6 e6 y6 ONE HRES HROWS HKP HBOX hH0 hlow6 hlow6' hAL hMX hi1 hy0 hy1 hy2
        go_wp2_with fail
        refine IS4.out.mono ?_; rintro e w5 ⟨rfl, hb5⟩
        obtain ⟨q2, hq2⟩ : ∃ q2, (decide (b2 = 0) && S.sign i2 (ByteArray.mk #[41]).data.toList) = q2 := ⟨_, rfl⟩
        rw [hq2]
        have HQ2 : Hid ((decide (b2 = 0) && S.sign i2 [41]) = q2) := Lib.hid hq2
        clear hq2 IS4
        have hs5 := hb5.size
        have R5 := HR4.out.on hb5
        have ROW5 := HROW4.out.keep hs5 (fun b _ hlt => hb5.block b hlt)
        have O5 := (hb5.block (w.heap.size + 1) (by omega)).trans HO4.out
        have X5 := (hb5.block w.heap.size (by omega)).trans HX4.out
        have K5 := HK4.out.trans (Kp.of_below hb5)
        cases q2 with
        | true =>
          obtain ⟨hb20, hF2⟩ := subs_last HRES'.out HQ2.out
          subst hb20
          have hsg : S.sign i2 [41] = true := by have := HQ2.out; simpa using this
          have hi2 := sign_lt hsg
          have h63 : (i2 : Int) + 1 ≤ 9223372036854775807 := by omega
          have r1 := R5.c1
          have f1 := R5.f 1
          have hhm := HM2.out rfl
          have hll := HLIM.out rfl
          have m1 := R5.at (i2 + 1)
          have INV : Hid (FnI w r A S cn d f F (ss ++ [t]) (n6 + 1) (some ⟨gb, 0, none⟩) cap (i2 + 1) c2 0 g' false (w5.setCell ⟨r, 1, none⟩ (.int .i64 ((i2 : Int) + 1)))) := Lib.hid (by
            have ot : ∀ b, b ≠ r → (w5.setCell ⟨r, 1, none⟩ (.int .i64 ((i2 : Int) + 1))).heap[b]? = w5.heap[b]? := fun b hb => Below.heap_setCell _ _ _ _ hb
            refine ⟨K5.put 1 _, (ot _ (by omega)).trans O5, (ot _ (by omega)).trans X5, ROW5.keep (by simp) (fun b hb _ => ot b (by omega)), by simpa using m1, ?_, hg'f, by omega, fun _ => hll, hc2⟩
            rw [HFIN.out, hF2, badR_0, if_neg (by decide)])
          have MEAS : Hid (rdM r S.n (w5.setCell ⟨r, 1, none⟩ (.int .i64 ((i2 : Int) + 1))) < rdM r S.n wo) := Lib.hid (by
            have e1 : Rd r A S.n cn (i2 + 1) c2 0 (w5.setCell ⟨r, 1, none⟩ (.int .i64 ((i2 : Int) + 1))) := by simpa using m1
            rw [e1.m, HRD.out.m]
            simp only [if_true]
            omega)
          clear m1 ROW5 O5 X5 K5 R5 hF2 hb5 hs5 HFIN hhm hll hsg hi2
          go_wp2_with fail
          go_roundw
          case rel => exact ⟨false, ss ++ [t], n6 + 1, some ⟨gb, 0, none⟩, cap, i2 + 1, c2, 0, g', rfl, INV⟩
          case measure => exact MEAS.out
        | false =>
          have hF2 := subs_more HRES'.out HQ2.out
          have C5 := HC4.out.on (Kp.of_below hb5) hr4
          have PS := Lib.hid (pass_any C5 R5 ⟨#[44]⟩)
          have HROW5 := Lib.hid ROW5
          have HO5 := Lib.hid O5
          have HX5 := Lib.hid X5
          have HK5 := Lib.hid K5
          have HF2 := Lib.hid (HFIN.out.trans hF2)
          clear ROW5 O5 X5 K5 R5 C5 hF2
          go_wp2_with fail
          refine PS.out.mono ?_; rintro e w6 ⟨rfl, R6, k6⟩
          have hs6 := k6.size
          have hb2z : psB b2 (S.sign i2 [44]) = 0 → b2 = 0 := fun e => by
            by_cases hb : b2 = 0
            · exact hb
            · rw [psB_bad _ hb] at e; exact e
          have INV : Hid (FnI w r A S cn d f F (ss ++ [t]) (n6 + 1) (some ⟨gb, 0, none⟩) cap (psI b2 (S.sign i2 [44]) i2) c2 (psB b2 (S.sign i2 [44])) g' true w6) := Lib.hid
            ⟨HK5.out.trans k6, (k6.blk (by omega) (by omega)).trans HO5.out, (k6.blk (by omega) (by omega)).trans HX5.out, HROW5.out.keep hs6 (fun b hb hlt => k6.blk hlt (by omega)), R6, by rw [if_pos rfl]; exact HF2.out, hg'f, by omega, fun e => HLIM.out (hb2z e), hc2⟩
          have MEAS : Hid (rdM r S.n w6 < rdM r S.n wo) := Lib.hid (by
            have e1 : Rd r A S.n cn (psI b2 (S.sign i2 [44]) i2) c2 (psB b2 (S.sign i2 [44])) w6 := R6
            rw [e1.m, HRD.out.m]
            simp only [if_true]
            split
            · rename_i hz
              have := HM2.out (hb2z hz)
              have hge : i2 ≤ psI b2 (S.sign i2 [44]) i2 := by unfold psI; split <;> omega
              omega
            · omega)
          clear R6 k6 hs6 HF2 HK5 HX5 HO5 HROW5 PS
          go_wp2_with fail
          go_roundw
          case rel => exact ⟨true, ss ++ [t], n6 + 1, some ⟨gb, 0, none⟩, cap, _, c2, _, g', rfl, INV⟩
          case measure => exact MEAS.out
      · obtain ⟨g', hg', hF⟩ : ∃ g', g' < f ∧ F = badR b i (pEnd S (g' + 1) d i c ss) := by
          have hfin := HI.out.fin
          by_cases hb : b = 0
          · subst hb
            have hmb : ¬ mb = true := fun e => hgo ⟨e, rfl⟩
            rw [if_neg hmb] at hfin
            have hfu := HI.out.fuel
            cases g with
            | zero => exact absurd (by rw [hfin, badR_0]; unfold pEnd; rfl) (HNE.out 0)
            | succ g' => exact ⟨g', by omega, hfin⟩
          · exact ⟨0, hf, by rw [hfin, badR_bad hb]⟩
        have hn21 := HI.out.some
        have hcnt := HI.out.cnt
        have hl6 := HI.out.rows.len6
        have C0 := HC0.out.on HI.out.kp hr
        have PS := Lib.hid (pass_any C0 R ⟨#[45, 62]⟩)
        have HF := Lib.hid hF
        have HL6 := Lib.hid hl6
        have HBOX := Lib.hid HI.out.box
        have HRES := Lib.hid HI.out.res
        have HROWS := Lib.hid HI.out.rows
        have HKP := Lib.hid HI.out.kp
        have hlow : w.heap.size + 1 < wo.heap.size := (Array.getElem?_eq_some_iff.1 HI.out.box).1
        have hor : mb = false ∨ (mb = true ∧ (((b : Nat) : Int) == 0) = false) := by
          cases mb with
          | false => exact .inl rfl
          | true =>
            refine .inr ⟨rfl, ?_⟩
            have : b ≠ 0 := fun e => hgo ⟨rfl, e⟩
            simp; omega
        clear hF hl6 C0 R HI hgo
        rcases hor with rfl | ⟨rfl, hb1⟩
        all_goals
          go_upto_region 12 with fail
          clear r3
          go_wp2_with fail
          refine PS.out.mono ?_; rintro e w5 ⟨rfl, R5, k5⟩
          have hs5 := k5.size
          have hr5 : r < w5.heap.size := R5.lt
          have C5 := HC0.out.on (HKP.out.trans k5) hr
          have HK5 := Lib.hid (HKP.out.trans k5)
          have HB5 := Lib.hid ((k5.blk hlow (by omega)).trans HBOX.out)
          have HX5 := Lib.hid ((k5.blk (by omega : w.heap.size < wo.heap.size) (by omega)).trans HRES.out)
          have HROW5 := Lib.hid (HROWS.out.keep hs5 (fun b hb hlt => k5.blk hlt (by omega)))
          have ONE : Hid (∀ w', Below w5.heap.size w5 w' → Calls Tryz.prog 133 #[.pointer (some ⟨r, 0, none⟩), .int .i64 n6, .int .i64 d] w' (TyOut w' r A S.n cn (badR (psB b (S.sign i [45, 62])) (psI b (S.sign i [45, 62]) i) (oneR S g' d (psI b (S.sign i [45, 62]) i) c n6)))) := Lib.hid (fun w' hb =>
            one_any (HTy.out g' hg') d _ c _ n6 w' hd (by omega) hcnt (C5.on (Kp.of_below hb) hr5) (R5.on hb) (fun hz j => by
              by_cases hb0 : b = 0
              · subst hb0
                have hF := HF.out
                rw [badR_0] at hF
                rw [← HL6.out]
                exact end_hne (fun j => by rw [← hF]; exact HNE.out j) hz j
              · rw [psB_bad _ hb0] at hz; exact absurd hz hb0))
          have y6 : w5.cell? ⟨w.heap.size + 1, 6, none⟩ = some (.slice A6 n6 c6) := Lib.cell_of_heap HB5.out 6
          have hB0 : w.heap.size + 1 < w5.heap.size := by omega
          have hlo0 : w.heap.size + 2 ≤ w5.heap.size := by omega
          clear C5 R5 k5 PS HBOX HRES HROWS HKP
          go_wp2_with fail
          refine AnyX.start (fun wx => wx.cell? ⟨w.heap.size + 1, 6, none⟩ = some (.slice A6 n6 c6)) (fun k => k == 11) (by kernel_rfl) ?_
          have hH0 : w5.drew.cell? ⟨w.heap.size + 1, 6, none⟩ = some (.slice A6 n6 c6) := by simpa using y6
          refine AnyX.move (i := 0) (v := ?_) rfl (by kernel_rfl) (by kernel_rfl) (by kernel_rfl) (by kernel_rfl) (fun _ _ _ h => h) (Or.inl ⟨by rfl, ?_⟩) ?_
          rotate_left
          · (intro wS _; go_simp; try with_reducible rfl)
          simp only [List.getElem_toArray, List.getElem_cons_succ, List.getElem_cons_zero]
          simp only [Act.put, List.setIfInBounds_toArray]
          simp only [List.set_cons_zero, List.set_cons_succ]
          refine AnyX.take (i := 1) (v := ?_) rfl (by kernel_rfl) (by kernel_rfl) (by kernel_rfl) (by kernel_rfl) (by kernel_rfl) (fun _ _ _ h => h) hH0 (Or.inl ⟨by rfl, ?_⟩) ?_
          rotate_left
          · (intro wS hS; (try obtain hc := hS); go_simp; try with_reducible rfl)
          simp only [List.getElem_toArray, List.getElem_cons_succ, List.getElem_cons_zero]
          simp only [Act.put, List.setIfInBounds_toArray]
          simp only [List.set_cons_zero, List.set_cons_succ]
          refine AnyX.move (i := 2) (v := ?_) rfl (by kernel_rfl) (by kernel_rfl) (by kernel_rfl) (by kernel_rfl) (fun _ _ _ h => h) (Or.inl ⟨by rfl, ?_⟩) ?_
          rotate_left
          · (intro wS _; go_simp; try with_reducible rfl)
          simp only [List.getElem_toArray, List.getElem_cons_succ, List.getElem_cons_zero]
          simp only [Act.put, List.setIfInBounds_toArray]
          simp only [List.set_cons_zero, List.set_cons_succ]
          refine AnyX.move (i := 3) (v := ?_) rfl (by kernel_rfl) (by kernel_rfl) (by kernel_rfl) (by kernel_rfl) (fun _ _ _ h => h) (Or.inl ⟨by rfl, ?_⟩) ?_
          rotate_left
          · (intro wS _; go_simp; try with_reducible rfl)
          simp only [List.getElem_toArray, List.getElem_cons_succ, List.getElem_cons_zero]
          simp only [Act.put, List.setIfInBounds_toArray]
          simp only [List.set_cons_zero, List.set_cons_succ]
          refine AnyX.take (i := 4) (v := ?_) rfl (by kernel_rfl) (by kernel_rfl) (by kernel_rfl) (by kernel_rfl) (by kernel_rfl) (fun _ _ _ h => h) hH0 (Or.inl ⟨by rfl, ?_⟩) ?_
          rotate_left
          · (intro wS hS; (try obtain hc := hS); go_simp; try with_reducible rfl)
          simp only [List.getElem_toArray, List.getElem_cons_succ, List.getElem_cons_zero]
          simp only [Act.put, List.setIfInBounds_toArray]
          simp only [List.set_cons_zero, List.set_cons_succ]
          refine AnyX.move (i := 5) (v := ?_) rfl (by kernel_rfl) (by kernel_rfl) (by kernel_rfl) (by kernel_rfl) (fun _ _ _ h => h) (Or.inl ⟨by rfl, ?_⟩) ?_
          rotate_left
          · (intro wS _; go_simp; try with_reducible rfl)
          simp only [List.getElem_toArray, List.getElem_cons_succ, List.getElem_cons_zero]
          simp only [Act.put, List.setIfInBounds_toArray]
          simp only [List.set_cons_zero, List.set_cons_succ]
          refine AnyX.move (i := 6) (v := ?_) rfl (by kernel_rfl) (by kernel_rfl) (by kernel_rfl) (by kernel_rfl) (fun _ _ _ h => h) (Or.inl ⟨by rfl, ?_⟩) ?_
          rotate_left
          · (intro wS _; go_simp; try with_reducible rfl)
          simp only [List.getElem_toArray, List.getElem_cons_succ, List.getElem_cons_zero]
          simp only [Act.put, List.setIfInBounds_toArray]
          simp only [List.set_cons_zero, List.set_cons_succ]
          refine AnyX.go 7 (by kernel_rfl) rfl rfl (fun K hK => ?_)
          simp only [List.getElem_toArray, List.getElem_cons_succ, List.getElem_cons_zero]
          go_simp
          refine (ONE.out _ (Below.drew (Below.refl _ _))).mono ?_
          rintro e w1 ⟨l, t, rfl, hT1', hK1', i2, c2, b2, hres, hc2, R1⟩
          have hK1 : Kp r w5 w1 := (Kp.of_below (Below.drew (Below.refl _ _))).trans hK1'
          have hT1 : TyAt (strike (· < w5.heap.size) w1) l t := hT1'
          obtain ⟨An, cA, As, cS, rfl, -⟩ := hT1.parts
          have hs1 : w5.heap.size ≤ w1.heap.size := hK1.size
          have O1 := (hK1.blk hB0 (by omega)).trans HB5.out
          have y61 : w1.cell? ⟨w.heap.size + 1, 6, none⟩ = some (.slice A6 n6 c6) := Lib.cell_of_heap O1 6
          have ROW1 := HROW5.out.keep hs1 (fun b hb hlt => hK1.blk hlt (by omega))
          simp only []
          refine hK.out _ _ (fun hoff _ => y61) ?_
          clear hK
          try simp only [Act.put, List.setIfInBounds_toArray]
          try simp only [List.set_cons_zero, List.set_cons_succ]
          refine AnyX.go 8 (by kernel_rfl) rfl rfl (fun K hK => ?_)
          simp only [List.getElem_toArray, List.getElem_cons_succ, List.getElem_cons_zero]
          go_simp
          refine hK.out _ _ (fun hoff _ => ((below_new (Below.refl _ _) _).cell (p := ⟨w.heap.size + 1, 6, none⟩) (by show w.heap.size + 1 < w1.heap.size; omega)).trans y61) ?_
          clear hK
          try simp only [Act.put, List.setIfInBounds_toArray]
          try simp only [List.set_cons_zero, List.set_cons_succ]
          obtain ⟨C, hC1, hC2, hown6, hC4⟩ := ROW1.subs
          have hlow6 : ∀ b, (Value.slice A6 n6 c6).ownBlock = some b → w.heap.size + 2 ≤ b ∧ b < w1.heap.size := fun b e => hown6.lt b e
          have hlow6' : ∀ b, (Value.slice A6 n6 c6).ownBlock = some b → b < w5.heap.size := fun b e => by
            obtain ⟨C', -, -, h3, -⟩ := HROW5.out.subs
            exact (h3.lt b e).2
          obtain ⟨inf, hi1, hy0, hy1, hy2⟩ := info_parts typ_info
          have hMX : n6 + 1 ≤ maxLen := by unfold maxLen; omega
          have hAL : ∀ oo, w.heap.size + 2 ≤ (w1.alloc oo).heap.size := fun oo => by have e1 : (w1.alloc oo).heap.size = w1.heap.size + 1 := (by simp); omega
          refine AnyX.go 9 (by kernel_rfl) rfl rfl (fun K hK => ?_)
          simp only [List.getElem_toArray, List.getElem_cons_succ, List.getElem_cons_zero]
          refine wp_append_lies _ (.tmp 50) (.tmp 57) 24 rfl (w.heap.size + 2) 26 inf _ 7 112 Tryz.underlying24 hi1 hy0 hy1 hy2 (by rfl) (Nat.zero_lt_succ 6) (.slice A6 n6 c6) n6 _ rfl (hown6.alloc _) ⟨w1.heap.size, 0, none⟩ 1 1 [.int .i64 t.kind, .string t.pkg, .int .i64 t.major, .string t.mod, .string t.name, .slice An t.names.length cA, .slice As t.subs.length cS] rfl rfl (fun q u hq => by rw [WideShapes.add_plain, Nat.zero_add, Lib.cell_of_heap (heap_alloc_new w1 _), ← hq, ← List.getElem?_toArray]) (fun u hu => by simp at hu; rcases hu with rfl | rfl | rfl | rfl | rfl | rfl | rfl <;> rfl) Nat.one_pos hMX (by omega) (hAL _) _ rfl ?_
          intro gb cap w3 hown3 hgrow hat hlt3
          have MORE := GrR.more (n := S.n) (cn := cn) ROW1 hlo0 hs1 (fun b e => by
            rcases e with e | e
            · simp [Value.ownBlock] at e
            · exact hlow6' b e) hC1 hC2 hC4 rfl hT1 hown3 hgrow hat (by omega : w.heap.size + 1 < w.heap.size + 2) (by omega) (by omega) O1 ⟨_, _, _, R1⟩ (HK5.out.trans hK1) (by omega)
          obtain ⟨ROW4, O4, K4, old4, z6, e6, hs4⟩ := MORE
          refine hK.out _ _ (fun hoff _ => z6) ?_
          clear hK
          try simp only [Act.put, List.setIfInBounds_toArray]
          try simp only [List.set_cons_zero, List.set_cons_succ]
          refine AnyX.move (i := 10) (v := ?_) rfl (by kernel_rfl) (by kernel_rfl) (by kernel_rfl) (by kernel_rfl) (fun _ _ _ h => h) (Or.inl ⟨by rfl, ?_⟩) ?_
          rotate_left
          · (intro wS _; go_simp; try with_reducible rfl)
          simp only [List.getElem_toArray, List.getElem_cons_succ, List.getElem_cons_zero]
          simp only [Act.put, List.setIfInBounds_toArray]
          simp only [List.set_cons_zero, List.set_cons_succ]
          refine AnyX.go 11 (by kernel_rfl) rfl rfl (fun K hK => ?_)
          simp only [List.getElem_toArray, List.getElem_cons_succ, List.getElem_cons_zero]
          go_simp
          refine hK.out _ _ (fun hoff _ => absurd hoff (by decide)) ?_
          clear hK
          try simp only [Act.put, List.setIfInBounds_toArray]
          try simp only [List.set_cons_zero, List.set_cons_succ]
          refine AnyX.done (by kernel_rfl) ?_ _
          obtain ⟨w4, hw4⟩ : ∃ w4, w4 = w3.setCell ⟨w.heap.size + 1, 6, none⟩ (.slice (some ⟨gb, 0, none⟩) (n6 + 1) cap) := ⟨_, rfl⟩
          rw [← hw4] at ROW4 O4 K4 old4 hs4 ⊢
          have R4 : Rd r A S.n cn i2 c2 b2 w4 := R1.other (old4 r (by omega) (by omega))
          have X4 : w4.heap[w.heap.size]? = _ := (old4 _ (by omega) (by omega)).trans ((hK1.blk (by omega) (by omega)).trans HX5.out)
          have FIN : F = badR b2 i2 (.ok (.mk 7 ⟨#[]⟩ 0 ⟨#[]⟩ ⟨#[]⟩ [] (ss ++ [t])) i2 c2) := by
            rw [HF.out]; exact end_res (by rw [HL6.out]; exact hres)
          have DONE := ROW4.done 7 (m := w.heap.size + 1) (by omega) (by omega) (by omega)
          have SEAL := Lib.hid (TyOut.seal (A := A) (n := S.n) (cn := cn) (res := F) (Nat.le_refl _) X4 K4 DONE (Nat.lt_succ_self _) hr ⟨i2, c2, b2, FIN, hc2, R4⟩)
          have x0 := Lib.cell_of_heap O4 0
          have x1 := Lib.cell_of_heap O4 1
          have x2 := Lib.cell_of_heap O4 2
          have x3 := Lib.cell_of_heap O4 3
          have x4 := Lib.cell_of_heap O4 4
          have x5 := Lib.cell_of_heap O4 5
          have x6 := Lib.cell_of_heap O4 6
          simp at x0 x1 x2 x3 x4 x5 x6
          clear hw4 ROW4 O4 K4 old4 hs4 R4 FIN DONE hres R1 hT1 hK1 hT1' hK1' O1 y61 ROW1 hC1 hC2 hC4 hown6 hown3 hgrow hat hlt3 z6 e6 y6 ONE hH0 hlow6 hlow6' hAL hMX hi1 hy0 hy1 hy2 HB5 HROW5 HX5 HK5
          go_wp2_with (first | ((with_reducible refine wpList_putRow 26 (w.heap.size) #[.int .i64 7, .string ⟨#[]⟩, .int .i64 0, .string ⟨#[]⟩, .string ⟨#[]⟩, .slice none 0 0, .slice (some ⟨gb, 0, none⟩) (n6 + 1) cap] _ _ X4 ?_ ?_ ?_ ?_ ?_ ?_); exact tySize; rfl; exact tyOne; (focus (first | (go_simp; done) | rfl)); (focus (first | (go_simp; done) | rfl))))
          exact ret_agg1 (fn := Tryz.f81) (vs := [.int .i64 7, .string ⟨#[]⟩, .int .i64 0, .string ⟨#[]⟩, .string ⟨#[]⟩, .slice none 0 0, .slice (some ⟨gb, 0, none⟩) (n6 + 1) cap]) (b := w.heap.size) rfl rfl Tryz.underlying26 (by kernel_rfl) SEAL.out.1 rfl SEAL.out.2

end Go.Proofs.YtbknmokamcjgpaaGreatDoor
