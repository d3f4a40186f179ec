/-
  The reference's Type, of modules.
-/
import Derived.Test.YtbknmokamcjgpaaGreatDoorJ33
namespace Go.Proofs.YtbknmokamcjgpaaGreatDoor
open Go.RowKit
open Go.Sort
open M

/-- What the reference's At leaves, in a box beside it. -/
def RdC6 (S : Toks) (i : Nat) (wb : World) (s3 s4 s5 s6 : Value) (wx : World) : Prop :=
  Below wb.heap.size wb wx ∧ ∃ g3 : Nat, s3 = .pointer (some ⟨g3, 0, none⟩) ∧ wb.heap.size ≤ g3 ∧
    ((∃ (l : List Value) (t : Ty) (j c : Nat), atR S i = .ok t j c ∧ s4 = .int .i64 j ∧ s5 = .int .i64 0 ∧ wx.heap[g3]? = some (.cells l.toArray 26 (0, 0)) ∧ TyAt (strike (fun b => b < wb.heap.size ∨ b = g3) wx) l t) ∨
     (∃ b j : Nat, atR S i = .err b j ∧ b ≠ 0 ∧ s5 = .int .i64 b ∧ s6 = .int .i64 j))
theorem RdC6.afterOk {S : Toks} {i : Nat} {wb w2 w4 : World} {l : List Value} {t : Ty} {j c g3 : Nat} {s6 : Value} (hb : Below wb.heap.size wb w2) (hg : wb.heap.size ≤ g3) (hok : atR S i = .ok t j c) (hT : TyAt (strike (fun b => b < wb.heap.size ∨ b = g3) w2) l t)
    (hz : w2.heap.size ≤ w4.heap.size) (hrow : w4.heap[g3]? = some (.cells l.toArray 26 (0, 0))) (ho : ∀ b, b < w2.heap.size → b ≠ g3 → w4.heap[b]? = w2.heap[b]?) (h1 : w4.os = w2.os) (h2 : w4.tape = w2.tape) (h3 : w4.output = w2.output) :
    RdC6 S i wb (.pointer (some ⟨g3, 0, none⟩)) (.int .i64 j) (.int .i64 0) s6 w4 :=
  ⟨⟨h1.trans hb.os, h2.trans hb.tape, h3.trans hb.output, Nat.le_trans hb.size hz, fun k hk => (ho k (Nat.lt_of_lt_of_le hk hb.size) (by omega)).trans (hb.block k hk)⟩, g3, rfl, hg, .inl ⟨l, t, j, c, hok, rfl, rfl, hrow, hT.move hz fun b hlt hS => ⟨hS, ho b hlt (fun e => hS (.inr e))⟩⟩⟩
theorem RdC6.afterErr {S : Toks} {i : Nat} {wb w2 w4 : World} {b j g3 : Nat} {s4 : Value} (hb : Below wb.heap.size wb w2) (hg : wb.heap.size ≤ g3) (herr : atR S i = .err b j) (hb0 : b ≠ 0)
    (hz : w2.heap.size ≤ w4.heap.size) (ho : ∀ b, b < w2.heap.size → b ≠ g3 → w4.heap[b]? = w2.heap[b]?) (h1 : w4.os = w2.os) (h2 : w4.tape = w2.tape) (h3 : w4.output = w2.output) :
    RdC6 S i wb (.pointer (some ⟨g3, 0, none⟩)) s4 (.int .i64 b) (.int .i64 j) w4 :=
  ⟨⟨h1.trans hb.os, h2.trans hb.tape, h3.trans hb.output, Nat.le_trans hb.size hz, fun k hk => (ho k (Nat.lt_of_lt_of_le hk hb.size) (by omega)).trans (hb.block k hk)⟩, g3, rfl, hg, .inr ⟨b, j, herr, hb0, rfl, rfl⟩⟩

/-- What Type leaves. -/
def RtyOut (w : World) (r : Nat) (A : Option Addr) (n cn : Nat) (R : Res Ty) (e : Ending) (w' : World) : Prop :=
  ∃ (l : List Value) (t : Ty) (i' b' : Nat), e = .returned (.agg l.toArray) ∧ TyAt (strike (· < w.heap.size) w') l t ∧ Kp r w w' ∧ Rm r A n cn i' b' w' ∧ badR b' i' (.ok t i' 0) = R
theorem Rm.other {r : Nat} {A : Option Addr} {n cn i b : Nat} {w w' : World} (h : Rm r A n cn i b w) (e : w'.heap[r]? = w.heap[r]?) : Rm r A n cn i b w' := e.trans h

set_option maxRecDepth 100000 in
set_option maxHeartbeats 4000000 in
theorem rtyp6_any {W : World} {r : Nat} {A : Option Addr} {S : Toks} {cn i b : Nat} {w : World} (hc : RdCtx W r A S w) (h : Rm r A S.n cn i b w) (hi : b = 0 → i ≤ S.n) :
    Calls Tryz.prog 114 #[.pointer (some ⟨r, 0, none⟩)] w (RtyOut w r A S.n cn (badR b i (cutR (atR S i)))) := by
  have hr := h.lt
  obtain ⟨w0, hw0⟩ : ∃ w0, w0 = w.alloc (.cells #[.int .i64 0, .string ⟨#[]⟩, .int .i64 0, .string ⟨#[]⟩, .string ⟨#[]⟩, .slice none 0 0, .slice none 0 0] 26) := ⟨_, rfl⟩
  have B0 : Below w.heap.size w w0 := by rw [hw0]; exact below_new (Below.refl _ _) _
  have s0 : w0.heap.size = w.heap.size + 1 := by rw [hw0]; simp
  have X0 : Bx w.heap.size w0 := by rw [hw0]; exact heap_alloc_new w _
  have h0 := h.on B0
  have HB0 := Lib.hid B0
  have HX0 := Lib.hid X0
  have HW0 := Lib.hid hw0
  have SS := Lib.hid s0
  have HH0 := Lib.hid h0
  have a0 := h0.c0
  have a1 := h0.c1
  have a2 := h0.c2
  by_cases hb : b = 0
  rotate_left
  · have b2 : (((b : Nat) : Int) != 0) = true := by simp; omega
    have SEAL : Hid (RtyOut w r A S.n cn (badR b i (cutR (atR S i))) (.returned (.agg #[.int .i64 0, .string ⟨#[]⟩, .int .i64 0, .string ⟨#[]⟩, .string ⟨#[]⟩, .slice none 0 0, .slice none 0 0])) (w0.setRow w.heap.size #[.int .i64 0, .string ⟨#[]⟩, .int .i64 0, .string ⟨#[]⟩, .string ⟨#[]⟩, .slice none 0 0, .slice none 0 0])) := Lib.hid
      ⟨[.int .i64 0, .string ⟨#[]⟩, .int .i64 0, .string ⟨#[]⟩, .string ⟨#[]⟩, .slice none 0 0, .slice none 0 0], noT, i, b, rfl, (TyAt.zero _), ⟨B0.os, B0.tape, B0.output, by have := B0.size; simpa using this, fun j hj _ => (setRow_other w0 w.heap.size j _ (by omega)).trans (B0.block j hj)⟩,
        h0.other (setRow_other w0 w.heap.size r _ (by omega)), by rw [badR_ne _ _ hb, badR_ne _ _ hb]⟩
    unfold Bx at X0
    clear h h0 hc hi hw0 B0 s0 hb
    go_enter Tryz.func114, Tryz.ntmps114
    go_upto_region 1 with fail
    rw [← HW0.out]
    go_upto_region 2 with fail
    go_wp2_with (first | ((with_reducible refine wpList_putRow 26 (w.heap.size) #[.int .i64 0, .string ⟨#[]⟩, .int .i64 0, .string ⟨#[]⟩, .string ⟨#[]⟩, .slice none 0 0, .slice none 0 0] _ _ X0 ?_ ?_ ?_ ?_ ?_ ?_); exact tySize; rfl; exact tyOne; (focus (first | (go_simp; done) | rfl)); (focus (first | (go_simp; done) | rfl))))
    exact ret_agg1 (fn := Tryz.f114) (vs := [.int .i64 0, .string ⟨#[]⟩, .int .i64 0, .string ⟨#[]⟩, .string ⟨#[]⟩, .slice none 0 0, .slice none 0 0]) (b := w.heap.size) rfl rfl Tryz.underlying26 (by kernel_rfl) (cell7 (setRow_heap w0 w.heap.size _ _ _ _ HX0.out)) rfl SEAL.out
  subst hb
  simp at a2
  have CA : Hid (∀ wz, Below w.heap.size w wz → Calls Tryz.prog 14 #[.slice A S.n cn, .int .i64 i] wz (RtOut wz S i)) := Lib.hid (fun wz hb => rat_in (cn := cn) (hc.toks.below (hc.below.trans (hb.mono hc.below.size))) hc.big i (hi rfl))
  clear h h0 hc hi hw0 B0 X0 s0
  go_enter Tryz.func114, Tryz.ntmps114
  go_upto_region 1 with fail
  rw [← HW0.out]
  go_upto_region 3 with fail
  go_cut [3, 4, 5, 6] (fun s3 s4 s5 s6 wx => RdC6 S i w0 s3 s4 s5 s6 wx)
  case first =>
    have hH0 : w0.drew.cell? ⟨r, 0, none⟩ = some (.slice A S.n cn) ∧ w0.drew.cell? ⟨r, 1, none⟩ = some (.int .i64 i) := ⟨a0, a1⟩
    have BD : Below w0.heap.size w0 w0.drew := Below.drew (Below.refl _ _)
    clear HX0 HW0 HH0 a0 a1 a2
    refine AnyX.start (fun wx => wx.cell? ⟨r, 0, none⟩ = some (.slice A S.n cn) ∧ wx.cell? ⟨r, 1, none⟩ = some (.int .i64 i)) (fun k => [8, 15].contains k) (by kernel_rfl) ?_
    refine AnyX.move (i := 0) (v := ?_) rfl (by kernel_rfl) (by kernel_rfl) (by kernel_rfl) (by kernel_rfl) (fun _ _ _ h => h) (Or.inl ⟨by rfl, ?_⟩) ?_
    rotate_left
    · (intro wS _; go_simp; try with_reducible rfl)
    simp only [List.getElem_toArray, List.getElem_cons_succ, List.getElem_cons_zero]
    simp only [Act.put, List.setIfInBounds_toArray]
    simp only [List.set_cons_zero, List.set_cons_succ]
    refine AnyX.move (i := 1) (v := ?_) rfl (by kernel_rfl) (by kernel_rfl) (by kernel_rfl) (by kernel_rfl) (fun _ _ _ h => h) (Or.inl ⟨by rfl, ?_⟩) ?_
    rotate_left
    · (intro wS _; go_simp; try with_reducible rfl)
    simp only [List.getElem_toArray, List.getElem_cons_succ, List.getElem_cons_zero]
    simp only [Act.put, List.setIfInBounds_toArray]
    simp only [List.set_cons_zero, List.set_cons_succ]
    refine AnyX.move (i := 2) (v := ?_) rfl (by kernel_rfl) (by kernel_rfl) (by kernel_rfl) (by kernel_rfl) (fun _ _ _ h => h) (Or.inl ⟨by rfl, ?_⟩) ?_
    rotate_left
    · (intro wS _; go_simp; try with_reducible rfl)
    simp only [List.getElem_toArray, List.getElem_cons_succ, List.getElem_cons_zero]
    simp only [Act.put, List.setIfInBounds_toArray]
    simp only [List.set_cons_zero, List.set_cons_succ]
    refine AnyX.take (i := 3) (v := ?_) rfl (by kernel_rfl) (by kernel_rfl) (by kernel_rfl) (by kernel_rfl) (by kernel_rfl) (fun _ _ _ h => h) hH0 (Or.inl ⟨by rfl, ?_⟩) ?_
    rotate_left
    · (intro wS hS; (try obtain ⟨hS0, hS1⟩ := hS); go_simp; try with_reducible rfl)
    simp only [List.getElem_toArray, List.getElem_cons_succ, List.getElem_cons_zero]
    simp only [Act.put, List.setIfInBounds_toArray]
    simp only [List.set_cons_zero, List.set_cons_succ]
    refine AnyX.move (i := 4) (v := ?_) rfl (by kernel_rfl) (by kernel_rfl) (by kernel_rfl) (by kernel_rfl) (fun _ _ _ h => h) (Or.inl ⟨by rfl, ?_⟩) ?_
    rotate_left
    · (intro wS _; go_simp; try with_reducible rfl)
    simp only [List.getElem_toArray, List.getElem_cons_succ, List.getElem_cons_zero]
    simp only [Act.put, List.setIfInBounds_toArray]
    simp only [List.set_cons_zero, List.set_cons_succ]
    refine AnyX.move (i := 5) (v := ?_) rfl (by kernel_rfl) (by kernel_rfl) (by kernel_rfl) (by kernel_rfl) (fun _ _ _ h => h) (Or.inl ⟨by rfl, ?_⟩) ?_
    rotate_left
    · (intro wS _; go_simp; try with_reducible rfl)
    simp only [List.getElem_toArray, List.getElem_cons_succ, List.getElem_cons_zero]
    simp only [Act.put, List.setIfInBounds_toArray]
    simp only [List.set_cons_zero, List.set_cons_succ]
    refine AnyX.move (i := 6) (v := ?_) rfl (by kernel_rfl) (by kernel_rfl) (by kernel_rfl) (by kernel_rfl) (fun _ _ _ h => h) (Or.inl ⟨by rfl, ?_⟩) ?_
    rotate_left
    · (intro wS _; go_simp; try with_reducible rfl)
    simp only [List.getElem_toArray, List.getElem_cons_succ, List.getElem_cons_zero]
    simp only [Act.put, List.setIfInBounds_toArray]
    simp only [List.set_cons_zero, List.set_cons_succ]
    refine AnyX.take (i := 7) (v := ?_) rfl (by kernel_rfl) (by kernel_rfl) (by kernel_rfl) (by kernel_rfl) (by kernel_rfl) (fun _ _ _ h => h) hH0 (Or.inl ⟨by rfl, ?_⟩) ?_
    rotate_left
    · (intro wS hS; (try obtain ⟨hS0, hS1⟩ := hS); go_simp; try with_reducible rfl)
    simp only [List.getElem_toArray, List.getElem_cons_succ, List.getElem_cons_zero]
    simp only [Act.put, List.setIfInBounds_toArray]
    simp only [List.set_cons_zero, List.set_cons_succ]
    refine AnyX.go2 8 14 (by kernel_rfl) rfl rfl rfl rfl (fun K hK => ?_) (fun K hK => ?_)
    · simp only [List.getElem_toArray, List.getElem_cons_succ, List.getElem_cons_zero]
      go_simp
      refine (CA.out _ (below_over HB0.out BD)).mono ?_
      rintro e w2 ⟨hb2, ⟨l, t, j, c, hok, rfl, hT⟩ | ⟨b, j, herr, hb0, rfl⟩⟩
      · obtain ⟨An, cA, As, cS, rfl, -⟩ := hT.parts
        have hs2 := hb2.size
        have hsd : w0.drew.heap.size = w0.heap.size := rfl
        simp only []
        refine hK.out _ _ (fun hoff _ => absurd hoff (by decide)) ?_
        clear hK
        try simp only [Act.put, List.setIfInBounds_toArray]
        try simp only [List.set_cons_zero, List.set_cons_succ]
        refine AnyX.move (i := 9) (v := ?_) rfl (by kernel_rfl) (by kernel_rfl) (by kernel_rfl) (by kernel_rfl) (fun _ _ _ h => h) (Or.inl ⟨by rfl, ?_⟩) ?_
        rotate_left
        · (intro wS _; go_simp; try with_reducible rfl)
        simp only [List.getElem_toArray, List.getElem_cons_succ, List.getElem_cons_zero]
        simp only [Act.put, List.setIfInBounds_toArray]
        simp only [List.set_cons_zero, List.set_cons_succ]
        refine AnyX.move (i := 10) (v := ?_) rfl (by kernel_rfl) (by kernel_rfl) (by kernel_rfl) (by kernel_rfl) (fun _ _ _ h => h) (Or.inl ⟨by rfl, ?_⟩) ?_
        rotate_left
        · (intro wS _; go_simp; try with_reducible rfl)
        simp only [List.getElem_toArray, List.getElem_cons_succ, List.getElem_cons_zero]
        simp only [Act.put, List.setIfInBounds_toArray]
        simp only [List.set_cons_zero, List.set_cons_succ]
        refine AnyX.move (i := 11) (v := ?_) rfl (by kernel_rfl) (by kernel_rfl) (by kernel_rfl) (by kernel_rfl) (fun _ _ _ h => h) (Or.inl ⟨by rfl, ?_⟩) ?_
        rotate_left
        · (intro wS _; go_simp; try with_reducible rfl)
        simp only [List.getElem_toArray, List.getElem_cons_succ, List.getElem_cons_zero]
        simp only [Act.put, List.setIfInBounds_toArray]
        simp only [List.set_cons_zero, List.set_cons_succ]
        refine AnyX.move (i := 12) (v := ?_) rfl (by kernel_rfl) (by kernel_rfl) (by kernel_rfl) (by kernel_rfl) (fun _ _ _ h => h) (Or.inl ⟨by rfl, ?_⟩) ?_
        rotate_left
        · (intro wS _; go_simp; try with_reducible rfl)
        simp only [List.getElem_toArray, List.getElem_cons_succ, List.getElem_cons_zero]
        simp only [Act.put, List.setIfInBounds_toArray]
        simp only [List.set_cons_zero, List.set_cons_succ]
        refine AnyX.move (i := 13) (v := ?_) rfl (by kernel_rfl) (by kernel_rfl) (by kernel_rfl) (by kernel_rfl) (fun _ _ _ h => h) (Or.inl ⟨by rfl, ?_⟩) ?_
        rotate_left
        · (intro wS _; go_simp; try with_reducible rfl)
        simp only [List.getElem_toArray, List.getElem_cons_succ, List.getElem_cons_zero]
        simp only [Act.put, List.setIfInBounds_toArray]
        simp only [List.set_cons_zero, List.set_cons_succ]
        refine AnyX.go 14 (by kernel_rfl) rfl rfl (fun K hK => ?_)
        simp only [List.getElem_toArray, List.getElem_cons_succ, List.getElem_cons_zero]
        go_simp
        refine hK.out _ _ (fun _ hS => ⟨cell_alloc hS.1, cell_alloc hS.2⟩) ?_
        clear hK
        try simp only [Act.put, List.setIfInBounds_toArray]
        try simp only [List.set_cons_zero, List.set_cons_succ]
        refine AnyX.go 15 (by kernel_rfl) rfl rfl (fun K hK => ?_)
        simp only [List.getElem_toArray, List.getElem_cons_succ, List.getElem_cons_zero]
        refine wp_store_row 26 (.tmp 3) (.tmp 23) rfl w2.heap.size #[.int .i64 t.kind, .string t.pkg, .int .i64 t.major, .string t.mod, .string t.name, .slice An t.names.length cA, .slice As t.subs.length cS] rfl rfl _ _ (heap_alloc_new w2 _) tySize rfl tyOne ?_
        refine hK.out _ _ (fun hoff _ => absurd hoff (by decide)) ?_
        clear hK
        try simp only [Act.put, List.setIfInBounds_toArray]
        try simp only [List.set_cons_zero, List.set_cons_succ]
        refine AnyX.move (i := 16) (v := ?_) rfl (by kernel_rfl) (by kernel_rfl) (by kernel_rfl) (by kernel_rfl) (fun _ _ _ h => h) (Or.inl ⟨by rfl, ?_⟩) ?_
        rotate_left
        · (intro wS _; go_simp; try with_reducible rfl)
        simp only [List.getElem_toArray, List.getElem_cons_succ, List.getElem_cons_zero]
        simp only [Act.put, List.setIfInBounds_toArray]
        simp only [List.set_cons_zero, List.set_cons_succ]
        refine AnyX.move (i := 17) (v := ?_) rfl (by kernel_rfl) (by kernel_rfl) (by kernel_rfl) (by kernel_rfl) (fun _ _ _ h => h) (Or.inl ⟨by rfl, ?_⟩) ?_
        rotate_left
        · (intro wS _; go_simp; try with_reducible rfl)
        simp only [List.getElem_toArray, List.getElem_cons_succ, List.getElem_cons_zero]
        simp only [Act.put, List.setIfInBounds_toArray]
        simp only [List.set_cons_zero, List.set_cons_succ]
        refine AnyX.move (i := 18) (v := ?_) rfl (by kernel_rfl) (by kernel_rfl) (by kernel_rfl) (by kernel_rfl) (fun _ _ _ h => h) (Or.inl ⟨by rfl, ?_⟩) ?_
        rotate_left
        · (intro wS _; go_simp; try with_reducible rfl)
        simp only [List.getElem_toArray, List.getElem_cons_succ, List.getElem_cons_zero]
        simp only [Act.put, List.setIfInBounds_toArray]
        simp only [List.set_cons_zero, List.set_cons_succ]
        refine AnyX.done (by kernel_rfl) ?_ _
        go_wp2_with fail
        go_meet
        exact RdC6.afterOk (below_over BD hb2) (by omega) hok (hT.move (Nat.le_refl _) fun b hlt hS => ⟨by rintro (e | e); exact hS e; omega, rfl⟩) (by simp) (setRow_heap _ _ _ _ _ _ (heap_alloc_new w2 _)) (fun b hb _ => (setRow_other _ _ _ _ (by omega)).trans (Lib.alloc_old w2 _ b hb)) rfl rfl rfl

      · have hs2 := hb2.size
        have hsd : w0.drew.heap.size = w0.heap.size := rfl
        simp only []
        refine hK.out _ _ (fun hoff _ => absurd hoff (by decide)) ?_
        clear hK
        try simp only [Act.put, List.setIfInBounds_toArray]
        try simp only [List.set_cons_zero, List.set_cons_succ]
        refine AnyX.move (i := 9) (v := ?_) rfl (by kernel_rfl) (by kernel_rfl) (by kernel_rfl) (by kernel_rfl) (fun _ _ _ h => h) (Or.inl ⟨by rfl, ?_⟩) ?_
        rotate_left
        · (intro wS _; go_simp; try with_reducible rfl)
        simp only [List.getElem_toArray, List.getElem_cons_succ, List.getElem_cons_zero]
        simp only [Act.put, List.setIfInBounds_toArray]
        simp only [List.set_cons_zero, List.set_cons_succ]
        refine AnyX.move (i := 10) (v := ?_) rfl (by kernel_rfl) (by kernel_rfl) (by kernel_rfl) (by kernel_rfl) (fun _ _ _ h => h) (Or.inl ⟨by rfl, ?_⟩) ?_
        rotate_left
        · (intro wS _; go_simp; try with_reducible rfl)
        simp only [List.getElem_toArray, List.getElem_cons_succ, List.getElem_cons_zero]
        simp only [Act.put, List.setIfInBounds_toArray]
        simp only [List.set_cons_zero, List.set_cons_succ]
        refine AnyX.move (i := 11) (v := ?_) rfl (by kernel_rfl) (by kernel_rfl) (by kernel_rfl) (by kernel_rfl) (fun _ _ _ h => h) (Or.inl ⟨by rfl, ?_⟩) ?_
        rotate_left
        · (intro wS _; go_simp; try with_reducible rfl)
        simp only [List.getElem_toArray, List.getElem_cons_succ, List.getElem_cons_zero]
        simp only [Act.put, List.setIfInBounds_toArray]
        simp only [List.set_cons_zero, List.set_cons_succ]
        refine AnyX.move (i := 12) (v := ?_) rfl (by kernel_rfl) (by kernel_rfl) (by kernel_rfl) (by kernel_rfl) (fun _ _ _ h => h) (Or.inl ⟨by rfl, ?_⟩) ?_
        rotate_left
        · (intro wS _; go_simp; try with_reducible rfl)
        simp only [List.getElem_toArray, List.getElem_cons_succ, List.getElem_cons_zero]
        simp only [Act.put, List.setIfInBounds_toArray]
        simp only [List.set_cons_zero, List.set_cons_succ]
        refine AnyX.move (i := 13) (v := ?_) rfl (by kernel_rfl) (by kernel_rfl) (by kernel_rfl) (by kernel_rfl) (fun _ _ _ h => h) (Or.inl ⟨by rfl, ?_⟩) ?_
        rotate_left
        · (intro wS _; go_simp; try with_reducible rfl)
        simp only [List.getElem_toArray, List.getElem_cons_succ, List.getElem_cons_zero]
        simp only [Act.put, List.setIfInBounds_toArray]
        simp only [List.set_cons_zero, List.set_cons_succ]
        refine AnyX.go 14 (by kernel_rfl) rfl rfl (fun K hK => ?_)
        simp only [List.getElem_toArray, List.getElem_cons_succ, List.getElem_cons_zero]
        go_simp
        refine hK.out _ _ (fun _ hS => ⟨cell_alloc hS.1, cell_alloc hS.2⟩) ?_
        clear hK
        try simp only [Act.put, List.setIfInBounds_toArray]
        try simp only [List.set_cons_zero, List.set_cons_succ]
        refine AnyX.go 15 (by kernel_rfl) rfl rfl (fun K hK => ?_)
        simp only [List.getElem_toArray, List.getElem_cons_succ, List.getElem_cons_zero]
        refine wp_store_row 26 (.tmp 3) (.tmp 23) rfl w2.heap.size #[.int .i64 0, .string ⟨#[]⟩, .int .i64 0, .string ⟨#[]⟩, .string ⟨#[]⟩, .slice none 0 0, .slice none 0 0] rfl rfl _ _ (heap_alloc_new w2 _) tySize rfl tyOne ?_
        refine hK.out _ _ (fun hoff _ => absurd hoff (by decide)) ?_
        clear hK
        try simp only [Act.put, List.setIfInBounds_toArray]
        try simp only [List.set_cons_zero, List.set_cons_succ]
        refine AnyX.move (i := 16) (v := ?_) rfl (by kernel_rfl) (by kernel_rfl) (by kernel_rfl) (by kernel_rfl) (fun _ _ _ h => h) (Or.inl ⟨by rfl, ?_⟩) ?_
        rotate_left
        · (intro wS _; go_simp; try with_reducible rfl)
        simp only [List.getElem_toArray, List.getElem_cons_succ, List.getElem_cons_zero]
        simp only [Act.put, List.setIfInBounds_toArray]
        simp only [List.set_cons_zero, List.set_cons_succ]
        refine AnyX.move (i := 17) (v := ?_) rfl (by kernel_rfl) (by kernel_rfl) (by kernel_rfl) (by kernel_rfl) (fun _ _ _ h => h) (Or.inl ⟨by rfl, ?_⟩) ?_
        rotate_left
        · (intro wS _; go_simp; try with_reducible rfl)
        simp only [List.getElem_toArray, List.getElem_cons_succ, List.getElem_cons_zero]
        simp only [Act.put, List.setIfInBounds_toArray]
        simp only [List.set_cons_zero, List.set_cons_succ]
        refine AnyX.move (i := 18) (v := ?_) rfl (by kernel_rfl) (by kernel_rfl) (by kernel_rfl) (by kernel_rfl) (fun _ _ _ h => h) (Or.inl ⟨by rfl, ?_⟩) ?_
        rotate_left
        · (intro wS _; go_simp; try with_reducible rfl)
        simp only [List.getElem_toArray, List.getElem_cons_succ, List.getElem_cons_zero]
        simp only [Act.put, List.setIfInBounds_toArray]
        simp only [List.set_cons_zero, List.set_cons_succ]
        refine AnyX.done (by kernel_rfl) ?_ _
        go_wp2_with fail
        go_meet
        exact RdC6.afterErr (below_over BD hb2) (by omega) herr hb0 (by simp) (fun b hb _ => (setRow_other _ _ _ _ (by omega)).trans (Lib.alloc_old w2 _ b hb)) rfl rfl rfl

    · simp only [List.getElem_toArray, List.getElem_cons_succ, List.getElem_cons_zero]
      go_simp
      refine hK.out _ _ (fun _ hS => ⟨cell_alloc hS.1, cell_alloc hS.2⟩) ?_
      clear hK
      try simp only [Act.put, List.setIfInBounds_toArray]
      try simp only [List.set_cons_zero, List.set_cons_succ]
      obtain ⟨wa, hwa⟩ : ∃ wa, wa = (w0.alloc (.cells #[.int .i64 0, .string ⟨#[]⟩, .int .i64 0, .string ⟨#[]⟩, .string ⟨#[]⟩, .slice none 0 0, .slice none 0 0] 26)).drew := ⟨_, rfl⟩
      have Ba : Below w0.heap.size w0 wa := by rw [hwa]; exact Below.drew (below_new (Below.refl _ _) _)
      have Xa : wa.heap[w0.heap.size]? = some (.cells #[.int .i64 0, .string ⟨#[]⟩, .int .i64 0, .string ⟨#[]⟩, .string ⟨#[]⟩, .slice none 0 0, .slice none 0 0] 26 (0, 0)) := by rw [hwa]; exact heap_alloc_new w0 _
      have sa : wa.heap.size = w0.heap.size + 1 := by rw [hwa]; simp
      rw [← hwa]
      clear hwa
      refine AnyX.go 8 (by kernel_rfl) rfl rfl (fun K hK => ?_)
      simp only [List.getElem_toArray, List.getElem_cons_succ, List.getElem_cons_zero]
      go_simp
      refine (CA.out _ (below_over HB0.out Ba)).mono ?_
      rintro e w2 ⟨hb2, ⟨l, t, j, c, hok, rfl, hT⟩ | ⟨b, j, herr, hb0, rfl⟩⟩
      · obtain ⟨An, cA, As, cS, rfl, -⟩ := hT.parts
        have hs2 := hb2.size
        have X2 := (hb2.block _ (by omega)).trans Xa
        simp only []
        refine hK.out _ _ (fun hoff _ => absurd hoff (by decide)) ?_
        clear hK
        try simp only [Act.put, List.setIfInBounds_toArray]
        try simp only [List.set_cons_zero, List.set_cons_succ]
        refine AnyX.move (i := 9) (v := ?_) rfl (by kernel_rfl) (by kernel_rfl) (by kernel_rfl) (by kernel_rfl) (fun _ _ _ h => h) (Or.inl ⟨by rfl, ?_⟩) ?_
        rotate_left
        · (intro wS _; go_simp; try with_reducible rfl)
        simp only [List.getElem_toArray, List.getElem_cons_succ, List.getElem_cons_zero]
        simp only [Act.put, List.setIfInBounds_toArray]
        simp only [List.set_cons_zero, List.set_cons_succ]
        refine AnyX.move (i := 10) (v := ?_) rfl (by kernel_rfl) (by kernel_rfl) (by kernel_rfl) (by kernel_rfl) (fun _ _ _ h => h) (Or.inl ⟨by rfl, ?_⟩) ?_
        rotate_left
        · (intro wS _; go_simp; try with_reducible rfl)
        simp only [List.getElem_toArray, List.getElem_cons_succ, List.getElem_cons_zero]
        simp only [Act.put, List.setIfInBounds_toArray]
        simp only [List.set_cons_zero, List.set_cons_succ]
        refine AnyX.move (i := 11) (v := ?_) rfl (by kernel_rfl) (by kernel_rfl) (by kernel_rfl) (by kernel_rfl) (fun _ _ _ h => h) (Or.inl ⟨by rfl, ?_⟩) ?_
        rotate_left
        · (intro wS _; go_simp; try with_reducible rfl)
        simp only [List.getElem_toArray, List.getElem_cons_succ, List.getElem_cons_zero]
        simp only [Act.put, List.setIfInBounds_toArray]
        simp only [List.set_cons_zero, List.set_cons_succ]
        refine AnyX.move (i := 12) (v := ?_) rfl (by kernel_rfl) (by kernel_rfl) (by kernel_rfl) (by kernel_rfl) (fun _ _ _ h => h) (Or.inl ⟨by rfl, ?_⟩) ?_
        rotate_left
        · (intro wS _; go_simp; try with_reducible rfl)
        simp only [List.getElem_toArray, List.getElem_cons_succ, List.getElem_cons_zero]
        simp only [Act.put, List.setIfInBounds_toArray]
        simp only [List.set_cons_zero, List.set_cons_succ]
        refine AnyX.move (i := 13) (v := ?_) rfl (by kernel_rfl) (by kernel_rfl) (by kernel_rfl) (by kernel_rfl) (fun _ _ _ h => h) (Or.inl ⟨by rfl, ?_⟩) ?_
        rotate_left
        · (intro wS _; go_simp; try with_reducible rfl)
        simp only [List.getElem_toArray, List.getElem_cons_succ, List.getElem_cons_zero]
        simp only [Act.put, List.setIfInBounds_toArray]
        simp only [List.set_cons_zero, List.set_cons_succ]
        refine AnyX.go 15 (by kernel_rfl) rfl rfl (fun K hK => ?_)
        simp only [List.getElem_toArray, List.getElem_cons_succ, List.getElem_cons_zero]
        refine wp_store_row 26 (.tmp 3) (.tmp 23) rfl w0.heap.size #[.int .i64 t.kind, .string t.pkg, .int .i64 t.major, .string t.mod, .string t.name, .slice An t.names.length cA, .slice As t.subs.length cS] rfl rfl _ _ X2 tySize rfl tyOne ?_
        refine hK.out _ _ (fun hoff _ => absurd hoff (by decide)) ?_
        clear hK
        try simp only [Act.put, List.setIfInBounds_toArray]
        try simp only [List.set_cons_zero, List.set_cons_succ]
        refine AnyX.move (i := 16) (v := ?_) rfl (by kernel_rfl) (by kernel_rfl) (by kernel_rfl) (by kernel_rfl) (fun _ _ _ h => h) (Or.inl ⟨by rfl, ?_⟩) ?_
        rotate_left
        · (intro wS _; go_simp; try with_reducible rfl)
        simp only [List.getElem_toArray, List.getElem_cons_succ, List.getElem_cons_zero]
        simp only [Act.put, List.setIfInBounds_toArray]
        simp only [List.set_cons_zero, List.set_cons_succ]
        refine AnyX.move (i := 17) (v := ?_) rfl (by kernel_rfl) (by kernel_rfl) (by kernel_rfl) (by kernel_rfl) (fun _ _ _ h => h) (Or.inl ⟨by rfl, ?_⟩) ?_
        rotate_left
        · (intro wS _; go_simp; try with_reducible rfl)
        simp only [List.getElem_toArray, List.getElem_cons_succ, List.getElem_cons_zero]
        simp only [Act.put, List.setIfInBounds_toArray]
        simp only [List.set_cons_zero, List.set_cons_succ]
        refine AnyX.move (i := 18) (v := ?_) rfl (by kernel_rfl) (by kernel_rfl) (by kernel_rfl) (by kernel_rfl) (fun _ _ _ h => h) (Or.inl ⟨by rfl, ?_⟩) ?_
        rotate_left
        · (intro wS _; go_simp; try with_reducible rfl)
        simp only [List.getElem_toArray, List.getElem_cons_succ, List.getElem_cons_zero]
        simp only [Act.put, List.setIfInBounds_toArray]
        simp only [List.set_cons_zero, List.set_cons_succ]
        refine AnyX.done (by kernel_rfl) ?_ _
        go_wp2_with fail
        go_meet
        exact RdC6.afterOk (below_over Ba hb2) (Nat.le_refl _) hok (hT.move (Nat.le_refl _) fun b hlt hS => ⟨by rintro (e | e) <;> omega, rfl⟩) (by simp) (setRow_heap _ _ _ _ _ _ X2) (fun b hb hne => setRow_other _ _ _ _ hne) rfl rfl rfl

      · have hs2 := hb2.size
        have X2 := (hb2.block _ (by omega)).trans Xa
        simp only []
        refine hK.out _ _ (fun hoff _ => absurd hoff (by decide)) ?_
        clear hK
        try simp only [Act.put, List.setIfInBounds_toArray]
        try simp only [List.set_cons_zero, List.set_cons_succ]
        refine AnyX.move (i := 9) (v := ?_) rfl (by kernel_rfl) (by kernel_rfl) (by kernel_rfl) (by kernel_rfl) (fun _ _ _ h => h) (Or.inl ⟨by rfl, ?_⟩) ?_
        rotate_left
        · (intro wS _; go_simp; try with_reducible rfl)
        simp only [List.getElem_toArray, List.getElem_cons_succ, List.getElem_cons_zero]
        simp only [Act.put, List.setIfInBounds_toArray]
        simp only [List.set_cons_zero, List.set_cons_succ]
        refine AnyX.move (i := 10) (v := ?_) rfl (by kernel_rfl) (by kernel_rfl) (by kernel_rfl) (by kernel_rfl) (fun _ _ _ h => h) (Or.inl ⟨by rfl, ?_⟩) ?_
        rotate_left
        · (intro wS _; go_simp; try with_reducible rfl)
        simp only [List.getElem_toArray, List.getElem_cons_succ, List.getElem_cons_zero]
        simp only [Act.put, List.setIfInBounds_toArray]
        simp only [List.set_cons_zero, List.set_cons_succ]
        refine AnyX.move (i := 11) (v := ?_) rfl (by kernel_rfl) (by kernel_rfl) (by kernel_rfl) (by kernel_rfl) (fun _ _ _ h => h) (Or.inl ⟨by rfl, ?_⟩) ?_
        rotate_left
        · (intro wS _; go_simp; try with_reducible rfl)
        simp only [List.getElem_toArray, List.getElem_cons_succ, List.getElem_cons_zero]
        simp only [Act.put, List.setIfInBounds_toArray]
        simp only [List.set_cons_zero, List.set_cons_succ]
        refine AnyX.move (i := 12) (v := ?_) rfl (by kernel_rfl) (by kernel_rfl) (by kernel_rfl) (by kernel_rfl) (fun _ _ _ h => h) (Or.inl ⟨by rfl, ?_⟩) ?_
        rotate_left
        · (intro wS _; go_simp; try with_reducible rfl)
        simp only [List.getElem_toArray, List.getElem_cons_succ, List.getElem_cons_zero]
        simp only [Act.put, List.setIfInBounds_toArray]
        simp only [List.set_cons_zero, List.set_cons_succ]
        refine AnyX.move (i := 13) (v := ?_) rfl (by kernel_rfl) (by kernel_rfl) (by kernel_rfl) (by kernel_rfl) (fun _ _ _ h => h) (Or.inl ⟨by rfl, ?_⟩) ?_
        rotate_left
        · (intro wS _; go_simp; try with_reducible rfl)
        simp only [List.getElem_toArray, List.getElem_cons_succ, List.getElem_cons_zero]
        simp only [Act.put, List.setIfInBounds_toArray]
        simp only [List.set_cons_zero, List.set_cons_succ]
        refine AnyX.go 15 (by kernel_rfl) rfl rfl (fun K hK => ?_)
        simp only [List.getElem_toArray, List.getElem_cons_succ, List.getElem_cons_zero]
        refine wp_store_row 26 (.tmp 3) (.tmp 23) rfl w0.heap.size #[.int .i64 0, .string ⟨#[]⟩, .int .i64 0, .string ⟨#[]⟩, .string ⟨#[]⟩, .slice none 0 0, .slice none 0 0] rfl rfl _ _ X2 tySize rfl tyOne ?_
        refine hK.out _ _ (fun hoff _ => absurd hoff (by decide)) ?_
        clear hK
        try simp only [Act.put, List.setIfInBounds_toArray]
        try simp only [List.set_cons_zero, List.set_cons_succ]
        refine AnyX.move (i := 16) (v := ?_) rfl (by kernel_rfl) (by kernel_rfl) (by kernel_rfl) (by kernel_rfl) (fun _ _ _ h => h) (Or.inl ⟨by rfl, ?_⟩) ?_
        rotate_left
        · (intro wS _; go_simp; try with_reducible rfl)
        simp only [List.getElem_toArray, List.getElem_cons_succ, List.getElem_cons_zero]
        simp only [Act.put, List.setIfInBounds_toArray]
        simp only [List.set_cons_zero, List.set_cons_succ]
        refine AnyX.move (i := 17) (v := ?_) rfl (by kernel_rfl) (by kernel_rfl) (by kernel_rfl) (by kernel_rfl) (fun _ _ _ h => h) (Or.inl ⟨by rfl, ?_⟩) ?_
        rotate_left
        · (intro wS _; go_simp; try with_reducible rfl)
        simp only [List.getElem_toArray, List.getElem_cons_succ, List.getElem_cons_zero]
        simp only [Act.put, List.setIfInBounds_toArray]
        simp only [List.set_cons_zero, List.set_cons_succ]
        refine AnyX.move (i := 18) (v := ?_) rfl (by kernel_rfl) (by kernel_rfl) (by kernel_rfl) (by kernel_rfl) (fun _ _ _ h => h) (Or.inl ⟨by rfl, ?_⟩) ?_
        rotate_left
        · (intro wS _; go_simp; try with_reducible rfl)
        simp only [List.getElem_toArray, List.getElem_cons_succ, List.getElem_cons_zero]
        simp only [Act.put, List.setIfInBounds_toArray]
        simp only [List.set_cons_zero, List.set_cons_succ]
        refine AnyX.done (by kernel_rfl) ?_ _
        go_wp2_with fail
        go_meet
        exact RdC6.afterErr (below_over Ba hb2) (Nat.le_refl _) herr hb0 (by simp) (fun b hb hne => setRow_other _ _ _ _ hne) rfl rfl rfl

  case rest =>
    obtain ⟨hbc, g3, rfl, hg3, ⟨l, t, j, c, hok, rfl, rfl, hrow, hT⟩ | ⟨b, j, herr, hb0, rfl, rfl⟩⟩ := hcut
    · obtain ⟨An, cA, As, cS, rfl, -⟩ := hT.parts
      have ss := SS.out
      have hsz := hbc.size
      have Gc := HH0.out.on hbc
      have f1 := Gc.f 1
      have m1 := Gc.c1
      have Xc : Bx w.heap.size wc := (hbc.block w.heap.size (by omega)).trans HX0.out
      obtain ⟨w5, hw5⟩ : ∃ w5, w5 = wc.setCell ⟨r, 1, none⟩ (.int .i64 j) := ⟨_, rfl⟩
      have s5 : w5.heap.size = wc.heap.size := by rw [hw5]; simp
      have o5 : ∀ k, k ≠ r → w5.heap[k]? = wc.heap[k]? := fun k hk => by rw [hw5]; exact Below.heap_setCell _ _ _ _ (by show k ≠ r; exact hk)
      have G5 : Rm r A S.n cn j 0 w5 := by rw [hw5]; exact Gc.at j
      have X5 : Bx w.heap.size w5 := (o5 _ (by omega)).trans Xc
      have R5 := (o5 g3 (by omega)).trans hrow
      have K5 : Kp r w w5 := by rw [hw5]; exact (Kp.of_below (below_over HB0.out hbc)).put 1 _
      have SEAL : Hid (RtyOut w r A S.n cn (badR 0 i (cutR (atR S i))) (.returned (.agg #[.int .i64 t.kind, .string t.pkg, .int .i64 t.major, .string t.mod, .string t.name, .slice An t.names.length cA, .slice As t.subs.length cS])) (w5.setRow w.heap.size #[.int .i64 t.kind, .string t.pkg, .int .i64 t.major, .string t.mod, .string t.name, .slice An t.names.length cA, .slice As t.subs.length cS])) := Lib.hid
        ⟨[.int .i64 t.kind, .string t.pkg, .int .i64 t.major, .string t.mod, .string t.name, .slice An t.names.length cA, .slice As t.subs.length cS], t, j, 0, rfl, hT.move (by simp [s5]) fun b hlt hS => ⟨fun e => hS (.inl (by omega)), (setRow_other w5 w.heap.size b _ (fun e => hS (.inl (by omega)))).trans (o5 b (fun e => hS (.inl (by omega))))⟩,
          ⟨K5.os, K5.tape, K5.output, by have := K5.size; simpa using this, fun k hk hne => (setRow_other w5 w.heap.size k _ (by omega)).trans (K5.block k hk hne)⟩,
          G5.other (setRow_other w5 w.heap.size r _ (by omega)), by rw [hok]; rfl⟩
      have x0 := Lib.cell_of_heap R5 0
      have x1 := Lib.cell_of_heap R5 1
      have x2 := Lib.cell_of_heap R5 2
      have x3 := Lib.cell_of_heap R5 3
      have x4 := Lib.cell_of_heap R5 4
      have x5 := Lib.cell_of_heap R5 5
      have x6 := Lib.cell_of_heap R5 6
      simp at x0 x1 x2 x3 x4 x5 x6
      have HX5 := Lib.hid X5
      have HW5 := Lib.hid hw5
      unfold Bx at X5
      clear hbc hrow hT Xc hw5 o5 G5 R5 K5 CA HH0 HX0 a0 a1 a2 Gc
      go_upto_region 9 with fail
      rw [← HW5.out]
      go_wp2_with (first | ((with_reducible refine wpList_putRow 26 (w.heap.size) #[.int .i64 t.kind, .string t.pkg, .int .i64 t.major, .string t.mod, .string t.name, .slice An t.names.length cA, .slice As t.subs.length cS] _ _ X5 ?_ ?_ ?_ ?_ ?_ ?_); exact tySize; rfl; exact tyOne; (focus (first | (go_simp; done) | rfl)); (focus (first | (go_simp; done) | rfl))))
      exact ret_agg1 (fn := Tryz.f114) (vs := [.int .i64 t.kind, .string t.pkg, .int .i64 t.major, .string t.mod, .string t.name, .slice An t.names.length cA, .slice As t.subs.length cS]) (b := w.heap.size) rfl rfl Tryz.underlying26 (by kernel_rfl) (cell7 (setRow_heap w5 w.heap.size _ _ _ _ HX5.out)) rfl SEAL.out
    · have ss := SS.out
      have hsz := hbc.size
      have Gc := HH0.out.on hbc
      have f1 := Gc.f 1
      have f2 := Gc.f 2
      have m1 := Gc.c1
      have m2 := Gc.c2
      simp at m2
      have Xc : Bx w.heap.size wc := (hbc.block w.heap.size (by omega)).trans HX0.out
      obtain ⟨w5, hw5⟩ : ∃ w5, w5 = (wc.setCell ⟨r, 2, none⟩ (.int .i64 b)).setCell ⟨r, 1, none⟩ (.int .i64 j) := ⟨_, rfl⟩
      have s5 : w5.heap.size = wc.heap.size := by rw [hw5]; simp
      have o5 : ∀ k, k ≠ r → w5.heap[k]? = wc.heap[k]? := fun k hk => by rw [hw5, Below.heap_setCell _ _ _ _ (by show k ≠ r; exact hk), Below.heap_setCell _ _ _ _ (by show k ≠ r; exact hk)]
      have G5 : Rm r A S.n cn j b w5 := by rw [hw5]; exact (Gc.bad b).at j
      have X5 : Bx w.heap.size w5 := (o5 _ (by omega)).trans Xc
      have K5 : Kp r w w5 := by rw [hw5]; exact ((Kp.of_below (below_over HB0.out hbc)).put 2 _).put 1 _
      have SEAL : Hid (RtyOut w r A S.n cn (badR 0 i (cutR (atR S i))) (.returned (.agg #[.int .i64 0, .string ⟨#[]⟩, .int .i64 0, .string ⟨#[]⟩, .string ⟨#[]⟩, .slice none 0 0, .slice none 0 0])) (w5.setRow w.heap.size #[.int .i64 0, .string ⟨#[]⟩, .int .i64 0, .string ⟨#[]⟩, .string ⟨#[]⟩, .slice none 0 0, .slice none 0 0])) := Lib.hid
        ⟨[.int .i64 0, .string ⟨#[]⟩, .int .i64 0, .string ⟨#[]⟩, .string ⟨#[]⟩, .slice none 0 0, .slice none 0 0], noT, j, b, rfl, TyAt.zero _,
          ⟨K5.os, K5.tape, K5.output, by have := K5.size; simpa using this, fun k hk hne => (setRow_other w5 w.heap.size k _ (by omega)).trans (K5.block k hk hne)⟩,
          G5.other (setRow_other w5 w.heap.size r _ (by omega)), by rw [badR_ne _ _ hb0, herr]; rfl⟩
      have b2 : (((b : Nat) : Int) != 0) = true := by simp; omega
      have HX5 := Lib.hid X5
      have HW5 := Lib.hid hw5
      unfold Bx at X5
      clear hbc Xc hw5 o5 G5 K5 CA HH0 HX0 a0 a1 a2 Gc herr hb0
      go_upto_region 7 with fail
      rw [← HW5.out]
      go_wp2_with (first | ((with_reducible refine wpList_putRow 26 (w.heap.size) #[.int .i64 0, .string ⟨#[]⟩, .int .i64 0, .string ⟨#[]⟩, .string ⟨#[]⟩, .slice none 0 0, .slice none 0 0] _ _ X5 ?_ ?_ ?_ ?_ ?_ ?_); exact tySize; rfl; exact tyOne; (focus (first | (go_simp; done) | rfl)); (focus (first | (go_simp; done) | rfl))))
      exact ret_agg1 (fn := Tryz.f114) (vs := [.int .i64 0, .string ⟨#[]⟩, .int .i64 0, .string ⟨#[]⟩, .string ⟨#[]⟩, .slice none 0 0, .slice none 0 0]) (b := w.heap.size) rfl rfl Tryz.underlying26 (by kernel_rfl) (cell7 (setRow_heap w5 w.heap.size _ _ _ _ HX5.out)) rfl SEAL.out

end Go.Proofs.YtbknmokamcjgpaaGreatDoor
