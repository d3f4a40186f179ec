/-
  The code's Read: what expr.At reads, from where the cursor stands.
-/
import Derived.Test.YtbknmokamcjgpaaGreatDoorJ28
namespace Go.Proofs.YtbknmokamcjgpaaGreatDoor
open Go.RowKit
open Go.Sort
open M

section
variable {P : Program} {ops : Array Oper} {Q : Exit → Act → World → Prop} {md : Region.Mode} {S : World → Prop} {off : Nat → Bool}
/-- Two may come up now. -/
theorem AnyX.go2 (i j : Nat) {o p : Oper} {k : Nat} {listed : Array Bool} {a : Act} {w : World} (hr : Region.ready md ops listed = [i, j]) (ho : ops[i]? = some o) (hg : o.guard = none) (hp : ops[j]? = some p) (hgp : p.guard = none)
    (h : ∀ K : Act → World → Prop, Hid (∀ a' w', (off i = false → S w → S w') → AnyX P md ops Q S off k (listed.setIfInBounds i true) a' w' → K a' w') → Oper.wp P o a w K Q)
    (h2 : ∀ K : Act → World → Prop, Hid (∀ a' w', (off j = false → S w → S w') → AnyX P md ops Q S off k (listed.setIfInBounds j true) a' w' → K a' w') → Oper.wp P p a w K Q) : AnyX P md ops Q S off (k + 1) listed a w :=
  ⟨fun h0 => (by rw [hr] at h0; cases h0), fun q hq => by
    rw [hr] at hq
    rcases List.mem_cons.1 hq with rfl | hq
    · refine wpOp_step ho fun K hK => ?_
      rw [if_pos (by simp [Region.wanted, hg])]
      exact h K (Lib.hid fun a w hS hW => hK a w ⟨hS, hW⟩)
    · obtain rfl := List.mem_singleton.1 hq
      refine wpOp_step hp fun K hK => ?_
      rw [if_pos (by simp [Region.wanted, hgp])]
      exact h2 K (Lib.hid fun a w hS hW => hK a w ⟨hS, hW⟩)⟩
end

/-- A count that nobody asks for. -/
def cutR {α : Type} : Res α → Res α
  | .ok x i _ => .ok x i 0
  | .err b i => .err b i

theorem cell_alloc {w : World} {o : Obj} {a : Addr} {v : Value} (h : w.cell? a = some v) : (w.alloc o).cell? a = some v := (World.cell?_alloc_lt _ _ _ (World.block_lt_of_cell? w _ h)).trans h
/-- What At leaves, in a box beside it. -/
def RdC (S : Toks) (i : Nat) (wb : World) (s6 s7 s8 : Value) (wx : World) : Prop :=
  Below wb.heap.size wb wx ∧ ∃ g6 : Nat, s6 = .pointer (some ⟨g6, 0, none⟩) ∧ wb.heap.size ≤ g6 ∧
    ((∃ (l : List Value) (t : Ty) (j c : Nat), atR S i = .ok t j c ∧ s7 = .int .i64 j ∧ s8 = .nilIface ∧ wx.heap[g6]? = some (.cells l.toArray 26 (0, 0)) ∧ TyAt (strike (fun b => b < wb.heap.size ∨ b = g6) wx) l t) ∨
     (∃ b j g : Nat, atR S i = .err b j ∧ b ≠ 0 ∧ s7 = .int .i64 0 ∧ s8 = .iface 63 (.pointer (some ⟨g, 0, none⟩)) ∧ SpAt g j b wx))
theorem RdC.afterOk {S : Toks} {i : Nat} {wb w2 w4 : World} {l : List Value} {t : Ty} {j c g6 : Nat} (hb : Below wb.heap.size wb w2) (hg : wb.heap.size ≤ g6) (hok : atR S i = .ok t j c) (hT : TyAt (strike (fun b => b < wb.heap.size ∨ b = g6) w2) l t)
    (hz : w2.heap.size ≤ w4.heap.size) (hrow : w4.heap[g6]? = some (.cells l.toArray 26 (0, 0))) (ho : ∀ b, b < w2.heap.size → b ≠ g6 → w4.heap[b]? = w2.heap[b]?) (h1 : w4.os = w2.os) (h2 : w4.tape = w2.tape) (h3 : w4.output = w2.output) :
    RdC S i wb (.pointer (some ⟨g6, 0, none⟩)) (.int .i64 j) .nilIface w4 :=
  ⟨⟨h1.trans hb.os, h2.trans hb.tape, h3.trans hb.output, Nat.le_trans hb.size hz, fun k hk => (ho k (Nat.lt_of_lt_of_le hk hb.size) (by omega)).trans (hb.block k hk)⟩, g6, rfl, hg, .inl ⟨l, t, j, c, hok, rfl, rfl, hrow, hT.move hz fun b hlt hS => ⟨hS, ho b hlt (fun e => hS (.inr e))⟩⟩⟩
theorem RdC.afterErr {S : Toks} {i : Nat} {wb w2 w4 : World} {b j g g6 : Nat} (hb : Below wb.heap.size wb w2) (hg : wb.heap.size ≤ g6) (herr : atR S i = .err b j) (hb0 : b ≠ 0) (hsp : SpAt g j b w2)
    (hz : w2.heap.size ≤ w4.heap.size) (hgg : g ≠ g6) (ho : ∀ b, b < w2.heap.size → b ≠ g6 → w4.heap[b]? = w2.heap[b]?) (h1 : w4.os = w2.os) (h2 : w4.tape = w2.tape) (h3 : w4.output = w2.output) :
    RdC S i wb (.pointer (some ⟨g6, 0, none⟩)) (.int .i64 0) (.iface 63 (.pointer (some ⟨g, 0, none⟩))) w4 :=
  ⟨⟨h1.trans hb.os, h2.trans hb.tape, h3.trans hb.output, Nat.le_trans hb.size hz, fun k hk => (ho k (Nat.lt_of_lt_of_le hk hb.size) (by omega)).trans (hb.block k hk)⟩, g6, rfl, hg, .inr ⟨b, j, g, herr, hb0, rfl, rfl, (ho g (Array.getElem?_eq_some_iff.1 hsp).1 hgg).trans hsp⟩⟩

/-- What Read leaves. -/
def TrOut (w : World) (q : Nat) (A : Option Addr) (n cn : Nat) (R : Res Ty) (e : Ending) (w' : World) : Prop :=
  ∃ (l : List Value) (t : Ty) (i' b' : Nat), e = .returned (.agg l.toArray) ∧ TyAt (strike (· < w.heap.size) w') l t ∧ Kp q w w' ∧ CSt q A n cn i' b' w' ∧ badR b' i' (.ok t i' 0) = R

set_option maxRecDepth 100000 in
set_option maxHeartbeats 4000000 in
theorem ctype_any {W : World} {q : Nat} {A : Option Addr} {S : Toks} {cn i b : Nat} {w : World} (hc : CdCtx W q A S w) (h : CSt q A S.n cn i b w) (he : CEnv W) (hi : b = 0 → i ≤ S.n) :
    Calls Tryz.prog 151 #[.pointer (some ⟨q, 0, none⟩), .func (.func 13) #[] #[]] w (TrOut w q A S.n cn (badR b i (cutR (atR S i)))) := by
  have hq := h.lt
  obtain ⟨w0, hw0⟩ : ∃ w0, w0 = w.alloc (.cells #[.int .i64 0, .string ⟨#[]⟩, .int .i64 0, .string ⟨#[]⟩, .string ⟨#[]⟩, .slice none 0 0, .slice none 0 0] 26) := ⟨_, rfl⟩
  have B0 : Below w.heap.size w w0 := by rw [hw0]; exact below_new (Below.refl _ _) _
  have s0 : w0.heap.size = w.heap.size + 1 := by rw [hw0]; simp
  obtain ⟨w1, hw1⟩ : ∃ w1, w1 = w0.alloc (.cells #[.int .i64 0, .string ⟨#[]⟩, .int .i64 0, .string ⟨#[]⟩, .string ⟨#[]⟩, .slice none 0 0, .slice none 0 0] 26) := ⟨_, rfl⟩
  have B1 : Below w0.heap.size w0 w1 := by rw [hw1]; exact below_new (Below.refl _ _) _
  have s1 : w1.heap.size = w0.heap.size + 1 := by rw [hw1]; simp
  have X0 : Bx w.heap.size w1 := (B1.block _ (by omega)).trans (by rw [hw0]; exact heap_alloc_new w _)
  have X1 : Bx w0.heap.size w1 := by rw [hw1]; exact heap_alloc_new w0 _
  have B01 := below_over B0 B1
  have h1 := h.below B01
  have HB01 := Lib.hid B01
  have HX0 := Lib.hid X0
  have HX1 := Lib.hid X1
  have HW0 := Lib.hid hw0
  have HW1 := Lib.hid hw1
  have SS := Lib.hid (⟨s0, s1⟩ : w0.heap.size = w.heap.size + 1 ∧ w1.heap.size = w0.heap.size + 1)
  have HH1 := Lib.hid h1
  unfold Bx at X1
  have z0 := Lib.cell_of_heap X1 0
  have z1 := Lib.cell_of_heap X1 1
  have z2 := Lib.cell_of_heap X1 2
  have z3 := Lib.cell_of_heap X1 3
  have z4 := Lib.cell_of_heap X1 4
  have z5 := Lib.cell_of_heap X1 5
  have z6 := Lib.cell_of_heap X1 6
  simp at z0 z1 z2 z3 z4 z5 z6
  have HZ := Lib.hid (⟨z0, z1, z2, z3, z4, z5, z6⟩ : _ ∧ _ ∧ _ ∧ _ ∧ _ ∧ _ ∧ _)
  by_cases hb : b = 0
  rotate_left
  · obtain ⟨x, g, G, -⟩ := h1.bad hb
    have c2 := Lib.cell_of_heap G 2
    simp at c2
    have SEAL : Hid (TrOut w q A S.n cn (badR b i (cutR (atR S i))) (.returned (.agg #[.int .i64 0, .string ⟨#[]⟩, .int .i64 0, .string ⟨#[]⟩, .string ⟨#[]⟩, .slice none 0 0, .slice none 0 0])) (w1.setRow w.heap.size #[.int .i64 0, .string ⟨#[]⟩, .int .i64 0, .string ⟨#[]⟩, .string ⟨#[]⟩, .slice none 0 0, .slice none 0 0])) := Lib.hid
      ⟨[.int .i64 0, .string ⟨#[]⟩, .int .i64 0, .string ⟨#[]⟩, .string ⟨#[]⟩, .slice none 0 0, .slice none 0 0], noT, i, b, rfl, (TyAt.zero _), ⟨B01.os, B01.tape, B01.output, by have := B01.size; simpa using this, fun j hj _ => (setRow_other w1 w.heap.size j _ (by omega)).trans (B01.block j hj)⟩,
        h1.keep (setRow_other w1 w.heap.size q _ (by omega)) (fun g vs fr hg => setRow_other w1 w.heap.size g _ (two_types hg X0 (by decide))), by rw [badR_ne _ _ hb, badR_ne _ _ hb]⟩
    unfold Bx at X0
    clear h h1 hc he hi hw0 hw1 B0 B1 B01 X1 s0 s1 G
    go_enter Tryz.func151, Tryz.ntmps151
    go_upto_region 1 with fail
    rw [← HW0.out]
    go_upto_region 2 with fail
    rw [← HW1.out]
    go_upto_region 3 with fail
    go_wp2_with (first | ((with_reducible refine wpList_putRow 26 (w.heap.size) #[.int .i64 0, .string ⟨#[]⟩, .int .i64 0, .string ⟨#[]⟩, .string ⟨#[]⟩, .slice none 0 0, .slice none 0 0] _ _ X0 ?_ ?_ ?_ ?_ ?_ ?_); exact tySize; rfl; exact tyOne; (focus (first | (go_simp; done) | rfl)); (focus (first | (go_simp; done) | rfl))))
    exact ret_agg1 (fn := Tryz.f151) (vs := [.int .i64 0, .string ⟨#[]⟩, .int .i64 0, .string ⟨#[]⟩, .string ⟨#[]⟩, .slice none 0 0, .slice none 0 0]) (b := w.heap.size) rfl rfl Tryz.underlying26 (by kernel_rfl) (cell7 (setRow_heap w1 w.heap.size _ _ _ _ HX0.out)) rfl SEAL.out
  subst hb
  have G1 := h1.good
  have a0 := Lib.cell_of_heap G1 0
  have a1 := Lib.cell_of_heap G1 1
  have a2 := Lib.cell_of_heap G1 2
  simp at a0 a1 a2
  have CA : Hid (∀ wz, Below w.heap.size w wz → Calls Tryz.prog 13 #[.slice A S.n cn, .int .i64 i] wz (AtOut wz S i)) := Lib.hid (fun wz hb => cat_in (cn := cn) (hc.toks.below (hc.below.trans (hb.mono hc.below.size))) (he.on (hc.below.trans (hb.mono hc.below.size))) hc.big hc.small i (hi rfl))
  have G1' := Lib.hid G1
  clear h h1 hc he hi hw0 hw1 B0 B1 B01 X0 X1 s0 s1 G1
  go_enter Tryz.func151, Tryz.ntmps151
  go_upto_region 1 with fail
  rw [← HW0.out]
  go_upto_region 2 with fail
  rw [← HW1.out]
  go_upto_region 4 with fail
  go_cut [6, 7, 8] (fun s6 s7 s8 wx => RdC S i w1 s6 s7 s8 wx)
  case first =>
    have hH0 : w1.drew.cell? ⟨q, 0, none⟩ = some (.slice A S.n cn) ∧ w1.drew.cell? ⟨q, 1, none⟩ = some (.int .i64 i) := ⟨a0, a1⟩
    have BD : Below w1.heap.size w1 w1.drew := Below.drew (Below.refl _ _)
    clear HX0 HX1 HW0 HW1 HH1 HZ G1' z0 z1 z2 z3 z4 z5 z6 a0 a1 a2
    refine AnyX.start (fun wx => wx.cell? ⟨q, 0, none⟩ = some (.slice A S.n cn) ∧ wx.cell? ⟨q, 1, none⟩ = some (.int .i64 i)) (fun k => [9, 15].contains k) (by kernel_rfl) ?_
    refine AnyX.move (i := 0) (v := ?_) rfl (by kernel_rfl) (by kernel_rfl) (by kernel_rfl) (by kernel_rfl) (fun _ _ _ h => h) (Or.inl ⟨by rfl, ?_⟩) ?_
    rotate_left
    · (intro wS _; go_simp; try with_reducible rfl)
    simp only [List.getElem_toArray, List.getElem_cons_succ, List.getElem_cons_zero]
    simp only [Act.put, List.setIfInBounds_toArray]
    simp only [List.set_cons_zero, List.set_cons_succ]
    refine AnyX.move (i := 1) (v := ?_) rfl (by kernel_rfl) (by kernel_rfl) (by kernel_rfl) (by kernel_rfl) (fun _ _ _ h => h) (Or.inl ⟨by rfl, ?_⟩) ?_
    rotate_left
    · (intro wS _; go_simp; try with_reducible rfl)
    simp only [List.getElem_toArray, List.getElem_cons_succ, List.getElem_cons_zero]
    simp only [Act.put, List.setIfInBounds_toArray]
    simp only [List.set_cons_zero, List.set_cons_succ]
    refine AnyX.move (i := 2) (v := ?_) rfl (by kernel_rfl) (by kernel_rfl) (by kernel_rfl) (by kernel_rfl) (fun _ _ _ h => h) (Or.inl ⟨by rfl, ?_⟩) ?_
    rotate_left
    · (intro wS _; go_simp; try with_reducible rfl)
    simp only [List.getElem_toArray, List.getElem_cons_succ, List.getElem_cons_zero]
    simp only [Act.put, List.setIfInBounds_toArray]
    simp only [List.set_cons_zero, List.set_cons_succ]
    refine AnyX.move (i := 3) (v := ?_) rfl (by kernel_rfl) (by kernel_rfl) (by kernel_rfl) (by kernel_rfl) (fun _ _ _ h => h) (Or.inl ⟨by rfl, ?_⟩) ?_
    rotate_left
    · (intro wS _; go_simp; try with_reducible rfl)
    simp only [List.getElem_toArray, List.getElem_cons_succ, List.getElem_cons_zero]
    simp only [Act.put, List.setIfInBounds_toArray]
    simp only [List.set_cons_zero, List.set_cons_succ]
    refine AnyX.take (i := 4) (v := ?_) rfl (by kernel_rfl) (by kernel_rfl) (by kernel_rfl) (by kernel_rfl) (by kernel_rfl) (fun _ _ _ h => h) hH0 (Or.inl ⟨by rfl, ?_⟩) ?_
    rotate_left
    · (intro wS hS; (try obtain ⟨hS0, hS1⟩ := hS); go_simp; try with_reducible rfl)
    simp only [List.getElem_toArray, List.getElem_cons_succ, List.getElem_cons_zero]
    simp only [Act.put, List.setIfInBounds_toArray]
    simp only [List.set_cons_zero, List.set_cons_succ]
    refine AnyX.move (i := 5) (v := ?_) rfl (by kernel_rfl) (by kernel_rfl) (by kernel_rfl) (by kernel_rfl) (fun _ _ _ h => h) (Or.inl ⟨by rfl, ?_⟩) ?_
    rotate_left
    · (intro wS _; go_simp; try with_reducible rfl)
    simp only [List.getElem_toArray, List.getElem_cons_succ, List.getElem_cons_zero]
    simp only [Act.put, List.setIfInBounds_toArray]
    simp only [List.set_cons_zero, List.set_cons_succ]
    refine AnyX.move (i := 6) (v := ?_) rfl (by kernel_rfl) (by kernel_rfl) (by kernel_rfl) (by kernel_rfl) (fun _ _ _ h => h) (Or.inl ⟨by rfl, ?_⟩) ?_
    rotate_left
    · (intro wS _; go_simp; try with_reducible rfl)
    simp only [List.getElem_toArray, List.getElem_cons_succ, List.getElem_cons_zero]
    simp only [Act.put, List.setIfInBounds_toArray]
    simp only [List.set_cons_zero, List.set_cons_succ]
    refine AnyX.move (i := 7) (v := ?_) rfl (by kernel_rfl) (by kernel_rfl) (by kernel_rfl) (by kernel_rfl) (fun _ _ _ h => h) (Or.inl ⟨by rfl, ?_⟩) ?_
    rotate_left
    · (intro wS _; go_simp; try with_reducible rfl)
    simp only [List.getElem_toArray, List.getElem_cons_succ, List.getElem_cons_zero]
    simp only [Act.put, List.setIfInBounds_toArray]
    simp only [List.set_cons_zero, List.set_cons_succ]
    refine AnyX.take (i := 8) (v := ?_) rfl (by kernel_rfl) (by kernel_rfl) (by kernel_rfl) (by kernel_rfl) (by kernel_rfl) (fun _ _ _ h => h) hH0 (Or.inl ⟨by rfl, ?_⟩) ?_
    rotate_left
    · (intro wS hS; (try obtain ⟨hS0, hS1⟩ := hS); go_simp; try with_reducible rfl)
    simp only [List.getElem_toArray, List.getElem_cons_succ, List.getElem_cons_zero]
    simp only [Act.put, List.setIfInBounds_toArray]
    simp only [List.set_cons_zero, List.set_cons_succ]
    refine AnyX.go2 9 14 (by kernel_rfl) rfl rfl rfl rfl (fun K hK => ?_) (fun K hK => ?_)
    · simp only [List.getElem_toArray, List.getElem_cons_succ, List.getElem_cons_zero]
      go_simp
      refine (CA.out _ (below_over HB01.out BD)).mono ?_
      rintro e w2 ⟨hb2, ⟨l, t, j, c, hok, rfl, hT⟩ | ⟨b, j, g, herr, hb0, rfl, hsp⟩⟩
      · obtain ⟨An, cA, As, cS, rfl, -⟩ := hT.parts
        have hs2 := hb2.size
        have hsd : w1.drew.heap.size = w1.heap.size := rfl
        simp only []
        refine hK.out _ _ (fun hoff _ => absurd hoff (by decide)) ?_
        clear hK
        try simp only [Act.put, List.setIfInBounds_toArray]
        try simp only [List.set_cons_zero, List.set_cons_succ]
        refine AnyX.move (i := 10) (v := ?_) rfl (by kernel_rfl) (by kernel_rfl) (by kernel_rfl) (by kernel_rfl) (fun _ _ _ h => h) (Or.inl ⟨by rfl, ?_⟩) ?_
        rotate_left
        · (intro wS _; go_simp; try with_reducible rfl)
        simp only [List.getElem_toArray, List.getElem_cons_succ, List.getElem_cons_zero]
        simp only [Act.put, List.setIfInBounds_toArray]
        simp only [List.set_cons_zero, List.set_cons_succ]
        refine AnyX.move (i := 11) (v := ?_) rfl (by kernel_rfl) (by kernel_rfl) (by kernel_rfl) (by kernel_rfl) (fun _ _ _ h => h) (Or.inl ⟨by rfl, ?_⟩) ?_
        rotate_left
        · (intro wS _; go_simp; try with_reducible rfl)
        simp only [List.getElem_toArray, List.getElem_cons_succ, List.getElem_cons_zero]
        simp only [Act.put, List.setIfInBounds_toArray]
        simp only [List.set_cons_zero, List.set_cons_succ]
        refine AnyX.move (i := 12) (v := ?_) rfl (by kernel_rfl) (by kernel_rfl) (by kernel_rfl) (by kernel_rfl) (fun _ _ _ h => h) (Or.inl ⟨by rfl, ?_⟩) ?_
        rotate_left
        · (intro wS _; go_simp; try with_reducible rfl)
        simp only [List.getElem_toArray, List.getElem_cons_succ, List.getElem_cons_zero]
        simp only [Act.put, List.setIfInBounds_toArray]
        simp only [List.set_cons_zero, List.set_cons_succ]
        refine AnyX.move (i := 13) (v := ?_) rfl (by kernel_rfl) (by kernel_rfl) (by kernel_rfl) (by kernel_rfl) (fun _ _ _ h => h) (Or.inl ⟨by rfl, ?_⟩) ?_
        rotate_left
        · (intro wS _; go_simp; try with_reducible rfl)
        simp only [List.getElem_toArray, List.getElem_cons_succ, List.getElem_cons_zero]
        simp only [Act.put, List.setIfInBounds_toArray]
        simp only [List.set_cons_zero, List.set_cons_succ]
        refine AnyX.go 14 (by kernel_rfl) rfl rfl (fun K hK => ?_)
        simp only [List.getElem_toArray, List.getElem_cons_succ, List.getElem_cons_zero]
        go_simp
        refine hK.out _ _ (fun _ hS => ⟨cell_alloc hS.1, cell_alloc hS.2⟩) ?_
        clear hK
        try simp only [Act.put, List.setIfInBounds_toArray]
        try simp only [List.set_cons_zero, List.set_cons_succ]
        refine AnyX.go 15 (by kernel_rfl) rfl rfl (fun K hK => ?_)
        simp only [List.getElem_toArray, List.getElem_cons_succ, List.getElem_cons_zero]
        refine wp_store_row 26 (.tmp 6) (.tmp 26) rfl w2.heap.size #[.int .i64 t.kind, .string t.pkg, .int .i64 t.major, .string t.mod, .string t.name, .slice An t.names.length cA, .slice As t.subs.length cS] rfl rfl _ _ (heap_alloc_new w2 _) tySize rfl tyOne ?_
        refine hK.out _ _ (fun hoff _ => absurd hoff (by decide)) ?_
        clear hK
        try simp only [Act.put, List.setIfInBounds_toArray]
        try simp only [List.set_cons_zero, List.set_cons_succ]
        refine AnyX.move (i := 16) (v := ?_) rfl (by kernel_rfl) (by kernel_rfl) (by kernel_rfl) (by kernel_rfl) (fun _ _ _ h => h) (Or.inl ⟨by rfl, ?_⟩) ?_
        rotate_left
        · (intro wS _; go_simp; try with_reducible rfl)
        simp only [List.getElem_toArray, List.getElem_cons_succ, List.getElem_cons_zero]
        simp only [Act.put, List.setIfInBounds_toArray]
        simp only [List.set_cons_zero, List.set_cons_succ]
        refine AnyX.move (i := 17) (v := ?_) rfl (by kernel_rfl) (by kernel_rfl) (by kernel_rfl) (by kernel_rfl) (fun _ _ _ h => h) (Or.inl ⟨by rfl, ?_⟩) ?_
        rotate_left
        · (intro wS _; go_simp; try with_reducible rfl)
        simp only [List.getElem_toArray, List.getElem_cons_succ, List.getElem_cons_zero]
        simp only [Act.put, List.setIfInBounds_toArray]
        simp only [List.set_cons_zero, List.set_cons_succ]
        refine AnyX.done (by kernel_rfl) ?_ _
        go_wp2_with fail
        go_meet
        exact RdC.afterOk (below_over BD hb2) (by omega) hok (hT.move (Nat.le_refl _) fun b hlt hS => ⟨by rintro (e | e); exact hS e; omega, rfl⟩) (by simp) (setRow_heap _ _ _ _ _ _ (heap_alloc_new w2 _)) (fun b hb _ => (setRow_other _ _ _ _ (by omega)).trans (Lib.alloc_old w2 _ b hb)) rfl rfl rfl

      · have hs2 := hb2.size
        have hsd : w1.drew.heap.size = w1.heap.size := rfl
        have hgl : g < w2.heap.size := (Array.getElem?_eq_some_iff.1 hsp).1
        simp only []
        refine hK.out _ _ (fun hoff _ => absurd hoff (by decide)) ?_
        clear hK
        try simp only [Act.put, List.setIfInBounds_toArray]
        try simp only [List.set_cons_zero, List.set_cons_succ]
        refine AnyX.move (i := 10) (v := ?_) rfl (by kernel_rfl) (by kernel_rfl) (by kernel_rfl) (by kernel_rfl) (fun _ _ _ h => h) (Or.inl ⟨by rfl, ?_⟩) ?_
        rotate_left
        · (intro wS _; go_simp; try with_reducible rfl)
        simp only [List.getElem_toArray, List.getElem_cons_succ, List.getElem_cons_zero]
        simp only [Act.put, List.setIfInBounds_toArray]
        simp only [List.set_cons_zero, List.set_cons_succ]
        refine AnyX.move (i := 11) (v := ?_) rfl (by kernel_rfl) (by kernel_rfl) (by kernel_rfl) (by kernel_rfl) (fun _ _ _ h => h) (Or.inl ⟨by rfl, ?_⟩) ?_
        rotate_left
        · (intro wS _; go_simp; try with_reducible rfl)
        simp only [List.getElem_toArray, List.getElem_cons_succ, List.getElem_cons_zero]
        simp only [Act.put, List.setIfInBounds_toArray]
        simp only [List.set_cons_zero, List.set_cons_succ]
        refine AnyX.move (i := 12) (v := ?_) rfl (by kernel_rfl) (by kernel_rfl) (by kernel_rfl) (by kernel_rfl) (fun _ _ _ h => h) (Or.inl ⟨by rfl, ?_⟩) ?_
        rotate_left
        · (intro wS _; go_simp; try with_reducible rfl)
        simp only [List.getElem_toArray, List.getElem_cons_succ, List.getElem_cons_zero]
        simp only [Act.put, List.setIfInBounds_toArray]
        simp only [List.set_cons_zero, List.set_cons_succ]
        refine AnyX.move (i := 13) (v := ?_) rfl (by kernel_rfl) (by kernel_rfl) (by kernel_rfl) (by kernel_rfl) (fun _ _ _ h => h) (Or.inl ⟨by rfl, ?_⟩) ?_
        rotate_left
        · (intro wS _; go_simp; try with_reducible rfl)
        simp only [List.getElem_toArray, List.getElem_cons_succ, List.getElem_cons_zero]
        simp only [Act.put, List.setIfInBounds_toArray]
        simp only [List.set_cons_zero, List.set_cons_succ]
        refine AnyX.go 14 (by kernel_rfl) rfl rfl (fun K hK => ?_)
        simp only [List.getElem_toArray, List.getElem_cons_succ, List.getElem_cons_zero]
        go_simp
        refine hK.out _ _ (fun _ hS => ⟨cell_alloc hS.1, cell_alloc hS.2⟩) ?_
        clear hK
        try simp only [Act.put, List.setIfInBounds_toArray]
        try simp only [List.set_cons_zero, List.set_cons_succ]
        refine AnyX.go 15 (by kernel_rfl) rfl rfl (fun K hK => ?_)
        simp only [List.getElem_toArray, List.getElem_cons_succ, List.getElem_cons_zero]
        refine wp_store_row 26 (.tmp 6) (.tmp 26) rfl w2.heap.size #[.int .i64 0, .string ⟨#[]⟩, .int .i64 0, .string ⟨#[]⟩, .string ⟨#[]⟩, .slice none 0 0, .slice none 0 0] rfl rfl _ _ (heap_alloc_new w2 _) tySize rfl tyOne ?_
        refine hK.out _ _ (fun hoff _ => absurd hoff (by decide)) ?_
        clear hK
        try simp only [Act.put, List.setIfInBounds_toArray]
        try simp only [List.set_cons_zero, List.set_cons_succ]
        refine AnyX.move (i := 16) (v := ?_) rfl (by kernel_rfl) (by kernel_rfl) (by kernel_rfl) (by kernel_rfl) (fun _ _ _ h => h) (Or.inl ⟨by rfl, ?_⟩) ?_
        rotate_left
        · (intro wS _; go_simp; try with_reducible rfl)
        simp only [List.getElem_toArray, List.getElem_cons_succ, List.getElem_cons_zero]
        simp only [Act.put, List.setIfInBounds_toArray]
        simp only [List.set_cons_zero, List.set_cons_succ]
        refine AnyX.move (i := 17) (v := ?_) rfl (by kernel_rfl) (by kernel_rfl) (by kernel_rfl) (by kernel_rfl) (fun _ _ _ h => h) (Or.inl ⟨by rfl, ?_⟩) ?_
        rotate_left
        · (intro wS _; go_simp; try with_reducible rfl)
        simp only [List.getElem_toArray, List.getElem_cons_succ, List.getElem_cons_zero]
        simp only [Act.put, List.setIfInBounds_toArray]
        simp only [List.set_cons_zero, List.set_cons_succ]
        refine AnyX.done (by kernel_rfl) ?_ _
        go_wp2_with fail
        go_meet
        exact RdC.afterErr (below_over BD hb2) (by omega) herr hb0 hsp (by simp) (by omega) (fun b hb _ => (setRow_other _ _ _ _ (by omega)).trans (Lib.alloc_old w2 _ b hb)) rfl rfl rfl

    · simp only [List.getElem_toArray, List.getElem_cons_succ, List.getElem_cons_zero]
      go_simp
      refine hK.out _ _ (fun _ hS => ⟨cell_alloc hS.1, cell_alloc hS.2⟩) ?_
      clear hK
      try simp only [Act.put, List.setIfInBounds_toArray]
      try simp only [List.set_cons_zero, List.set_cons_succ]
      obtain ⟨wa, hwa⟩ : ∃ wa, wa = (w1.alloc (.cells #[.int .i64 0, .string ⟨#[]⟩, .int .i64 0, .string ⟨#[]⟩, .string ⟨#[]⟩, .slice none 0 0, .slice none 0 0] 26)).drew := ⟨_, rfl⟩
      have Ba : Below w1.heap.size w1 wa := by rw [hwa]; exact Below.drew (below_new (Below.refl _ _) _)
      have Xa : wa.heap[w1.heap.size]? = some (.cells #[.int .i64 0, .string ⟨#[]⟩, .int .i64 0, .string ⟨#[]⟩, .string ⟨#[]⟩, .slice none 0 0, .slice none 0 0] 26 (0, 0)) := by rw [hwa]; exact heap_alloc_new w1 _
      have sa : wa.heap.size = w1.heap.size + 1 := by rw [hwa]; simp
      rw [← hwa]
      clear hwa
      refine AnyX.go 9 (by kernel_rfl) rfl rfl (fun K hK => ?_)
      simp only [List.getElem_toArray, List.getElem_cons_succ, List.getElem_cons_zero]
      go_simp
      refine (CA.out _ (below_over HB01.out Ba)).mono ?_
      rintro e w2 ⟨hb2, ⟨l, t, j, c, hok, rfl, hT⟩ | ⟨b, j, g, herr, hb0, rfl, hsp⟩⟩
      · obtain ⟨An, cA, As, cS, rfl, -⟩ := hT.parts
        have hs2 := hb2.size
        have X2 := (hb2.block _ (by omega)).trans Xa
        simp only []
        refine hK.out _ _ (fun hoff _ => absurd hoff (by decide)) ?_
        clear hK
        try simp only [Act.put, List.setIfInBounds_toArray]
        try simp only [List.set_cons_zero, List.set_cons_succ]
        refine AnyX.move (i := 10) (v := ?_) rfl (by kernel_rfl) (by kernel_rfl) (by kernel_rfl) (by kernel_rfl) (fun _ _ _ h => h) (Or.inl ⟨by rfl, ?_⟩) ?_
        rotate_left
        · (intro wS _; go_simp; try with_reducible rfl)
        simp only [List.getElem_toArray, List.getElem_cons_succ, List.getElem_cons_zero]
        simp only [Act.put, List.setIfInBounds_toArray]
        simp only [List.set_cons_zero, List.set_cons_succ]
        refine AnyX.move (i := 11) (v := ?_) rfl (by kernel_rfl) (by kernel_rfl) (by kernel_rfl) (by kernel_rfl) (fun _ _ _ h => h) (Or.inl ⟨by rfl, ?_⟩) ?_
        rotate_left
        · (intro wS _; go_simp; try with_reducible rfl)
        simp only [List.getElem_toArray, List.getElem_cons_succ, List.getElem_cons_zero]
        simp only [Act.put, List.setIfInBounds_toArray]
        simp only [List.set_cons_zero, List.set_cons_succ]
        refine AnyX.move (i := 12) (v := ?_) rfl (by kernel_rfl) (by kernel_rfl) (by kernel_rfl) (by kernel_rfl) (fun _ _ _ h => h) (Or.inl ⟨by rfl, ?_⟩) ?_
        rotate_left
        · (intro wS _; go_simp; try with_reducible rfl)
        simp only [List.getElem_toArray, List.getElem_cons_succ, List.getElem_cons_zero]
        simp only [Act.put, List.setIfInBounds_toArray]
        simp only [List.set_cons_zero, List.set_cons_succ]
        refine AnyX.move (i := 13) (v := ?_) rfl (by kernel_rfl) (by kernel_rfl) (by kernel_rfl) (by kernel_rfl) (fun _ _ _ h => h) (Or.inl ⟨by rfl, ?_⟩) ?_
        rotate_left
        · (intro wS _; go_simp; try with_reducible rfl)
        simp only [List.getElem_toArray, List.getElem_cons_succ, List.getElem_cons_zero]
        simp only [Act.put, List.setIfInBounds_toArray]
        simp only [List.set_cons_zero, List.set_cons_succ]
        refine AnyX.go 15 (by kernel_rfl) rfl rfl (fun K hK => ?_)
        simp only [List.getElem_toArray, List.getElem_cons_succ, List.getElem_cons_zero]
        refine wp_store_row 26 (.tmp 6) (.tmp 26) rfl w1.heap.size #[.int .i64 t.kind, .string t.pkg, .int .i64 t.major, .string t.mod, .string t.name, .slice An t.names.length cA, .slice As t.subs.length cS] rfl rfl _ _ X2 tySize rfl tyOne ?_
        refine hK.out _ _ (fun hoff _ => absurd hoff (by decide)) ?_
        clear hK
        try simp only [Act.put, List.setIfInBounds_toArray]
        try simp only [List.set_cons_zero, List.set_cons_succ]
        refine AnyX.move (i := 16) (v := ?_) rfl (by kernel_rfl) (by kernel_rfl) (by kernel_rfl) (by kernel_rfl) (fun _ _ _ h => h) (Or.inl ⟨by rfl, ?_⟩) ?_
        rotate_left
        · (intro wS _; go_simp; try with_reducible rfl)
        simp only [List.getElem_toArray, List.getElem_cons_succ, List.getElem_cons_zero]
        simp only [Act.put, List.setIfInBounds_toArray]
        simp only [List.set_cons_zero, List.set_cons_succ]
        refine AnyX.move (i := 17) (v := ?_) rfl (by kernel_rfl) (by kernel_rfl) (by kernel_rfl) (by kernel_rfl) (fun _ _ _ h => h) (Or.inl ⟨by rfl, ?_⟩) ?_
        rotate_left
        · (intro wS _; go_simp; try with_reducible rfl)
        simp only [List.getElem_toArray, List.getElem_cons_succ, List.getElem_cons_zero]
        simp only [Act.put, List.setIfInBounds_toArray]
        simp only [List.set_cons_zero, List.set_cons_succ]
        refine AnyX.done (by kernel_rfl) ?_ _
        go_wp2_with fail
        go_meet
        exact RdC.afterOk (below_over Ba hb2) (Nat.le_refl _) hok (hT.move (Nat.le_refl _) fun b hlt hS => ⟨by rintro (e | e) <;> omega, rfl⟩) (by simp) (setRow_heap _ _ _ _ _ _ X2) (fun b hb hne => setRow_other _ _ _ _ hne) rfl rfl rfl

      · have hs2 := hb2.size
        have X2 := (hb2.block _ (by omega)).trans Xa
        have hgg : g ≠ w1.heap.size := two_types hsp X2 (by decide)
        simp only []
        refine hK.out _ _ (fun hoff _ => absurd hoff (by decide)) ?_
        clear hK
        try simp only [Act.put, List.setIfInBounds_toArray]
        try simp only [List.set_cons_zero, List.set_cons_succ]
        refine AnyX.move (i := 10) (v := ?_) rfl (by kernel_rfl) (by kernel_rfl) (by kernel_rfl) (by kernel_rfl) (fun _ _ _ h => h) (Or.inl ⟨by rfl, ?_⟩) ?_
        rotate_left
        · (intro wS _; go_simp; try with_reducible rfl)
        simp only [List.getElem_toArray, List.getElem_cons_succ, List.getElem_cons_zero]
        simp only [Act.put, List.setIfInBounds_toArray]
        simp only [List.set_cons_zero, List.set_cons_succ]
        refine AnyX.move (i := 11) (v := ?_) rfl (by kernel_rfl) (by kernel_rfl) (by kernel_rfl) (by kernel_rfl) (fun _ _ _ h => h) (Or.inl ⟨by rfl, ?_⟩) ?_
        rotate_left
        · (intro wS _; go_simp; try with_reducible rfl)
        simp only [List.getElem_toArray, List.getElem_cons_succ, List.getElem_cons_zero]
        simp only [Act.put, List.setIfInBounds_toArray]
        simp only [List.set_cons_zero, List.set_cons_succ]
        refine AnyX.move (i := 12) (v := ?_) rfl (by kernel_rfl) (by kernel_rfl) (by kernel_rfl) (by kernel_rfl) (fun _ _ _ h => h) (Or.inl ⟨by rfl, ?_⟩) ?_
        rotate_left
        · (intro wS _; go_simp; try with_reducible rfl)
        simp only [List.getElem_toArray, List.getElem_cons_succ, List.getElem_cons_zero]
        simp only [Act.put, List.setIfInBounds_toArray]
        simp only [List.set_cons_zero, List.set_cons_succ]
        refine AnyX.move (i := 13) (v := ?_) rfl (by kernel_rfl) (by kernel_rfl) (by kernel_rfl) (by kernel_rfl) (fun _ _ _ h => h) (Or.inl ⟨by rfl, ?_⟩) ?_
        rotate_left
        · (intro wS _; go_simp; try with_reducible rfl)
        simp only [List.getElem_toArray, List.getElem_cons_succ, List.getElem_cons_zero]
        simp only [Act.put, List.setIfInBounds_toArray]
        simp only [List.set_cons_zero, List.set_cons_succ]
        refine AnyX.go 15 (by kernel_rfl) rfl rfl (fun K hK => ?_)
        simp only [List.getElem_toArray, List.getElem_cons_succ, List.getElem_cons_zero]
        refine wp_store_row 26 (.tmp 6) (.tmp 26) rfl w1.heap.size #[.int .i64 0, .string ⟨#[]⟩, .int .i64 0, .string ⟨#[]⟩, .string ⟨#[]⟩, .slice none 0 0, .slice none 0 0] rfl rfl _ _ X2 tySize rfl tyOne ?_
        refine hK.out _ _ (fun hoff _ => absurd hoff (by decide)) ?_
        clear hK
        try simp only [Act.put, List.setIfInBounds_toArray]
        try simp only [List.set_cons_zero, List.set_cons_succ]
        refine AnyX.move (i := 16) (v := ?_) rfl (by kernel_rfl) (by kernel_rfl) (by kernel_rfl) (by kernel_rfl) (fun _ _ _ h => h) (Or.inl ⟨by rfl, ?_⟩) ?_
        rotate_left
        · (intro wS _; go_simp; try with_reducible rfl)
        simp only [List.getElem_toArray, List.getElem_cons_succ, List.getElem_cons_zero]
        simp only [Act.put, List.setIfInBounds_toArray]
        simp only [List.set_cons_zero, List.set_cons_succ]
        refine AnyX.move (i := 17) (v := ?_) rfl (by kernel_rfl) (by kernel_rfl) (by kernel_rfl) (by kernel_rfl) (fun _ _ _ h => h) (Or.inl ⟨by rfl, ?_⟩) ?_
        rotate_left
        · (intro wS _; go_simp; try with_reducible rfl)
        simp only [List.getElem_toArray, List.getElem_cons_succ, List.getElem_cons_zero]
        simp only [Act.put, List.setIfInBounds_toArray]
        simp only [List.set_cons_zero, List.set_cons_succ]
        refine AnyX.done (by kernel_rfl) ?_ _
        go_wp2_with fail
        go_meet
        exact RdC.afterErr (below_over Ba hb2) (Nat.le_refl _) herr hb0 hsp (by simp) hgg (fun b hb hne => setRow_other _ _ _ _ hne) rfl rfl rfl

  case rest =>
    obtain ⟨hbc, g6, rfl, hg6, ⟨l, t, j, c, hok, rfl, rfl, hrow, hT⟩ | ⟨b, j, g, herr, hb0, rfl, rfl, hsp⟩⟩ := hcut
    · obtain ⟨An, cA, As, cS, rfl, -⟩ := hT.parts
      have ss := SS.out
      have hsz := hbc.size
      have Gc := (hbc.block q (by omega)).trans G1'.out
      have f1 := Lib.frozen_of_heap Gc 1
      have m1 := Lib.cell_of_heap Gc 1
      simp at m1
      have Xc := (hbc.block w.heap.size (by omega)).trans HX0.out
      obtain ⟨w5, hw5⟩ : ∃ w5, w5 = wc.setCell ⟨q, 1, none⟩ (.int .i64 j) := ⟨_, rfl⟩
      have s5 : w5.heap.size = wc.heap.size := by rw [hw5]; simp
      have o5 : ∀ k, k ≠ q → w5.heap[k]? = wc.heap[k]? := fun k hk => by rw [hw5]; exact Below.heap_setCell _ _ _ _ (by show k ≠ q; exact hk)
      have G5 : CGd q A S.n cn j w5 := by
        have h2 := Joins.block_setCell (i := 1) Gc (.int .i64 j)
        rw [hw5]; simpa [CGd] using h2
      have X5 : Bx w.heap.size w5 := (o5 _ (by omega)).trans Xc
      have R5 := (o5 g6 (by omega)).trans hrow
      have K5 : Kp q w w5 := by rw [hw5]; exact (Kp.of_below (below_over HB01.out hbc)).put 1 _
      have SEAL : Hid (TrOut w q A S.n cn (badR 0 i (cutR (atR S i))) (.returned (.agg #[.int .i64 t.kind, .string t.pkg, .int .i64 t.major, .string t.mod, .string t.name, .slice An t.names.length cA, .slice As t.subs.length cS])) (w5.setRow w.heap.size #[.int .i64 t.kind, .string t.pkg, .int .i64 t.major, .string t.mod, .string t.name, .slice An t.names.length cA, .slice As t.subs.length cS])) := Lib.hid
        ⟨[.int .i64 t.kind, .string t.pkg, .int .i64 t.major, .string t.mod, .string t.name, .slice An t.names.length cA, .slice As t.subs.length cS], t, j, 0, rfl, hT.move (by simp [s5]) fun b hlt hS => ⟨fun e => hS (.inl (by omega)), (setRow_other w5 w.heap.size b _ (fun e => hS (.inl (by omega)))).trans (o5 b (fun e => hS (.inl (by omega))))⟩,
          ⟨K5.os, K5.tape, K5.output, by have := K5.size; simpa using this, fun k hk hne => (setRow_other w5 w.heap.size k _ (by omega)).trans (K5.block k hk hne)⟩,
          .inl ⟨rfl, (setRow_other w5 w.heap.size q _ (by omega)).trans G5⟩, by rw [hok]; rfl⟩
      have x0 := Lib.cell_of_heap R5 0
      have x1 := Lib.cell_of_heap R5 1
      have x2 := Lib.cell_of_heap R5 2
      have x3 := Lib.cell_of_heap R5 3
      have x4 := Lib.cell_of_heap R5 4
      have x5 := Lib.cell_of_heap R5 5
      have x6 := Lib.cell_of_heap R5 6
      simp at x0 x1 x2 x3 x4 x5 x6
      have HX5 := Lib.hid X5
      have HW5 := Lib.hid hw5
      unfold Bx at X5
      clear hbc hrow hT Xc hw5 o5 G5 R5 K5 CA HH1 HX0 HX1 z0 z1 z2 z3 z4 z5 z6 a0 a1 a2 Gc
      go_upto_region 9 with fail
      rw [← HW5.out]
      go_wp2_with (first | ((with_reducible refine wpList_putRow 26 (w.heap.size) #[.int .i64 t.kind, .string t.pkg, .int .i64 t.major, .string t.mod, .string t.name, .slice An t.names.length cA, .slice As t.subs.length cS] _ _ X5 ?_ ?_ ?_ ?_ ?_ ?_); exact tySize; rfl; exact tyOne; (focus (first | (go_simp; done) | rfl)); (focus (first | (go_simp; done) | rfl))))
      exact ret_agg1 (fn := Tryz.f151) (vs := [.int .i64 t.kind, .string t.pkg, .int .i64 t.major, .string t.mod, .string t.name, .slice An t.names.length cA, .slice As t.subs.length cS]) (b := w.heap.size) rfl rfl Tryz.underlying26 (by kernel_rfl) (cell7 (setRow_heap w5 w.heap.size _ _ _ _ HX5.out)) rfl SEAL.out
    · have ss := SS.out
      have hsz := hbc.size
      have Gc := (hbc.block q (by omega)).trans G1'.out
      have f2 := Lib.frozen_of_heap Gc 2
      have m2 := Lib.cell_of_heap Gc 2
      simp at m2
      have Xc := (hbc.block w.heap.size (by omega)).trans HX0.out
      have Yc := (hbc.block w0.heap.size (by omega)).trans HX1.out
      have hgq : g ≠ q := two_types hsp Gc (by decide)
      have hgx : g ≠ w.heap.size := two_types hsp Xc (by decide)
      obtain ⟨w5, hw5⟩ : ∃ w5, w5 = wc.setCell ⟨q, 2, none⟩ (.iface 63 (.pointer (some ⟨g, 0, none⟩))) := ⟨_, rfl⟩
      have s5 : w5.heap.size = wc.heap.size := by rw [hw5]; simp
      have o5 : ∀ k, k ≠ q → w5.heap[k]? = wc.heap[k]? := fun k hk => by rw [hw5]; exact Below.heap_setCell _ _ _ _ (by show k ≠ q; exact hk)
      have G5 : CBd q A S.n cn b j w5 := by
        have h2 := Joins.block_setCell (i := 2) Gc (.iface 63 (.pointer (some ⟨g, 0, none⟩)))
        exact ⟨i, g, by rw [hw5]; simpa using h2, (o5 g hgq).trans hsp⟩
      have X5 : Bx w.heap.size w5 := (o5 _ (by omega)).trans Xc
      have Y5 : Bx w0.heap.size w5 := (o5 _ (by omega)).trans Yc
      have K5 : Kp q w w5 := by rw [hw5]; exact (Kp.of_below (below_over HB01.out hbc)).put 2 _
      have SEAL : Hid (TrOut w q A S.n cn (badR 0 i (cutR (atR S i))) (.returned (.agg #[.int .i64 0, .string ⟨#[]⟩, .int .i64 0, .string ⟨#[]⟩, .string ⟨#[]⟩, .slice none 0 0, .slice none 0 0])) (w5.setRow w.heap.size #[.int .i64 0, .string ⟨#[]⟩, .int .i64 0, .string ⟨#[]⟩, .string ⟨#[]⟩, .slice none 0 0, .slice none 0 0])) := Lib.hid
        ⟨[.int .i64 0, .string ⟨#[]⟩, .int .i64 0, .string ⟨#[]⟩, .string ⟨#[]⟩, .slice none 0 0, .slice none 0 0], noT, j, b, rfl, TyAt.zero _,
          ⟨K5.os, K5.tape, K5.output, by have := K5.size; simpa using this, fun k hk hne => (setRow_other w5 w.heap.size k _ (by omega)).trans (K5.block k hk hne)⟩,
          .inr ⟨hb0, by
            obtain ⟨x', g', e1, e2⟩ := G5
            exact ⟨x', g', (setRow_other w5 w.heap.size q _ (by omega)).trans e1, (setRow_other w5 w.heap.size g' _ (two_types e2 X5 (by decide))).trans e2⟩⟩, by rw [badR_ne _ _ hb0, herr]; rfl⟩
      rw [ss.1] at Y5
      unfold Bx at Y5
      have x0 := Lib.cell_of_heap Y5 0
      have x1 := Lib.cell_of_heap Y5 1
      have x2 := Lib.cell_of_heap Y5 2
      have x3 := Lib.cell_of_heap Y5 3
      have x4 := Lib.cell_of_heap Y5 4
      have x5 := Lib.cell_of_heap Y5 5
      have x6 := Lib.cell_of_heap Y5 6
      simp at x0 x1 x2 x3 x4 x5 x6
      have HX5 := Lib.hid X5
      have HW5 := Lib.hid hw5
      unfold Bx at X5
      clear hbc hsp Xc Yc hw5 o5 G5 K5 CA HH1 HX0 HX1 z0 z1 z2 z3 z4 z5 z6 a0 a1 a2 Gc hgq hgx herr hb0
      go_upto_region 7 with fail
      rw [← HW5.out]
      go_wp2_with (first | ((with_reducible refine wpList_putRow 26 (w.heap.size) #[.int .i64 0, .string ⟨#[]⟩, .int .i64 0, .string ⟨#[]⟩, .string ⟨#[]⟩, .slice none 0 0, .slice none 0 0] _ _ X5 ?_ ?_ ?_ ?_ ?_ ?_); exact tySize; rfl; exact tyOne; (focus (first | (go_simp; done) | rfl)); (focus (first | (go_simp; done) | rfl))))
      exact ret_agg1 (fn := Tryz.f151) (vs := [.int .i64 0, .string ⟨#[]⟩, .int .i64 0, .string ⟨#[]⟩, .string ⟨#[]⟩, .slice none 0 0, .slice none 0 0]) (b := w.heap.size) rfl rfl Tryz.underlying26 (by kernel_rfl) (cell7 (setRow_heap w5 w.heap.size _ _ _ _ HX5.out)) rfl SEAL.out

end Go.Proofs.YtbknmokamcjgpaaGreatDoor
