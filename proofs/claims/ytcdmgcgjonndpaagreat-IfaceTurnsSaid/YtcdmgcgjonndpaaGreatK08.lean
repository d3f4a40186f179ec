/-
  Several texts in one:  ·  ·  ·  · 
-/
import Derived.Test.YtcdmgcgjonndpaaGreatK07
import Derived.Laws.MakeOwn
import Derived.Test.YtcdmgcgjonndpaaGreatK05
import Derived.Test.YtcdmgcgjonndpaaGreatK00
import Derived.LoopTactic
/-  -/
namespace Go.Proofs.YtcdmgcgjonndpaaGreat
open Go.RowKit
open Go.Sort Go.Maps
open M
theorem strike_none (w : World) : strike (fun _ => False) w = w := by
  unfold strike
  have : (w.heap.mapIdx fun i o => if False then Obj.cells #[] 0 (0, 0) else o) = w.heap := by
    apply Array.ext
    · simp
    · intro i h1 h2; simp
  simp only [if_false] at this ⊢
  rw [this]
theorem row_ahead {α : Type} {R : Reads α} {w w' : World} {A : Option Addr} {xs : List α} {fb : Nat} (h : RowIn R w A xs) (hb : Below w.heap.size w w') (hf : w.heap.size ≤ fb) : RowIn R (strike (fun b => fb ≤ b) w') A xs := by
  rw [← strike_none w] at h
  exact h.move hb.size fun b hlt _ => ⟨by omega, hb.block b hlt⟩
theorem nats_ahead {w w' : World} {A : Option Addr} {xs : List Nat} {fb : Nat} (h : NatsAt w A xs) (hb : Below w.heap.size w w') (hf : w.heap.size ≤ fb) : NatsAt (strike (fun b => fb ≤ b) w') A xs := by
  rw [← strike_none w] at h
  exact h.move hb.size fun b hlt _ => ⟨by omega, hb.block b hlt⟩
theorem bool_info : (Tryz.prog.info? 4).map (fun i => (i.zero, i.size, i.bytes)) = some (some (.bool false), 1, 1) := by kernel_rfl
theorem made_bools (n : Nat) : madeCells (Value.bool false).cells (n * 1) = ((List.range n).map fun _ => Value.bool false).toArray := by
  apply Array.ext
  · simp [madeCells, Value.cells]
  · intro i h1 h2; simp [madeCells, Value.cells, Nat.mod_one]
set_option maxRecDepth 100000 in
set_option maxHeartbeats 8000000 in
theorem found_any (E : List En) (hE : Valid E) (hE2 : E.length ≤ 1000000) (Ae : Option Addr) (ce b0 b1 : Nat) (l : List Nat) (As : Option Addr) (cs : Nat) (w : World)
    (hR : RowIn enR w Ae E) (hl : NatsAt w As l) (hv : ∀ i ∈ l, i < E.length) (hll : l.length ≤ 1000000) :
    Calls Tryz.prog 80 #[.agg #[.map (some b0), .map (some b1), .slice Ae E.length ce], .slice As l.length cs] w fun e w' => ∃ fb, e = .returned (.slice (some ⟨fb, 0, none⟩) E.length E.length) ∧ w.heap.size ≤ fb ∧ FoundAt w' fb E.length (reachB E l) ∧ Below w.heap.size w w' := by
  obtain ⟨w1, hw1⟩ : ∃ w1, w1 = w.alloc (.cells #[.map (some b0), .map (some b1), .slice Ae E.length ce] 81) := ⟨_, rfl⟩
  have B1 : Below w.heap.size w w1 := by rw [hw1]; exact below_new (Below.refl _ _) _
  have X1 : w1.heap[w.heap.size]? = some (.cells #[.map (some b0), .map (some b1), .slice Ae E.length ce] 81 (0, 0)) := by rw [hw1]; exact heap_alloc_new w _
  have s1 : w1.heap.size = w.heap.size + 1 := by rw [hw1]; simp
  obtain ⟨w2, hw2⟩ : ∃ w2, w2 = w1.alloc (.cells (madeCells (Value.bool false).cells (E.length * 1)) 4) := ⟨_, rfl⟩
  have B2 : Below w1.heap.size w1 w2 := by rw [hw2]; exact below_new (Below.refl _ _) _
  have F2 : FoundAt w2 w1.heap.size E.length (fun _ => false) := by
    unfold FoundAt
    rw [hw2, ← made_bools]; exact heap_alloc_new w1 _
  have B02 := below_over B1 B2
  have MK := Lib.hid (mark_any E hE hE2 Ae ce b0 b1 E.length (unf E.length (fun _ => false) + 1) (fun _ => false) w1.heap.size l As cs w2 (Nat.lt_succ_self _) (row_ahead hR B02 (by omega)) (nats_ahead hl B02 (by omega)) hv hll F2)
  obtain ⟨i0, hi, hz0, hz1, hz2⟩ := info_parts bool_info
  have MS := run_makeSlice (P := Tryz.prog) (w := w1) 119 4 i0 (.bool false) Tryz.underlying119 hi hz0 .i64 .i64 (E.length : Int) (E.length : Int) (by omega) (by omega) (by rw [hz1]; simp; omega) (by rw [hz2]; omega) (by omega)
  rw [hz1] at MS
  simp only [Int.toNat_natCast] at MS
  rw [← hw2] at MS
  have x0 := Lib.cell_of_heap X1 0
  have x1 := Lib.cell_of_heap X1 1
  have x2 := Lib.cell_of_heap X1 2
  simp at x0 x1 x2
  have Y := (B2.block w.heap.size (by omega)).trans X1
  have HY := Lib.hid Y
  have HB := Lib.hid B02
  have HW1 := Lib.hid hw1
  obtain ⟨n, hn⟩ : ∃ n, n = E.length := ⟨_, rfl⟩
  have HN := Lib.hid hn
  rw [← hn] at MS x2 HY HW1 MK hE2 ⊢
  have hlo : w.heap.size ≤ w1.heap.size := by omega
  have HS2 : Hid (w2.heap.size = w1.heap.size + 1) := Lib.hid (by rw [hw2]; simp)
  have HS1 := Lib.hid s1
  clear B1 X1 hw2 B2 F2 B02 Y hR hl hw1 hn s1
  go_enter Tryz.func80, Tryz.ntmps80
  go_upto_region 1 with fail
  rw [← HW1.out]
  go_upto_region 2 with fail
  clear MS x0 x1 x2
  have x0 := Lib.cell_of_heap HY.out 0
  have x1 := Lib.cell_of_heap HY.out 1
  have x2 := Lib.cell_of_heap HY.out 2
  simp at x0 x1 x2
  go_wp2_with fail
  refine MK.out.mono ?_
  rintro e w3 ⟨rfl, F, hF, hFD, hg⟩
  have FA : Hid (FoundAt w3 w1.heap.size n (reachB E l)) := Lib.hid (by
    have : F = reachB E l := funext fun i => hFD.all i
    rw [← this]; exact hF)
  have FB : Hid (Below w.heap.size w w3) := Lib.hid (HB.out.trans ⟨hg.os, hg.tape, hg.output, hg.size, fun b hb => hg.block b (by have := HS1.out; have := HS2.out; omega) (by have := HS1.out; simp; omega)⟩)
  clear hF hFD hg x0 x1 x2
  go_wp2_with fail
  go_ret
  exact ⟨_, rfl, hlo, FA.out, FB.out⟩
set_option maxHeartbeats 2000000 in
theorem mis_any (at_ kind : Int) (As : Option Addr) (n cs : Nat) (b : Bool) (w : World) : Calls Tryz.prog 51 #[.agg #[.int .i64 at_, .int .i64 kind, .slice As n cs, .bool b]] w fun e w' => e = .returned (.bool (!b)) ∧ Below w.heap.size w w' := by
  go_enter Tryz.func51, Tryz.ntmps51
  go_wp2_with fail
  go_ret
  exact ⟨rfl, below_new (Below.refl _ _) _⟩
end Go.Proofs.YtcdmgcgjonndpaaGreat

/-  -/
namespace Go.Proofs.YtcdmgcgjonndpaaGreat
open Go.RowKit
open Go.Sort Go.Maps
open M
theorem two_boxes (w : World) (c1 c2 : Array Value) (t1 t2 : TypeId) : ∃ W2, W2 = (w.alloc (.cells c1 t1)).alloc (.cells c2 t2) ∧ Below w.heap.size w W2 ∧ W2.heap[w.heap.size]? = some (.cells c1 t1 (0, 0)) ∧ W2.heap[w.heap.size + 1]? = some (.cells c2 t2 (0, 0)) ∧ w.heap.size + 1 < W2.heap.size := by
  have hs1 : (w.alloc (.cells c1 t1)).heap.size = w.heap.size + 1 := by simp
  refine ⟨_, rfl, below_new (below_new (Below.refl _ _) _) _, ?_, ?_, by simp⟩
  · rw [Lib.alloc_old _ _ _ (by rw [hs1]; omega)]; exact heap_alloc_new w _
  · rw [← hs1]; exact heap_alloc_new _ _
noncomputable def hidB (E : List En) (l : List Nat) : Bool := (List.range E.length).any fun i => reachB E l i && (match E[i]? with | some y => y.kind == 2 | none => false)
set_option maxRecDepth 100000 in
set_option maxHeartbeats 8000000 in
theorem circ_any (E : List En) (hE : Valid E) (hE2 : E.length ≤ 1000000) (Ae : Option Addr) (ce b0 b1 : Nat) (x : En) (As : Option Addr) (cs : Nat) (w : World)
    (hR : RowIn enR w Ae E) (hl : NatsAt w As x.said) (hv : ∀ i ∈ x.said, i < E.length) (hll : x.said.length ≤ 1000000) (hx : x.at_ < E.length) :
    Calls Tryz.prog 52 #[.agg #[.map (some b0), .map (some b1), .slice Ae E.length ce], .agg #[.int .i64 x.at_, .int .i64 x.kind, .slice As x.said.length cs, .bool x.whole]] w fun e w' => e = .returned (.bool (reachB E x.said x.at_)) ∧ Below w.heap.size w w' := by
  obtain ⟨W2, hW2, hB, X1, X2, hlo⟩ := two_boxes w #[.map (some b0), .map (some b1), .slice Ae E.length ce] #[.int .i64 x.at_, .int .i64 x.kind, .slice As x.said.length cs, .bool x.whole] 81 90
  have BD : Below W2.heap.size W2 W2.drew := Below.drew (Below.refl _ _)
  have BW := below_over hB BD
  have AL := Lib.hid (found_any E hE hE2 Ae ce b0 b1 x.said As cs W2.drew (hR.below BW) (hl.below BW) hv hll)
  have Y1 := (BD.block _ (by omega)).trans X1
  have Y2 := (BD.block _ hlo).trans X2
  have hH0 : (W2.drew.cell? ⟨w.heap.size, 0, none⟩ = some (.map (some b0)) ∧ W2.drew.cell? ⟨w.heap.size, 1, none⟩ = some (.map (some b1)) ∧ W2.drew.cell? ⟨w.heap.size, 2, none⟩ = some (.slice Ae E.length ce)) ∧ W2.drew.cell? ⟨w.heap.size + 1, 0, none⟩ = some (.int .i64 x.at_) ∧ W2.drew.cell? ⟨w.heap.size + 1, 2, none⟩ = some (.slice As x.said.length cs) :=
    ⟨⟨Lib.cell_of_heap Y1 0, Lib.cell_of_heap Y1 1, Lib.cell_of_heap Y1 2⟩, Lib.cell_of_heap Y2 0, Lib.cell_of_heap Y2 2⟩
  have HBW := Lib.hid BW
  have HW2 := Lib.hid hW2
  have hsd : W2.drew.heap.size = W2.heap.size := rfl
  have HSD := Lib.hid hsd
  have hx1 : (0 : Int) ≤ x.at_ := by omega
  have hx2 : (x.at_ : Int) < E.length := by omega
  obtain ⟨n, hn⟩ : ∃ n, n = E.length := ⟨_, rfl⟩
  rw [← hn] at hH0 HW2 AL hx hx2 hE2 ⊢
  clear hB X1 X2 BD BW hW2 Y1 Y2 hR hl hsd hn
  go_enter Tryz.func52, Tryz.ntmps52
  go_upto_region 1 with fail
  rw [← HW2.out]
  refine AnyX.start (fun wx => (wx.cell? ⟨w.heap.size, 0, none⟩ = some (.map (some b0)) ∧ wx.cell? ⟨w.heap.size, 1, none⟩ = some (.map (some b1)) ∧ wx.cell? ⟨w.heap.size, 2, none⟩ = some (.slice Ae n ce)) ∧ wx.cell? ⟨w.heap.size + 1, 0, none⟩ = some (.int .i64 x.at_) ∧ wx.cell? ⟨w.heap.size + 1, 2, none⟩ = some (.slice As x.said.length cs)) (fun _ => false) (by kernel_rfl) ?_
  refine AnyX.take (i := 0) (v := ?_) rfl (by kernel_rfl) (by kernel_rfl) (by kernel_rfl) (by kernel_rfl) (by kernel_rfl) (fun _ _ _ h => h) hH0 (Or.inl ⟨by rfl, ?_⟩) ?_
  rotate_left
  · (intro wS hS; (try obtain ⟨⟨c0, c1, c2⟩, c3, c4⟩ := hS); go_simp; try with_reducible rfl)
  simp only [List.getElem_toArray, List.getElem_cons_succ, List.getElem_cons_zero]
  simp only [Act.put, List.setIfInBounds_toArray]
  simp only [List.set_cons_zero, List.set_cons_succ]
  refine AnyX.move (i := 1) (v := ?_) rfl (by kernel_rfl) (by kernel_rfl) (by kernel_rfl) (by kernel_rfl) (fun _ _ _ h => h) (Or.inl ⟨by rfl, ?_⟩) ?_
  rotate_left
  · (intro wS _; go_simp; try with_reducible rfl)
  simp only [List.getElem_toArray, List.getElem_cons_succ, List.getElem_cons_zero]
  simp only [Act.put, List.setIfInBounds_toArray]
  simp only [List.set_cons_zero, List.set_cons_succ]
  refine AnyX.take (i := 2) (v := ?_) rfl (by kernel_rfl) (by kernel_rfl) (by kernel_rfl) (by kernel_rfl) (by kernel_rfl) (fun _ _ _ h => h) hH0 (Or.inl ⟨by rfl, ?_⟩) ?_
  rotate_left
  · (intro wS hS; (try obtain ⟨⟨c0, c1, c2⟩, c3, c4⟩ := hS); go_simp; try with_reducible rfl)
  simp only [List.getElem_toArray, List.getElem_cons_succ, List.getElem_cons_zero]
  simp only [Act.put, List.setIfInBounds_toArray]
  simp only [List.set_cons_zero, List.set_cons_succ]
  refine AnyX.move (i := 4) (v := ?_) rfl (by kernel_rfl) (by kernel_rfl) (by kernel_rfl) (by kernel_rfl) (fun _ _ _ h => h) (Or.inl ⟨by rfl, ?_⟩) ?_
  rotate_left
  · (intro wS _; go_simp; try with_reducible rfl)
  simp only [List.getElem_toArray, List.getElem_cons_succ, List.getElem_cons_zero]
  simp only [Act.put, List.setIfInBounds_toArray]
  simp only [List.set_cons_zero, List.set_cons_succ]
  refine AnyX.take (i := 5) (v := ?_) rfl (by kernel_rfl) (by kernel_rfl) (by kernel_rfl) (by kernel_rfl) (by kernel_rfl) (fun _ _ _ h => h) hH0 (Or.inl ⟨by rfl, ?_⟩) ?_
  rotate_left
  · (intro wS hS; (try obtain ⟨⟨c0, c1, c2⟩, c3, c4⟩ := hS); go_simp; try with_reducible rfl)
  simp only [List.getElem_toArray, List.getElem_cons_succ, List.getElem_cons_zero]
  simp only [Act.put, List.setIfInBounds_toArray]
  simp only [List.set_cons_zero, List.set_cons_succ]
  refine AnyX.go 3 (by kernel_rfl) rfl rfl (fun K hK => ?_)
  simp only [List.getElem_toArray, List.getElem_cons_succ, List.getElem_cons_zero]
  go_simp
  refine AL.out.mono ?_
  rintro e w3 ⟨fb, rfl, hfb, hF, hb⟩
  have hc := hF.cell hx
  have HF := Lib.hid (below_over HBW.out hb)
  have hH3 : (w3.cell? ⟨w.heap.size, 0, none⟩ = some (.map (some b0)) ∧ w3.cell? ⟨w.heap.size, 1, none⟩ = some (.map (some b1)) ∧ w3.cell? ⟨w.heap.size, 2, none⟩ = some (.slice Ae n ce)) ∧ w3.cell? ⟨w.heap.size + 1, 0, none⟩ = some (.int .i64 x.at_) ∧ w3.cell? ⟨w.heap.size + 1, 2, none⟩ = some (.slice As x.said.length cs) := by
    have hw : ∀ (b o : Nat) (v : Value), b ≤ w.heap.size + 1 → W2.drew.cell? ⟨b, o, none⟩ = some v → w3.cell? ⟨b, o, none⟩ = some v := fun b o v h1 h2 => (hb.cell (p := ⟨b, o, none⟩) (by show b < W2.drew.heap.size; rw [HSD.out]; omega)).trans h2
    exact ⟨⟨hw _ _ _ (by omega) hH0.1.1, hw _ _ _ (by omega) hH0.1.2.1, hw _ _ _ (by omega) hH0.1.2.2⟩, hw _ _ _ (by omega) hH0.2.1, hw _ _ _ (by omega) hH0.2.2⟩
  clear hF hb
  refine hK.out _ _ (fun hoff _ => hH3) ?_
  clear hK
  try simp only [Act.put, List.setIfInBounds_toArray]
  try simp only [List.set_cons_zero, List.set_cons_succ]
  refine AnyX.move (i := 6) (v := ?_) rfl (by kernel_rfl) (by kernel_rfl) (by kernel_rfl) (by kernel_rfl) (fun _ _ _ h => h) (Or.inl ⟨by rfl, ?_⟩) ?_
  rotate_left
  · (intro wS _; go_simp; try with_reducible rfl)
  simp only [List.getElem_toArray, List.getElem_cons_succ, List.getElem_cons_zero]
  simp only [Act.put, List.setIfInBounds_toArray]
  simp only [List.set_cons_zero, List.set_cons_succ]
  refine AnyX.go 7 (by kernel_rfl) rfl rfl (fun K hK => ?_)
  simp only [List.getElem_toArray, List.getElem_cons_succ, List.getElem_cons_zero]
  go_simp
  refine hK.out _ _ (fun hoff _ => hH3) ?_
  clear hK
  try simp only [Act.put, List.setIfInBounds_toArray]
  try simp only [List.set_cons_zero, List.set_cons_succ]
  refine AnyX.move (i := 8) (v := ?_) rfl (by kernel_rfl) (by kernel_rfl) (by kernel_rfl) (by kernel_rfl) (fun _ _ _ h => h) (Or.inl ⟨by rfl, ?_⟩) ?_
  rotate_left
  · (intro wS _; go_simp; try with_reducible rfl)
  simp only [List.getElem_toArray, List.getElem_cons_succ, List.getElem_cons_zero]
  simp only [Act.put, List.setIfInBounds_toArray]
  simp only [List.set_cons_zero, List.set_cons_succ]
  refine AnyX.done (by kernel_rfl) ?_ _
  go_wp2_with fail
  go_ret
  exact ⟨rfl, HF.out⟩
theorem hid_at {E : List En} {l : List Nat} {k : Nat} {x : En} (hx : E[k]? = some x) : (match E[k]? with | some y => y.kind == 2 | none => false) = (x.kind == 2) := by rw [hx]
theorem hid_snoc (E : List En) (l : List Nat) (k : Nat) : ((List.range (k + 1)).any fun i => reachB E l i && (match E[i]? with | some y => y.kind == 2 | none => false)) = (((List.range k).any fun i => reachB E l i && (match E[i]? with | some y => y.kind == 2 | none => false)) || (reachB E l k && (match E[k]? with | some y => y.kind == 2 | none => false))) := by
  rw [List.range_succ, List.any_append]; simp
theorem hid_yes {E : List En} {l : List Nat} {k : Nat} {x : En} (hk : k < E.length) (hx : E[k]? = some x) (h1 : reachB E l k = true) (h2 : (x.kind == 2) = true) : hidB E l = true := by
  unfold hidB
  rw [List.any_eq_true]
  exact ⟨k, List.mem_range.2 hk, by rw [h1, hx]; exact h2⟩
set_option maxRecDepth 100000 in
set_option maxHeartbeats 8000000 in
theorem hid_any (E : List En) (hE : Valid E) (hE2 : E.length ≤ 1000000) (Ae : Option Addr) (ce b0 b1 : Nat) (x : En) (As : Option Addr) (cs : Nat) (w : World)
    (hR : RowIn enR w Ae E) (hl : NatsAt w As x.said) (hv : ∀ i ∈ x.said, i < E.length) (hll : x.said.length ≤ 1000000) :
    Calls Tryz.prog 53 #[.agg #[.map (some b0), .map (some b1), .slice Ae E.length ce], .agg #[.int .i64 x.at_, .int .i64 x.kind, .slice As x.said.length cs, .bool x.whole]] w fun e w' => e = .returned (.bool (hidB E x.said)) ∧ Below w.heap.size w w' := by
  obtain ⟨W2, hW2, hB, X1, X2, hlo⟩ := two_boxes w #[.map (some b0), .map (some b1), .slice Ae E.length ce] #[.int .i64 x.at_, .int .i64 x.kind, .slice As x.said.length cs, .bool x.whole] 81 90
  have AL := Lib.hid (found_any E hE hE2 Ae ce b0 b1 x.said As cs W2 (hR.below hB) (hl.below hB) hv hll)
  have x0 := Lib.cell_of_heap X1 0
  have x1 := Lib.cell_of_heap X1 1
  have x2 := Lib.cell_of_heap X1 2
  have z2 := Lib.cell_of_heap X2 2
  simp at x0 x1 x2 z2
  have HX1 := Lib.hid X1
  have HB := Lib.hid hB
  have HW2 := Lib.hid hW2
  have HR := Lib.hid (hR.below hB)
  obtain ⟨V, hV⟩ : ∃ V, V = hidB E x.said := ⟨_, rfl⟩
  have HV := Lib.hid hV
  obtain ⟨n, hn⟩ : ∃ n, n = E.length := ⟨_, rfl⟩
  have HN := Lib.hid hn
  rw [← hn] at x2 HX1 HW2 AL hE2 ⊢
  rw [← hV]
  clear hB X1 X2 hW2 hR hl hn hV
  go_enter Tryz.func53, Tryz.ntmps53
  go_upto_region 1 with fail
  rw [← HW2.out]
  go_wp2_with fail
  refine AL.out.mono ?_
  rintro e w3 ⟨fb, rfl, hfb, hF, hb⟩
  have HF := Lib.hid hF
  have HB3 := Lib.hid (below_over HB.out hb)
  have Y1 := (hb.block w.heap.size (by omega)).trans HX1.out
  have HR3 := Lib.hid (HR.out.below hb)
  have y2 := Lib.cell_of_heap Y1 2
  simp at y2
  clear hF hb x0 x1 x2 z2 Y1
  go_wp2_with fail
  go_loopw [12] (fun iv wr => ∃ k : Nat, k ≤ n ∧ iv = .int .i64 k ∧ wr = w3 ∧ Hid (((List.range k).any fun i => reachB E x.said i && (match E[i]? with | some y => y.kind == 2 | none => false)) = false)) (fun iv _ => n - (intOf iv).toNat)
  case atStart => exact ⟨0, by omega, rfl, rfl, Lib.hid rfl⟩
  case round =>
    obtain ⟨k, hk, rfl, rfl, HQ⟩ := hrel
    by_cases hlt : k < n
    · have hc := HF.out.cell hlt
      have hy : E[k]? = some E[k] := List.getElem?_eq_getElem (by rw [← HN.out]; exact hlt)
      obtain ⟨y, hyy⟩ : ∃ y, y = E[k] := ⟨_, rfl⟩
      rw [← hyy] at hy
      obtain ⟨g2, o2, lv, rfl, hg2, hc2, As2, cs2, rfl, hNs, hlen2⟩ := HR3.out k y hy
      have u1 := hc2 1 _ rfl
      have u1' : wr.cell? ⟨g2, o2 + k * 4 + 1, none⟩ = some (.int .i64 y.kind) := u1
      have HY := Lib.hid hy
      have hNE : k < E.length := by rw [← HN.out]; exact hlt
      obtain ⟨r, hr⟩ : ∃ r, reachB E x.said k = r := ⟨_, rfl⟩
      obtain ⟨p, hp⟩ : ∃ p, (y.kind == 2) = p := ⟨_, rfl⟩
      rw [hr] at hc
      have NX : Hid ((r && p) = false → ((List.range (k + 1)).any fun i => reachB E x.said i && (match E[i]? with | some y => y.kind == 2 | none => false)) = false) := Lib.hid (fun h => by
        rw [hid_snoc, HQ.out, hid_at HY.out (l := []), hr, hp, h]; rfl)
      have YS : Hid (r = true → p = true → V = true) := Lib.hid (fun h1 h2 => by rw [HV.out]; exact hid_yes hNE HY.out (by rw [hr, h1]) (by rw [hp, h2]))
      clear hy hyy hc2 hNs u1 hr HY
      cases r with
      | false =>
        go_wp2_with fail
        go_roundw
        case rel => exact ⟨k + 1, by omega, by go_num, by first | rfl | trivial, Lib.hid (NX.out rfl)⟩
        case measure => simp [intOf]; omega
      | true =>
        cases p with
        | false =>
          go_wp2_with fail
          go_roundw
          case rel => exact ⟨k + 1, by omega, by go_num, by first | rfl | trivial, Lib.hid (NX.out rfl)⟩
          case measure => simp [intOf]; omega
        | true =>
          have RV := YS.out rfl rfl
          subst RV
          go_wp2_with fail
          go_ret
          exact ⟨rfl, HB3.out⟩
    · obtain rfl : k = n := by omega
      have RV : V = false := by rw [HV.out]; unfold hidB; rw [← HN.out]; exact HQ.out
      subst RV
      go_wp2_with fail
      go_ret
      exact ⟨rfl, HB3.out⟩
end Go.Proofs.YtcdmgcgjonndpaaGreat

/-  -/
namespace Go.Proofs.YtcdmgcgjonndpaaGreat
open Go.RowKit
open Go.Sort Go.Maps
open M
def fstN (p : Nat → Bool) (n : Nat) : Int := match (List.range n).find? p with | some i => (i : Int) | none => -1
theorem fstN_yes {p : Nat → Bool} {n k : Nat} (hk : k < n) (h : ∀ i, i < k → p i = false) (hp : p k = true) : fstN p n = k := by
 unfold fstN
 have : (List.range n).find? p = some k := by
  rw [List.find?_range_eq_some]
  exact ⟨hp, List.mem_range.2 hk, fun i hi => by rw [h i hi]; rfl⟩
 rw [this]
theorem fstN_no {p : Nat → Bool} {n : Nat} (h : ∀ i, i < n → p i = false) : fstN p n = -1 := by
 unfold fstN
 have : (List.range n).find? p = none := by
  rw [List.find?_eq_none]
  intro i hi
  rw [h i (List.mem_range.1 hi)]; decide
 rw [this]
noncomputable def atE (E : List En) (p : En → Bool) (i : Nat) : Bool := match E[i]? with | some x => p x | none => false
theorem atE_some {E : List En} {p : En → Bool} {i : Nat} {x : En} (h : E[i]? = some x) : atE E p i = p x := by unfold atE; rw [h]
set_option maxRecDepth 100000 in
set_option maxHeartbeats 8000000 in
theorem index_mis (E : List En) (hE : Valid E) (hE2 : E.length ≤ 1000000) (hA : ∀ x ∈ E, x.at_ < E.length) (Ae : Option Addr) (ce b0 b1 : Nat) (w : World) (hR : RowIn enR w Ae E) :
  Calls Tryz.prog 50 #[.slice Ae E.length ce, .func (.func 51) #[] #[]] w fun e w' => e = .returned (.int .i64 (fstN (atE E (fun x => !x.whole)) E.length)) ∧ Below w.heap.size w w' := by
 have HR := Lib.hid hR
 obtain ⟨V, hV⟩ : ∃ V, V = fstN (atE E (fun x => !x.whole)) E.length := ⟨_, rfl⟩
 have HV := Lib.hid hV
 rw [← hV]
 obtain ⟨n, hn⟩ : ∃ n, n = E.length := ⟨_, rfl⟩
 have HN := Lib.hid hn
 have HEE := Lib.hid hE
 have HAA := Lib.hid hA
 rw [← hn] at hE2 ⊢
 clear hR hn hV hE hA
 go_enter Tryz.func50, Tryz.ntmps50
 go_wp2_with fail
 go_loopw [8] (fun iv wr => ∃ k : Nat, k ≤ n ∧ iv = .int .i64 k ∧ Hid (∀ i, i < k → atE E (fun x => !x.whole) i = false) ∧ Hid (Below w.heap.size w wr)) (fun iv _ => n - (intOf iv).toNat)
 case atStart => exact ⟨0, by omega, rfl, Lib.hid (fun i h => by omega), Lib.hid (Below.refl _ _)⟩
 case round =>
  obtain ⟨k, hk, rfl, HQ, HB⟩ := hrel
  obtain ⟨wo, rfl⟩ : ∃ wo : World, wo = wr := ⟨_, rfl⟩
  by_cases hlt : k < n
  ·have hx : E[k]? = some E[k] := List.getElem?_eq_getElem (by rw [← HN.out]; exact hlt)
   obtain ⟨x, hxx⟩ : ∃ x, x = E[k] := ⟨_, rfl⟩
   rw [← hxx] at hx
   obtain ⟨g, o, lv, rfl, hg, hc, As, cs, rfl, hNs, hlen⟩ := HR.out.below HB.out k x hx
   have u0 := hc 0 _ rfl
   have u1 := hc 1 _ rfl
   have u2 := hc 2 _ rfl
   have u3 := hc 3 _ rfl
   have y0 : wo.cell? ⟨g, o + k * 4, none⟩ = some (.int .i64 x.at_) := u0
   have y1 : wo.cell? ⟨g, o + k * 4 + 1, none⟩ = some (.int .i64 x.kind) := u1
   have y2 : wo.cell? ⟨g, o + k * 4 + 2, none⟩ = some (.slice As x.said.length cs) := u2
   have y3 : wo.cell? ⟨g, o + k * 4 + 3, none⟩ = some (.bool x.whole) := u3
   have hmem := List.mem_of_getElem? hx
   have CA := Lib.hid (mis_any x.at_ x.kind As x.said.length cs x.whole wo)
   obtain ⟨r, hr⟩ : ∃ r, (!x.whole) = r := ⟨_, rfl⟩
   rw [hr] at CA
   have HAT : Hid (atE E (fun x => !x.whole) k = r) := Lib.hid (by rw [atE_some hx]; exact hr)
   clear hx hxx hc hNs hlen u0 u1 u2 u3 hr hmem
   cases r with
   | true =>
    have RV : V = (k : Int) := by rw [HV.out]; exact fstN_yes (by rw [← HN.out]; exact hlt) HQ.out HAT.out
    subst RV
    go_wp2_with fail
    refine CA.out.mono ?_; rintro e w2 ⟨rfl, hb2⟩
    have HB2 := Lib.hid (below_over HB.out hb2)
    clear y0 y1 y2 y3 hb2
    go_wp2_with fail
    go_ret
    exact ⟨rfl, HB2.out⟩
   | false =>
    go_wp2_with fail
    refine CA.out.mono ?_; rintro e w2 ⟨rfl, hb2⟩
    have HB2 := Lib.hid (below_over HB.out hb2)
    clear y0 y1 y2 y3 hb2
    go_wp2_with fail
    go_roundw
    case rel => exact ⟨k + 1, by omega, by go_num, Lib.hid (fun i hi => by
     by_cases e : i = k
     ·rw [e]; exact HAT.out
     ·exact HQ.out i (by omega)), HB2⟩
    case measure => simp [intOf]; omega
  ·have RV : V = -1 := by rw [HV.out]; exact fstN_no (fun i hi => HQ.out i (by rw [← HN.out] at hi; omega))
   subst RV
   go_wp2_with fail
   go_ret
   exact ⟨rfl, HB.out⟩
set_option maxRecDepth 100000 in
set_option maxHeartbeats 8000000 in
theorem index_circ (E : List En) (hE : Valid E) (hE2 : E.length ≤ 1000000) (hA : ∀ x ∈ E, x.at_ < E.length) (Ae : Option Addr) (ce b0 b1 : Nat) (w : World) (hR : RowIn enR w Ae E) :
  Calls Tryz.prog 50 #[.slice Ae E.length ce, .func (.func 52) #[.agg #[.map (some b0), .map (some b1), .slice Ae E.length ce]] #[]] w fun e w' => e = .returned (.int .i64 (fstN (atE E (fun x => reachB E x.said x.at_)) E.length)) ∧ Below w.heap.size w w' := by
 have HR := Lib.hid hR
 obtain ⟨V, hV⟩ : ∃ V, V = fstN (atE E (fun x => reachB E x.said x.at_)) E.length := ⟨_, rfl⟩
 have HV := Lib.hid hV
 rw [← hV]
 obtain ⟨n, hn⟩ : ∃ n, n = E.length := ⟨_, rfl⟩
 have HN := Lib.hid hn
 have HEE := Lib.hid hE
 have HAA := Lib.hid hA
 rw [← hn] at hE2 ⊢
 clear hR hn hV hE hA
 go_enter Tryz.func50, Tryz.ntmps50
 go_wp2_with fail
 go_loopw [8] (fun iv wr => ∃ k : Nat, k ≤ n ∧ iv = .int .i64 k ∧ Hid (∀ i, i < k → atE E (fun x => reachB E x.said x.at_) i = false) ∧ Hid (Below w.heap.size w wr)) (fun iv _ => n - (intOf iv).toNat)
 case atStart => exact ⟨0, by omega, rfl, Lib.hid (fun i h => by omega), Lib.hid (Below.refl _ _)⟩
 case round =>
  obtain ⟨k, hk, rfl, HQ, HB⟩ := hrel
  obtain ⟨wo, rfl⟩ : ∃ wo : World, wo = wr := ⟨_, rfl⟩
  by_cases hlt : k < n
  ·have hx : E[k]? = some E[k] := List.getElem?_eq_getElem (by rw [← HN.out]; exact hlt)
   obtain ⟨x, hxx⟩ : ∃ x, x = E[k] := ⟨_, rfl⟩
   rw [← hxx] at hx
   obtain ⟨g, o, lv, rfl, hg, hc, As, cs, rfl, hNs, hlen⟩ := HR.out.below HB.out k x hx
   have u0 := hc 0 _ rfl
   have u1 := hc 1 _ rfl
   have u2 := hc 2 _ rfl
   have u3 := hc 3 _ rfl
   have y0 : wo.cell? ⟨g, o + k * 4, none⟩ = some (.int .i64 x.at_) := u0
   have y1 : wo.cell? ⟨g, o + k * 4 + 1, none⟩ = some (.int .i64 x.kind) := u1
   have y2 : wo.cell? ⟨g, o + k * 4 + 2, none⟩ = some (.slice As x.said.length cs) := u2
   have y3 : wo.cell? ⟨g, o + k * 4 + 3, none⟩ = some (.bool x.whole) := u3
   have hmem := List.mem_of_getElem? hx
   have CA := Lib.hid (circ_any E HEE.out (by rw [← HN.out]; exact hE2) _ ce b0 b1 x As cs wo (HR.out.below HB.out) hNs (HEE.out x hmem) hlen (HAA.out x hmem))
   rw [← HN.out] at CA
   obtain ⟨r, hr⟩ : ∃ r, reachB E x.said x.at_ = r := ⟨_, rfl⟩
   rw [hr] at CA
   have HAT : Hid (atE E (fun x => reachB E x.said x.at_) k = r) := Lib.hid (by rw [atE_some hx]; exact hr)
   clear hx hxx hc hNs hlen u0 u1 u2 u3 hr hmem
   cases r with
   | true =>
    have RV : V = (k : Int) := by rw [HV.out]; exact fstN_yes (by rw [← HN.out]; exact hlt) HQ.out HAT.out
    subst RV
    go_wp2_with fail
    refine CA.out.mono ?_; rintro e w2 ⟨rfl, hb2⟩
    have HB2 := Lib.hid (below_over HB.out hb2)
    clear y0 y1 y2 y3 hb2
    go_wp2_with fail
    go_ret
    exact ⟨rfl, HB2.out⟩
   | false =>
    go_wp2_with fail
    refine CA.out.mono ?_; rintro e w2 ⟨rfl, hb2⟩
    have HB2 := Lib.hid (below_over HB.out hb2)
    clear y0 y1 y2 y3 hb2
    go_wp2_with fail
    go_roundw
    case rel => exact ⟨k + 1, by omega, by go_num, Lib.hid (fun i hi => by
     by_cases e : i = k
     ·rw [e]; exact HAT.out
     ·exact HQ.out i (by omega)), HB2⟩
    case measure => simp [intOf]; omega
  ·have RV : V = -1 := by rw [HV.out]; exact fstN_no (fun i hi => HQ.out i (by rw [← HN.out] at hi; omega))
   subst RV
   go_wp2_with fail
   go_ret
   exact ⟨rfl, HB.out⟩
set_option maxRecDepth 100000 in
set_option maxHeartbeats 8000000 in
theorem index_hid (E : List En) (hE : Valid E) (hE2 : E.length ≤ 1000000) (hA : ∀ x ∈ E, x.at_ < E.length) (Ae : Option Addr) (ce b0 b1 : Nat) (w : World) (hR : RowIn enR w Ae E) :
  Calls Tryz.prog 50 #[.slice Ae E.length ce, .func (.func 53) #[.agg #[.map (some b0), .map (some b1), .slice Ae E.length ce]] #[]] w fun e w' => e = .returned (.int .i64 (fstN (atE E (fun x => hidB E x.said)) E.length)) ∧ Below w.heap.size w w' := by
 have HR := Lib.hid hR
 obtain ⟨V, hV⟩ : ∃ V, V = fstN (atE E (fun x => hidB E x.said)) E.length := ⟨_, rfl⟩
 have HV := Lib.hid hV
 rw [← hV]
 obtain ⟨n, hn⟩ : ∃ n, n = E.length := ⟨_, rfl⟩
 have HN := Lib.hid hn
 have HEE := Lib.hid hE
 have HAA := Lib.hid hA
 rw [← hn] at hE2 ⊢
 clear hR hn hV hE hA
 go_enter Tryz.func50, Tryz.ntmps50
 go_wp2_with fail
 go_loopw [8] (fun iv wr => ∃ k : Nat, k ≤ n ∧ iv = .int .i64 k ∧ Hid (∀ i, i < k → atE E (fun x => hidB E x.said) i = false) ∧ Hid (Below w.heap.size w wr)) (fun iv _ => n - (intOf iv).toNat)
 case atStart => exact ⟨0, by omega, rfl, Lib.hid (fun i h => by omega), Lib.hid (Below.refl _ _)⟩
 case round =>
  obtain ⟨k, hk, rfl, HQ, HB⟩ := hrel
  obtain ⟨wo, rfl⟩ : ∃ wo : World, wo = wr := ⟨_, rfl⟩
  by_cases hlt : k < n
  ·have hx : E[k]? = some E[k] := List.getElem?_eq_getElem (by rw [← HN.out]; exact hlt)
   obtain ⟨x, hxx⟩ : ∃ x, x = E[k] := ⟨_, rfl⟩
   rw [← hxx] at hx
   obtain ⟨g, o, lv, rfl, hg, hc, As, cs, rfl, hNs, hlen⟩ := HR.out.below HB.out k x hx
   have u0 := hc 0 _ rfl
   have u1 := hc 1 _ rfl
   have u2 := hc 2 _ rfl
   have u3 := hc 3 _ rfl
   have y0 : wo.cell? ⟨g, o + k * 4, none⟩ = some (.int .i64 x.at_) := u0
   have y1 : wo.cell? ⟨g, o + k * 4 + 1, none⟩ = some (.int .i64 x.kind) := u1
   have y2 : wo.cell? ⟨g, o + k * 4 + 2, none⟩ = some (.slice As x.said.length cs) := u2
   have y3 : wo.cell? ⟨g, o + k * 4 + 3, none⟩ = some (.bool x.whole) := u3
   have hmem := List.mem_of_getElem? hx
   have CA := Lib.hid (hid_any E HEE.out (by rw [← HN.out]; exact hE2) _ ce b0 b1 x As cs wo (HR.out.below HB.out) hNs (HEE.out x hmem) hlen)
   rw [← HN.out] at CA
   obtain ⟨r, hr⟩ : ∃ r, hidB E x.said = r := ⟨_, rfl⟩
   rw [hr] at CA
   have HAT : Hid (atE E (fun x => hidB E x.said) k = r) := Lib.hid (by rw [atE_some hx]; exact hr)
   clear hx hxx hc hNs hlen u0 u1 u2 u3 hr hmem
   cases r with
   | true =>
    have RV : V = (k : Int) := by rw [HV.out]; exact fstN_yes (by rw [← HN.out]; exact hlt) HQ.out HAT.out
    subst RV
    go_wp2_with fail
    refine CA.out.mono ?_; rintro e w2 ⟨rfl, hb2⟩
    have HB2 := Lib.hid (below_over HB.out hb2)
    clear y0 y1 y2 y3 hb2
    go_wp2_with fail
    go_ret
    exact ⟨rfl, HB2.out⟩
   | false =>
    go_wp2_with fail
    refine CA.out.mono ?_; rintro e w2 ⟨rfl, hb2⟩
    have HB2 := Lib.hid (below_over HB.out hb2)
    clear y0 y1 y2 y3 hb2
    go_wp2_with fail
    go_roundw
    case rel => exact ⟨k + 1, by omega, by go_num, Lib.hid (fun i hi => by
     by_cases e : i = k
     ·rw [e]; exact HAT.out
     ·exact HQ.out i (by omega)), HB2⟩
    case measure => simp [intOf]; omega
  ·have RV : V = -1 := by rw [HV.out]; exact fstN_no (fun i hi => HQ.out i (by rw [← HN.out] at hi; omega))
   subst RV
   go_wp2_with fail
   go_ret
   exact ⟨rfl, HB.out⟩
end Go.Proofs.YtcdmgcgjonndpaaGreat

/-  -/
namespace Go.Proofs.YtcdmgcgjonndpaaGreat
open Go.RowKit
open Go.Sort
open M
theorem csmall_b (s : ByteArray) (w : World) (hs : s.size ≤ 9223372036854775807) : Calls Tryz.prog 71 #[.string s] w fun e w' => e = .returned (.bool (smallB s.data.toList)) ∧ Below w.heap.size w w' :=
  (small_any s w hs).mono fun e w' ⟨h, hw⟩ => ⟨h, by rw [← hw]; exact Below.refl _ _⟩
theorem cgreat_b (s : ByteArray) (w : World) (hs : s.size ≤ 9223372036854775807) : Calls Tryz.prog 110 #[.string s] w fun e w' => e = .returned (.bool (greatB s.data.toList)) ∧ Below w.heap.size w w' :=
  (great_any s w hs).mono fun e w' ⟨h, hw⟩ => ⟨h, by rw [← hw]; exact Below.refl _ _⟩
set_option maxRecDepth 100000 in
set_option maxHeartbeats 4000000 in
theorem cmayNotI_any (x : Im) (w : World) (z0 : x.pkg.size ≤ 9223372036854775807) (z1 : x.mod.size ≤ 9223372036854775807) (z2 : x.asn.size ≤ 9223372036854775807) :
    Calls Tryz.prog 108 #[.agg #[.string x.pkg, .int .i64 x.major, .string x.mod, .string x.asn]] w fun e w' => e = .returned (.bool (!mayI x)) ∧ Below w.heap.size w w' := by
  obtain ⟨w0, hw0⟩ : ∃ w0, w0 = w.alloc (.cells #[.string x.pkg, .int .i64 x.major, .string x.mod, .string x.asn] 73) := ⟨_, rfl⟩
  have B0 : Below w.heap.size w w0 := by rw [hw0]; exact below_new (Below.refl _ _) _
  have O0 : w0.heap[w.heap.size]? = some (.cells #[.string x.pkg, .int .i64 x.major, .string x.mod, .string x.asn] 73 (0, 0)) := by rw [hw0]; exact heap_alloc_new w _
  have hl0 : w.heap.size < w0.heap.size := by rw [hw0]; simp
  obtain ⟨V, hV⟩ : ∃ V, (!mayI x) = V := ⟨_, rfl⟩
  rw [hV]
  have HV : Hid ((!(smallB x.pkg.data.toList && (smallB x.mod.data.toList && (smallB x.asn.data.toList && (decide (1 ≤ x.major) && decide (x.major ≤ 999999999)))))) = V) := Lib.hid hV
  have S0 := Lib.hid (fun w => csmall_b x.pkg w z0)
  have S1 := Lib.hid (fun w => csmall_b x.mod w z1)
  have S2 := Lib.hid (fun w => csmall_b x.asn w z2)
  generalize smallB x.pkg.data.toList = b0 at S0 HV
  generalize smallB x.mod.data.toList = b1 at S1 HV
  generalize smallB x.asn.data.toList = b2 at S2 HV
  have x0 := Lib.cell_of_heap O0 0
  simp at x0
  have HO := Lib.hid O0
  have HB := Lib.hid B0
  have HW0 := Lib.hid hw0
  clear hw0 B0 O0 hV z0 z1 z2
  go_enter Tryz.func108, Tryz.ntmps108
  go_upto_region 1 with fail
  rw [← HW0.out]
  clear HW0
  go_wp2_with fail
  refine (S0.out _).mono ?_; rintro e w1 ⟨rfl, hb1⟩
  have O1 := (hb1.block _ hl0).trans HO.out
  have x1 := Lib.cell_of_heap O1 1
  have x2 := Lib.cell_of_heap O1 2
  simp at x1 x2
  have HB1 := Lib.hid (below_over HB.out hb1)
  have hl1 := Nat.lt_of_lt_of_le hl0 hb1.size
  clear x0 hb1 HO HB S0
  cases b0 with
  | false =>
    go_wp2_with fail
    go_ret
    exact ⟨by rw [← HV.out]; rfl, HB1.out⟩
  | true =>
  by_cases hm : x.major < 1
  · have e1 : decide (1 ≤ x.major) = false := by simp; omega
    go_wp2_with fail
    go_ret
    exact ⟨by rw [← HV.out, e1]; simp, HB1.out⟩
  by_cases hm2 : 999999999 < x.major
  · have e1 : decide (x.major ≤ 999999999) = false := by simp; omega
    go_wp2_with fail
    go_ret
    exact ⟨by rw [← HV.out, e1]; simp, HB1.out⟩
  have HV1 : Hid ((!(b1 && b2)) = V) := Lib.hid (by
    rw [← HV.out, decide_eq_true (show 1 ≤ x.major by omega), decide_eq_true (show x.major ≤ 999999999 by omega)]; simp)
  clear HV
  go_wp2_with fail
  refine (S1.out _).mono ?_; rintro e w2 ⟨rfl, hb2⟩
  have O2 := (hb2.block _ hl1).trans O1
  have x3 := Lib.cell_of_heap O2 3
  simp at x3
  have HB2 := Lib.hid (below_over HB1.out hb2)
  clear x1 x2 hb2 O1 O2 S1 HB1
  cases b1 with
  | false =>
    go_wp2_with fail
    go_ret
    exact ⟨by rw [← HV1.out]; rfl, HB2.out⟩
  | true =>
    go_wp2_with fail
    refine (S2.out _).mono ?_; rintro e w3 ⟨rfl, hb3⟩
    have HB3 := Lib.hid (below_over HB2.out hb3)
    clear hb3 x3 S2 HB2
    go_wp2_with fail
    go_ret
    exact ⟨by rw [← HV1.out]; cases b2 <;> simp <;> omega, HB3.out⟩
end Go.Proofs.YtcdmgcgjonndpaaGreat

/-  -/
namespace Go.Proofs.YtcdmgcgjonndpaaGreat
open Go.RowKit
open Go.Sort
open M
set_option maxRecDepth 100000 in
set_option maxHeartbeats 4000000 in
theorem indexI_any (A : Option Addr) (c n : Nat) (xs : List Im) (w : World) (hn : xs.length = n) (hz : n ≤ 9223372036854775807) (hS : RowIn imR w A xs) :
    Calls Tryz.prog 114 #[.slice A n c, .func (.func 108) #[] #[]] w fun e w' => ∃ r : Int, e = .returned (.int .i64 r) ∧ decide (0 ≤ r) = !xs.all mayI ∧ Below w.heap.size w w' := by
  have HS := Lib.hid hS
  have HN := Lib.hid hn
  clear hS hn
  go_enter Tryz.func114, Tryz.ntmps114
  go_wp2_with fail
  go_loopw [8] (fun i wr => ∃ k : Nat, k ≤ n ∧ i = .int .i64 k ∧ Hid ((xs.take k).all mayI = true) ∧ Below w.heap.size w wr) (fun i _ => n - (intOf i).toNat)
  case atStart => exact ⟨0, by omega, rfl, Lib.hid (by simp), Below.refl _ _⟩
  case round =>
    obtain ⟨k, hk, rfl, HP, hb⟩ := hrel
    obtain ⟨wo, rfl⟩ : ∃ wo : World, wo = wr := ⟨_, rfl⟩
    by_cases hlt : k < n
    · obtain ⟨x, hx⟩ : ∃ x, xs[k]? = some x := ⟨_, List.getElem?_eq_getElem (by rw [HN.out]; exact hlt)⟩
      obtain ⟨g, o, rfl, -, a0, a1, a2, a3, y1, y2, y3⟩ := (HS.out.below hb).im hx
      have IM := Lib.hid (cmayNotI_any x wo y1 y2 y3)
      have HX := Lib.hid hx
      clear hx y1 y2 y3
      obtain ⟨q, hq⟩ : ∃ q, mayI x = q := ⟨_, rfl⟩
      rw [hq] at IM
      have HQ := Lib.hid hq
      clear hq
      cases q with
      | false =>
        have R : Hid (decide (0 ≤ (k : Int)) = !xs.all mayI) := Lib.hid (by
          have : xs.all mayI = false := by rw [List.all_eq_false]; exact ⟨x, List.mem_of_getElem? HX.out, by rw [HQ.out]; decide⟩
          rw [this]; simp)
        go_wp2_with fail
        refine IM.out.mono ?_; rintro e w2 ⟨rfl, hb2⟩
        have hb3 := below_over hb hb2
        clear a0 a1 a2 a3 hb hb2
        go_wp2_with fail
        go_ret
        exact ⟨_, rfl, R.out, hb3⟩
      | true =>
        go_wp2_with fail
        refine IM.out.mono ?_; rintro e w2 ⟨rfl, hb2⟩
        have hb3 := below_over hb hb2
        clear a0 a1 a2 a3 hb hb2
        go_wp2_with fail
        go_roundw
        case rel => exact ⟨k + 1, by omega, by go_num, Lib.hid (by rw [all_snoc _ _ _ _ HX.out, HP.out, HQ.out]; rfl), hb3⟩
        case measure => simp [intOf]; omega
    · have R : Hid (decide (0 ≤ (-1 : Int)) = !xs.all mayI) := Lib.hid (by
        have h := HP.out
        rw [List.take_of_length_le (by rw [HN.out]; omega)] at h
        rw [h]; rfl)
      go_wp2_with fail
      go_ret
      exact ⟨_, rfl, R.out, hb⟩
set_option maxRecDepth 100000 in
set_option maxHeartbeats 1000000 in
theorem containsI_any (A : Option Addr) (c n : Nat) (xs : List Im) (w : World) (hn : xs.length = n) (hz : n ≤ 9223372036854775807) (hS : RowIn imR w A xs) :
    Calls Tryz.prog 78 #[.slice A n c, .func (.func 108) #[] #[]] w fun e w' => e = .returned (.bool (!xs.all mayI)) ∧ Below w.heap.size w w' := by
  have HC := Lib.hid (indexI_any A c n xs w hn hz hS)
  clear hn hS
  go_enter Tryz.func78, Tryz.ntmps78
  go_wp2_with fail
  refine HC.out.mono ?_; rintro e w2 ⟨r, rfl, hr, hb2⟩
  have HR := Lib.hid hr
  clear hr HC
  go_wp2_with fail
  go_ret
  exact ⟨ret_bool HR.out.symm, hb2⟩
set_option maxRecDepth 100000 in
set_option maxHeartbeats 1000000 in
theorem cmayI_any (A : Option Addr) (c n : Nat) (xs : List Im) (w : World) (hn : xs.length = n) (hz : n ≤ 9223372036854775807) (hS : RowIn imR w A xs) :
    Calls Tryz.prog 72 #[.slice A n c] w fun e w' => e = .returned (.bool (decide (n ≤ 20) && xs.all mayI)) ∧ Below w.heap.size w w' := by
  have HC := Lib.hid (containsI_any A c n xs w hn hz hS)
  clear hn hS
  generalize xs.all mayI = q at HC
  by_cases h : n ≤ 20
  · have e1 : (n : Int) ≤ 20 := by omega
    have e2 : decide (n ≤ 20) = true := by simp [h]
    rw [e2]
    clear e2 h
    go_enter Tryz.func72, Tryz.ntmps72
    go_wp2_with fail
    refine HC.out.mono ?_; rintro e w2 ⟨rfl, hb2⟩
    cases q
    all_goals (go_wp2_with fail; go_ret; exact ⟨rfl, hb2⟩)
  · have e1 : ¬ (n : Int) ≤ 20 := by omega
    have e2 : decide (n ≤ 20) = false := by simp; omega
    rw [e2]
    clear e2 h HC
    go_enter Tryz.func72, Tryz.ntmps72
    go_wp2_with fail
    go_ret
    exact ⟨rfl, Below.refl _ _⟩
end Go.Proofs.YtcdmgcgjonndpaaGreat
