/-
  Several texts in one: The code's type of fields. · The code's record and variant; so its read, whatever begins. · The code's read, whatever begins.
-/
import Derived.Test.YtpfoclpgcbjjoaaGreatDoorJ10
/- The code's type of fields. -/
namespace Go.Proofs.YtpfoclpgcbjjoaaGreatDoor
open Go.RowKit
open Go.Sort
open M

/-- While the code makes a type of fields: so many names, so many types. -/
structure OfI (w : World) (B g : Nat) (k : Int) (P : List Nt) (j5 j6 : Nat) (A5 : Option Addr) (c5 : Nat) (A6 : Option Addr) (c6 : Nat) (wr : World) : Prop where
  gr : w.grownBy wr (some g)
  row : ∀ i x, P[i]? = some x → ∀ q u, x.1.enc[q]? = some u → wr.cell? ⟨g, 0 + i * 8 + q, none⟩ = some u
  box : wr.heap[B]? = some (.cells #[.int .i64 k, .string ⟨#[]⟩, .int .i64 0, .string ⟨#[]⟩, .string ⟨#[]⟩, .slice A5 j5 c5, .slice A6 j6 c6] 42 (0, 0))
  res : Bx w.heap.size wr
  names : wr.ownsRow (B + 1) 9 1 (.slice A5 j5 c5) j5 ((P.take j5).map fun x => .string x.1.s)
  subs : wr.ownsRow (B + 1) 42 7 (.slice A6 j6 c6) j6 ((P.take j6).map fun x => x.1.ty).flatten
  apart : ∀ b, (Value.slice A5 j5 c5).ownBlock = some b → (Value.slice A6 j6 c6).ownBlock ≠ some b
  gB : g < w.heap.size ∧ w.heap.size < B

theorem OfI.keep {w : World} {B g : Nat} {k : Int} {P : List Nt} {j5 j6 : Nat} {A5 : Option Addr} {c5 : Nat} {A6 : Option Addr} {c6 : Nat} {wr wf : World} (h : OfI w B g k P j5 j6 A5 c5 A6 c6 wr) (hb : Below wr.heap.size wr wf) : OfI w B g k P j5 j6 A5 c5 A6 c6 wf := by
  have hB := (Array.getElem?_eq_some_iff.1 h.box).1
  have hgB := h.gB
  exact ⟨⟨hb.os.trans h.gr.os, hb.tape.trans h.gr.tape, hb.output.trans h.gr.output, Nat.le_trans h.gr.size hb.size, fun b hlt hne => (hb.block b (Nat.lt_of_lt_of_le hlt h.gr.size)).trans (h.gr.block b hlt hne)⟩,
    fun i x hx q u hu => (hb.cell (p := ⟨g, _, none⟩) (by show g < wr.heap.size; omega)).trans (h.row i x hx q u hu), (hb.block B hB).trans h.box, (hb.block _ (by omega)).trans h.res,
    own_from h.names (fun b _ hlt => hb.block b hlt), own_from h.subs (fun b _ hlt => hb.block b hlt), h.apart, h.gB⟩

theorem OfI.addName {w : World} {B g : Nat} {k : Int} {P : List Nt} {j5 j6 : Nat} {A5 : Option Addr} {c5 : Nat} {A6 : Option Addr} {c6 : Nat} {wf w5 : World} {o : Obj} {gb cap : Nat} {x : Nt} (h : OfI w B g k P j5 j6 A5 c5 A6 c6 wf) (hx : P[j5]? = some x)
    (hown : w5.ownsRow (B + 1) 9 1 (.slice (some ⟨gb, 0, none⟩) (j5 + 1) cap) (j5 + 1) (((P.take j5).map fun x => .string x.1.s) ++ [.string x.1.s])) (hgrow : (wf.alloc o).grownBy w5 (Value.slice A5 j5 c5).ownBlock)
    (hat : (Value.slice A5 j5 c5).ownBlock = some gb ∨ gb = (wf.alloc o).heap.size) :
    OfI w B g k P (j5 + 1) j6 (some ⟨gb, 0, none⟩) cap A6 c6 (w5.setCell ⟨B, 5, none⟩ (.slice (some ⟨gb, 0, none⟩) (j5 + 1) cap)) ∧
    (∀ b, b < wf.heap.size → b ≠ B → (Value.slice A5 j5 c5).ownBlock ≠ some b → (w5.setCell ⟨B, 5, none⟩ (.slice (some ⟨gb, 0, none⟩) (j5 + 1) cap)).heap[b]? = wf.heap[b]?) ∧
    w5.cell? ⟨B, 5, none⟩ = some (.slice A5 j5 c5) ∧ w5.frozen? ⟨B, 5, none⟩ = false := by
  have hB := (Array.getElem?_eq_some_iff.1 h.box).1
  obtain ⟨hg1, hg2⟩ := h.gB
  have hsz : (wf.alloc o).heap.size = wf.heap.size + 1 := by simp
  have hsz5 := hgrow.size
  have hlow : ∀ b, (Value.slice A5 j5 c5).ownBlock = some b → B + 1 ≤ b ∧ b < wf.heap.size := fun b e => h.names.lt b e
  have hold : ∀ b, b < wf.heap.size → (Value.slice A5 j5 c5).ownBlock ≠ some b → w5.heap[b]? = wf.heap[b]? := fun b hb hne => by
    rw [hgrow.block b (by omega) (fun e => hne e.symm)]
    exact Lib.alloc_old wf o b hb
  have hfar : ∀ b, b ≠ B → (w5.setCell ⟨B, 5, none⟩ (.slice (some ⟨gb, 0, none⟩) (j5 + 1) cap)).heap[b]? = w5.heap[b]? := fun b hb => Below.heap_setCell _ _ _ _ hb
  have hboth : ∀ b, b < wf.heap.size → b ≠ B → (Value.slice A5 j5 c5).ownBlock ≠ some b → (w5.setCell ⟨B, 5, none⟩ (.slice (some ⟨gb, 0, none⟩) (j5 + 1) cap)).heap[b]? = wf.heap[b]? := fun b hb h1 h2 => (hfar b h1).trans (hold b hb h2)
  have hlowB : ∀ b, b ≤ B → (Value.slice A5 j5 c5).ownBlock ≠ some b := fun b hb e => by have := hlow b e; omega
  have hbox5 := (hold B hB (hlowB B (Nat.le_refl _))).trans h.box
  refine ⟨⟨⟨?_, ?_, ?_, ?_, ?_⟩, ?_, ?_, ?_, ?_, ?_, ?_, h.gB⟩, hboth, Lib.cell_of_heap hbox5 5, Lib.frozen_of_heap hbox5 5⟩
  · exact hgrow.os.trans h.gr.os
  · exact hgrow.tape.trans h.gr.tape
  · exact hgrow.output.trans h.gr.output
  · have := h.gr.size; simp; omega
  · intro b hlt hne
    have := h.gr.size
    exact (hboth b (by omega) (by omega) (hlowB b (by omega))).trans (h.gr.block b hlt hne)
  · intro i y hy q u hu
    rw [World.cell?_of_block (w := wf) (a := ⟨g, _, none⟩) (hboth g (by omega) (by omega) (hlowB g (by omega)))]
    exact h.row i y hy q u hu
  · have := Joins.block_setCell (i := 5) hbox5 (.slice (some ⟨gb, 0, none⟩) (j5 + 1) cap); simpa using this
  · exact (hboth _ (by omega) (by omega) (hlowB _ (by omega))).trans h.res
  · have e : (P.take (j5 + 1)).map (fun x => Value.string x.1.s) = ((P.take j5).map fun x => .string x.1.s) ++ [.string x.1.s] := by
      have hj := (List.getElem?_eq_some_iff.1 hx)
      rw [List.take_add_one, hx]; simp
    rw [e]
    refine own_from hown fun b hb hlt => hfar b (by omega)
  · refine ⟨h.subs.1, ?_⟩
    rcases h.subs.2 with e | ⟨g6, cap6, cur6, hv, hB6, hg6, rest⟩
    · exact .inl e
    · refine .inr ⟨g6, cap6, cur6, hv, hB6, (hboth g6 (Array.getElem?_eq_some_iff.1 hg6).1 (by omega) fun e => ?_).trans hg6, rest⟩
      exact h.apart g6 e (by rw [hv]; rfl)
  · intro b hb
    simp [Value.ownBlock] at hb
    subst hb
    rcases hat with e | e
    · exact h.apart gb e
    · intro e2
      have := (h.subs.lt gb e2).2
      omega
theorem OfI.addSub {w : World} {B g : Nat} {k : Int} {P : List Nt} {j5 j6 : Nat} {A5 : Option Addr} {c5 : Nat} {A6 : Option Addr} {c6 : Nat} {wf w5 : World} {o : Obj} {gb cap : Nat} {x : Nt} (h : OfI w B g k P j5 j6 A5 c5 A6 c6 wf) (hx : P[j6]? = some x)
    (hown : w5.ownsRow (B + 1) 42 7 (.slice (some ⟨gb, 0, none⟩) (j6 + 1) cap) (j6 + 1) (((P.take j6).map fun x => x.1.ty).flatten ++ x.1.ty)) (hgrow : (wf.alloc o).grownBy w5 (Value.slice A6 j6 c6).ownBlock)
    (hat : (Value.slice A6 j6 c6).ownBlock = some gb ∨ gb = (wf.alloc o).heap.size) :
    OfI w B g k P j5 (j6 + 1) A5 c5 (some ⟨gb, 0, none⟩) cap (w5.setCell ⟨B, 6, none⟩ (.slice (some ⟨gb, 0, none⟩) (j6 + 1) cap)) ∧
    w5.cell? ⟨B, 6, none⟩ = some (.slice A6 j6 c6) ∧ w5.frozen? ⟨B, 6, none⟩ = false := by
  have hB := (Array.getElem?_eq_some_iff.1 h.box).1
  obtain ⟨hg1, hg2⟩ := h.gB
  have hsz : (wf.alloc o).heap.size = wf.heap.size + 1 := by simp
  have hsz5 := hgrow.size
  have hlow : ∀ b, (Value.slice A6 j6 c6).ownBlock = some b → B + 1 ≤ b ∧ b < wf.heap.size := fun b e => h.subs.lt b e
  have hold : ∀ b, b < wf.heap.size → (Value.slice A6 j6 c6).ownBlock ≠ some b → w5.heap[b]? = wf.heap[b]? := fun b hb hne => by
    rw [hgrow.block b (by omega) (fun e => hne e.symm)]
    exact Lib.alloc_old wf o b hb
  have hfar : ∀ b, b ≠ B → (w5.setCell ⟨B, 6, none⟩ (.slice (some ⟨gb, 0, none⟩) (j6 + 1) cap)).heap[b]? = w5.heap[b]? := fun b hb => Below.heap_setCell _ _ _ _ hb
  have hboth : ∀ b, b < wf.heap.size → b ≠ B → (Value.slice A6 j6 c6).ownBlock ≠ some b → (w5.setCell ⟨B, 6, none⟩ (.slice (some ⟨gb, 0, none⟩) (j6 + 1) cap)).heap[b]? = wf.heap[b]? := fun b hb h1 h2 => (hfar b h1).trans (hold b hb h2)
  have hlowB : ∀ b, b ≤ B → (Value.slice A6 j6 c6).ownBlock ≠ some b := fun b hb e => by have := hlow b e; omega
  have hbox5 := (hold B hB (hlowB B (Nat.le_refl _))).trans h.box
  refine ⟨⟨⟨?_, ?_, ?_, ?_, ?_⟩, ?_, ?_, ?_, ?_, ?_, ?_, h.gB⟩, Lib.cell_of_heap hbox5 6, Lib.frozen_of_heap hbox5 6⟩
  · exact hgrow.os.trans h.gr.os
  · exact hgrow.tape.trans h.gr.tape
  · exact hgrow.output.trans h.gr.output
  · have := h.gr.size; simp; omega
  · intro b hlt hne
    have := h.gr.size
    exact (hboth b (by omega) (by omega) (hlowB b (by omega))).trans (h.gr.block b hlt hne)
  · intro i y hy q u hu
    rw [World.cell?_of_block (w := wf) (a := ⟨g, _, none⟩) (hboth g (by omega) (by omega) (hlowB g (by omega)))]
    exact h.row i y hy q u hu
  · have := Joins.block_setCell (i := 6) hbox5 (.slice (some ⟨gb, 0, none⟩) (j6 + 1) cap); simpa using this
  · exact (hboth _ (by omega) (by omega) (hlowB _ (by omega))).trans h.res
  · refine ⟨h.names.1, ?_⟩
    rcases h.names.2 with e | ⟨g6, cap6, cur6, hv, hB6, hg6, rest⟩
    · exact .inl e
    · refine .inr ⟨g6, cap6, cur6, hv, hB6, (hboth g6 (Array.getElem?_eq_some_iff.1 hg6).1 (by omega) fun e => ?_).trans hg6, rest⟩
      exact h.apart g6 (by rw [hv]; rfl) e
  · have e : ((P.take (j6 + 1)).map (fun x => x.1.ty)).flatten = ((P.take j6).map fun x => x.1.ty).flatten ++ x.1.ty := by
      rw [List.take_add_one, hx]; simp
    rw [e]
    refine own_from hown fun b hb hlt => hfar b (by omega)
  · intro b hb e
    simp [Value.ownBlock] at e
    subst e
    rcases hat with e | e
    · exact h.apart gb hb e
    · have := (h.names.lt gb hb).2
      omega
/-- All of them: the type, in the result's box. -/
theorem OfI.seal {w : World} {B g lo n cap : Nat} {k : Int} {P P' : List Nt} {A5 : Option Addr} {c5 : Nat} {A6 : Option Addr} {c6 : Nat} {wr : World} (h : OfI w B g k P' n n A5 c5 A6 c6 wr) (hp : P'.Perm P) (hR : NmR lo P n (.slice (some ⟨g, 0, none⟩) n cap) w) (hz : n ≤ 1000000) :
    (∀ i v, ([.int .i64 k, .string ⟨#[]⟩, .int .i64 0, .string ⟨#[]⟩, .string ⟨#[]⟩, .slice A5 n c5, .slice A6 n c6] : List Value)[i]? = some v → (wr.setRow w.heap.size #[.int .i64 k, .string ⟨#[]⟩, .int .i64 0, .string ⟨#[]⟩, .string ⟨#[]⟩, .slice A5 n c5, .slice A6 n c6]).cell? ⟨w.heap.size, i, none⟩ = some v) ∧
    TyAt (strike (· < lo) (wr.setRow w.heap.size #[.int .i64 k, .string ⟨#[]⟩, .int .i64 0, .string ⟨#[]⟩, .string ⟨#[]⟩, .slice A5 n c5, .slice A6 n c6])) [.int .i64 k, .string ⟨#[]⟩, .int .i64 0, .string ⟨#[]⟩, .string ⟨#[]⟩, .slice A5 n c5, .slice A6 n c6] (.mk k ⟨#[]⟩ 0 ⟨#[]⟩ ⟨#[]⟩ ((fdOf P').map (·.1)) ((fdOf P').map (·.2))) ∧
    w.grownBy (wr.setRow w.heap.size #[.int .i64 k, .string ⟨#[]⟩, .int .i64 0, .string ⟨#[]⟩, .string ⟨#[]⟩, .slice A5 n c5, .slice A6 n c6]) (some g) := by
  obtain ⟨hg1, hg2⟩ := h.gB
  have hlo : lo ≤ g := (hR.own.lt g rfl).1
  have hlen : P'.length = n := by rw [hp.length_eq]; exact hR.len
  have ht : P'.take n = P' := by rw [← hlen]; exact List.take_length
  generalize hW : wr.setRow w.heap.size #[.int .i64 k, .string ⟨#[]⟩, .int .i64 0, .string ⟨#[]⟩, .string ⟨#[]⟩, .slice A5 n c5, .slice A6 n c6] = W
  have hoth : ∀ b, b ≠ w.heap.size → W.heap[b]? = wr.heap[b]? := fun b hb => by rw [← hW]; exact setRow_other wr w.heap.size b _ hb
  have hszW : W.heap.size = wr.heap.size := by rw [← hW]; simp
  have hgr : w.grownBy W (some g) := by
    have h0 := h.gr
    refine ⟨?_, ?_, ?_, by rw [hszW]; exact h0.size, fun b hlt hne => (hoth b (by omega)).trans (h0.block b hlt hne)⟩
    · rw [← hW]; exact h0.os
    · rw [← hW]; exact h0.tape
    · rw [← hW]; exact h0.output
  have hN := h.names
  have hS := h.subs
  rw [ht] at hN hS
  refine ⟨by rw [← hW]; exact cell7 (setRow_heap wr w.heap.size _ _ _ _ h.res), ?_, hgr⟩
  have hl5 : ∀ b, (Value.slice A5 n c5).ownBlock = some b → w.heap.size ≤ b := fun b e => by have := (hN.lt b e).1; omega
  have hl6 : ∀ b, (Value.slice A6 n c6).ownBlock = some b → w.heap.size ≤ b := fun b e => by have := (hS.lt b e).1; omega
  have GR : GrR lo ((fdOf P').map (·.1)) n ((fdOf P').map (·.2)) n (.slice A5 n c5) (.slice A6 n c6) W := by
    refine ⟨by simp [fdOf, hlen], by simp [fdOf, hlen], ?_, ?_, ⟨P'.map (fun x => x.1.ty), by simp [hlen], fun l hl => ?_, own_lower (own_from hS fun b hb hlt => hoth b (by omega)) (by omega), fun i l t hil hit => ?_⟩, h.apart⟩
    · have e : ((fdOf P').map (·.1)).map Value.string = P'.map fun x => .string x.1.s := by simp [fdOf, List.map_map, Function.comp_def]
      rw [e]
      exact own_lower (own_from hN fun b hb hlt => hoth b (by omega)) (by omega)
    · intro s hs
      simp only [fdOf, List.map_map, List.mem_map] at hs
      obtain ⟨x, hx, rfl⟩ := hs
      have := hR.szs x (hp.subset hx)
      show x.1.s.size ≤ _
      omega
    · obtain ⟨x, -, rfl⟩ := List.mem_map.1 hl
      rfl
    · rw [List.getElem?_map] at hil
      simp only [fdOf, List.map_map, List.getElem?_map] at hit
      cases hx : P'[i]? with
      | none => rw [hx] at hil; cases hil
      | some x =>
        rw [hx] at hil hit
        simp at hil hit
        subst hil hit
        have hT := hR.trees x (hp.subset (List.mem_of_getElem? hx))
        refine TyAt.move hT hgr.size fun b hlt hSb => ⟨?_, hgr.block b hlt fun e => hSb (.inr ?_)⟩
        · rintro (e | e | e)
          · exact hSb (.inl e)
          · have := hl5 b e; omega
          · have := hl6 b e; omega
        · simp only [Option.some.injEq] at e; subst e; rfl
  exact GR.done k (Nat.le_refl _) (by omega) (by omega)

theorem str1_info : (Tryz.prog.info? 9).map (fun i => (i.zero, i.size, i.bytes)) = some (some (.string ⟨#[]⟩), 1, 16) := by kernel_rfl

set_option maxRecDepth 100000 in
set_option maxHeartbeats 4000000 in
theorem ofF_any {lo : Nat} {P : List Nt} {n : Nat} {v : Value} {w : World} (hR : NmR lo P n v w) (h1 : 1 ≤ n) (hz : n ≤ 1000) (k : Int) :
    Calls Tryz.prog 199 #[.int .i64 k, v] w fun e w' => ∃ g cap P' l, v = .slice (some ⟨g, 0, none⟩) n cap ∧ lo ≤ g ∧ e = .returned (.agg l) ∧ P'.Perm P ∧ (fdOf P').Pairwise leF ∧
      TyAt (strike (· < lo) w') l.toList (.mk k ⟨#[]⟩ 0 ⟨#[]⟩ ⟨#[]⟩ ((fdOf P').map (·.1)) ((fdOf P').map (·.2))) ∧ w.grownBy w' (some g) := by
  obtain ⟨w0, hw0⟩ : ∃ w0, w0 = w.alloc (.cells #[.int .i64 0, .string ⟨#[]⟩, .int .i64 0, .string ⟨#[]⟩, .string ⟨#[]⟩, .slice none 0 0, .slice none 0 0] 42) := ⟨_, rfl⟩
  have B0 : Below w.heap.size w w0 := by rw [hw0]; exact below_new (Below.refl _ _) _
  have X0 : Bx w.heap.size w0 := by rw [hw0]; exact heap_alloc_new w _
  have s0 : w0.heap.size = w.heap.size + 1 := by rw [hw0]; simp
  have SN := Lib.hid (sort_named (hR.keep B0.size (fun b _ hlt => B0.block b hlt)) h1 (by omega))
  have HR := Lib.hid hR
  obtain ⟨A0, cap0, rfl, -⟩ := hR.cell
  have HB0 := Lib.hid B0
  have HX0 := Lib.hid X0
  have HS0 := Lib.hid s0
  have HW0 := Lib.hid hw0
  clear hR hw0 B0 X0 s0
  go_enter Tryz.func199, Tryz.ntmps199
  go_upto_region 1 with fail
  rw [← HW0.out]
  go_wp2_with fail
  refine SN.out.mono ?_
  rintro e w1 ⟨rfl, g, cap, P', hv, hlo, hg0, hgr1, hperm, hsort, hcells⟩
  simp only [Value.slice.injEq, true_and] at hv
  obtain ⟨rfl, rfl⟩ := hv
  have hs0 := HS0.out
  have hgw : g < w.heap.size := by
    have := (HR.out.own.lt g rfl).2
    exact this
  have hs1 : w0.heap.size ≤ w1.heap.size := hgr1.size
  obtain ⟨w2, hw2⟩ : ∃ w2, w2 = w1.alloc (.cells #[.int .i64 k, .string ⟨#[]⟩, .int .i64 0, .string ⟨#[]⟩, .string ⟨#[]⟩, .slice none 0 0, .slice none 0 0] 42) := ⟨_, rfl⟩
  have B2 : Below w1.heap.size w1 w2 := by rw [hw2]; exact below_new (Below.refl _ _) _
  have I0 : Hid (OfI w w1.heap.size g k P' 0 0 none 0 none 0 w2) := Lib.hid (by
    have b0 := HB0.out
    refine ⟨⟨?_, ?_, ?_, ?_, ?_⟩, ?_, ?_, ?_, World.ownsRow_nil _ _ _ _, World.ownsRow_nil _ _ _ _, fun b h => by simp [Value.ownBlock] at h, hgw, by omega⟩
    · exact B2.os.trans (hgr1.os.trans b0.os)
    · exact B2.tape.trans (hgr1.tape.trans b0.tape)
    · exact B2.output.trans (hgr1.output.trans b0.output)
    · have := B2.size; omega
    · intro b hlt hne
      exact (B2.block b (by omega)).trans ((hgr1.block b (by omega) hne).trans (b0.block b hlt))
    · intro i x hx q u hu
      exact (B2.cell (p := ⟨g, _, none⟩) (by show g < w1.heap.size; omega)).trans (hcells i x hx q u hu)
    · rw [hw2]; exact heap_alloc_new w1 _
    · exact (B2.block _ (by omega)).trans ((hgr1.block _ (by omega) (fun e => by simp only [Option.some.injEq] at e; omega)).trans HX0.out))
  have hlen' : P'.length = n := by rw [hperm.length_eq]; exact HR.out.len
  have HLEN := Lib.hid hlen'
  have HPS := Lib.hid (⟨hperm, hsort, hlo⟩ : P'.Perm P ∧ (fdOf P').Pairwise leF ∧ lo ≤ g)
  have HW2 := Lib.hid hw2
  obtain ⟨B, hB⟩ : ∃ B, w1.heap.size = B := ⟨_, rfl⟩
  have HB := Lib.hid hB
  have hBw : w.heap.size < B := by omega
  rw [hB] at I0
  clear hgr1 hcells hs0 hs1 hw2 B2 hperm hsort hlen' SN HX0 HB0 hlo hB
  go_upto_region 3 with fail
  rw [← HW2.out, HB.out]
  go_wp2_with fail
  go_loopw [14] (fun i wr => ∃ (j : Nat) (A5 : Option Addr) (c5 : Nat) (A6 : Option Addr) (c6 : Nat), j ≤ n ∧ i = .int .i64 j ∧ Hid (OfI w B g k P' j j A5 c5 A6 c6 wr)) (fun i _ => n - (intOf i).toNat)
  case atStart => exact ⟨0, none, 0, none, 0, by omega, rfl, I0⟩
  case round =>
    obtain ⟨j, A5, c5, A6, c6, hj, rfl, HI⟩ := hrel
    obtain ⟨wo, rfl⟩ : ∃ wo : World, wo = wr := ⟨_, rfl⟩
    have hBo := (Array.getElem?_eq_some_iff.1 HI.out.box).1
    by_cases hlt : j < n
    · obtain ⟨x, hx⟩ : ∃ x, P'[j]? = some x := ⟨_, List.getElem?_eq_getElem (by rw [HLEN.out]; exact hlt)⟩
      have cc := HI.out.row j x hx
      obtain ⟨gg, hgg⟩ : ∃ gg : Nat, gg = 0 := ⟨_, rfl⟩
      have h0 : wo.cell? ⟨g, 0 + j * 8, none⟩ = some (.string x.1.s) := cc 0 _ rfl
      have h1' := cc 1 _ rfl
      have h2' := cc 2 _ rfl
      have h3' := cc 3 _ rfl
      have h4' := cc 4 _ rfl
      have h5' := cc 5 _ rfl
      have h6' := cc 6 _ rfl
      have h7' := cc 7 _ rfl
      rw [Nat.zero_add] at h0 h1' h2' h3' h4' h5' h6' h7'
      obtain ⟨wf, hwf⟩ : ∃ wf, wf = wo.alloc (.cells #[.string x.1.s, .int .i64 x.1.k, .string x.1.p, .int .i64 x.1.m, .string x.1.d, .string x.1.n, .slice x.1.A5 x.1.n5 x.1.c5, .slice x.1.A6 x.1.n6 x.1.c6] 238) := ⟨_, rfl⟩
      have Bf : Below wo.heap.size wo wf := by rw [hwf]; exact below_new (Below.refl _ _) _
      have Xf : wf.heap[wo.heap.size]? = some (.cells #[.string x.1.s, .int .i64 x.1.k, .string x.1.p, .int .i64 x.1.m, .string x.1.d, .string x.1.n, .slice x.1.A5 x.1.n5 x.1.c5, .slice x.1.A6 x.1.n6 x.1.c6] 238 (0, 0)) := by rw [hwf]; exact heap_alloc_new wo _
      have IF := HI.out.keep Bf
      have HX := Lib.hid hx
      have HIF := Lib.hid IF
      have HXF := Lib.hid Xf
      have HWF := Lib.hid hwf
      have hFs : wo.heap.size < wf.heap.size := (Array.getElem?_eq_some_iff.1 Xf).1
      have hfB : wo.heap.size ≠ B := by omega
      clear cc hx hwf
      go_upto_region 6 with fail
      rw [← HWF.out]
      clear h0 h1' h2' h3' h4' h5' h6' h7'
      have b5 : wf.cell? ⟨B, 5, none⟩ = some (.slice A5 j c5) := Lib.cell_of_heap IF.box 5
      have f0 : wf.cell? ⟨wo.heap.size, 0, none⟩ = some (.string x.1.s) := Lib.cell_of_heap Xf 0
      have hown := IF.names
      obtain ⟨inf, hi1', hy0, hy1, hy2⟩ := info_parts str1_info
      have hMX : j + 1 ≤ maxLen := by unfold maxLen; omega
      have hAL : B + 1 ≤ (wf.alloc (.cells #[.string x.1.s] 9)).heap.size := by
        have e1 : (wf.alloc (.cells #[.string x.1.s] 9)).heap.size = wf.heap.size + 1 := (by simp)
        omega
      have hNW : ∀ q u, ([.string x.1.s] : List Value)[q]? = some u → (wf.alloc (.cells #[.string x.1.s] 9)).cell? ((⟨wf.heap.size, 0, none⟩ : Addr).add q) = some u := fun q u hq => by
        rw [WideShapes.add_plain, Nat.zero_add, Lib.cell_of_heap (heap_alloc_new wf _), ← hq, ← List.getElem?_toArray]
      clear IF Xf
      go_upto_region 7 with ((with_reducible refine wpList_append_lies _ ?_ (.tmp 19) (.tmp 22) 39 ?_ (B + 1) 9 inf _ 1 16 ?_ hi1' hy0 hy1 hy2 ?_ ?_ (.slice A5 j c5) (j) _ ?_ (hown.alloc _) ⟨wf.heap.size, 0, none⟩ 1 1 [.string x.1.s] ?_ ?_ ?_ ?_ ?_ ?_ ?_ ?_ _ rfl ?_); rfl; rfl; exact Tryz.underlying39; rfl; exact Nat.zero_lt_succ _; rfl; rfl; rfl; exact hNW; exact (fun u hu => by simp at hu; subst hu; rfl); exact Nat.one_pos; exact hMX; omega; exact hAL; intro gb cp w5 hown5 hgrow hat hlt5; obtain ⟨J1, J2, y5, z5⟩ := OfI.addName HIF.out HX.out hown5 hgrow hat; have HJ1 := Lib.hid J1; have HJ2 := Lib.hid J2; have HN5 := Lib.hid (fun b e => (HIF.out.names.lt b e).2); clear J1 J2 hown5 hgrow hat hown hNW hAL hMX hi1' hy0 hy1 hy2 b5 f0)
      obtain ⟨w6, hw6⟩ : ∃ w6, w6 = w5.setCell ⟨B, 5, none⟩ (.slice (some ⟨gb, 0, none⟩) (j + 1) cp) := ⟨_, rfl⟩
      have I6 : OfI w B g k P' (j + 1) j (some ⟨gb, 0, none⟩) cp A6 c6 w6 := by rw [hw6]; exact HJ1.out
      have X6 : w6.heap[wo.heap.size]? = some (.cells #[.string x.1.s, .int .i64 x.1.k, .string x.1.p, .int .i64 x.1.m, .string x.1.d, .string x.1.n, .slice x.1.A5 x.1.n5 x.1.c5, .slice x.1.A6 x.1.n6 x.1.c6] 238 (0, 0)) := by
        rw [hw6, HJ2.out wo.heap.size hFs hfB (fun e => by
          have := (HI.out.names.lt _ e).2; omega)]
        exact HXF.out
      rw [← hw6]
      have HI6 := Lib.hid I6
      have b6 : w6.cell? ⟨B, 6, none⟩ = some (.slice A6 j c6) := Lib.cell_of_heap I6.box 6
      have f1 := Lib.cell_of_heap X6 1
      have f2 := Lib.cell_of_heap X6 2
      have f3 := Lib.cell_of_heap X6 3
      have f4 := Lib.cell_of_heap X6 4
      have f5 := Lib.cell_of_heap X6 5
      have f6 := Lib.cell_of_heap X6 6
      have f7 := Lib.cell_of_heap X6 7
      simp at f1 f2 f3 f4 f5 f6 f7
      have hown := I6.subs
      have hB6 := (Array.getElem?_eq_some_iff.1 I6.box).1
      obtain ⟨inf6, hi1', hy0, hy1, hy2⟩ := info_parts typ_info
      have hMX : j + 1 ≤ maxLen := by unfold maxLen; omega
      have hAL : B + 1 ≤ (w6.alloc (.cells #[.int .i64 x.1.k, .string x.1.p, .int .i64 x.1.m, .string x.1.d, .string x.1.n, .slice x.1.A5 x.1.n5 x.1.c5, .slice x.1.A6 x.1.n6 x.1.c6] 42)).heap.size := by
        have e1 : (w6.alloc (.cells #[.int .i64 x.1.k, .string x.1.p, .int .i64 x.1.m, .string x.1.d, .string x.1.n, .slice x.1.A5 x.1.n5 x.1.c5, .slice x.1.A6 x.1.n6 x.1.c6] 42)).heap.size = w6.heap.size + 1 := (by simp)
        omega
      have hNW : ∀ q u, ([.int .i64 x.1.k, .string x.1.p, .int .i64 x.1.m, .string x.1.d, .string x.1.n, .slice x.1.A5 x.1.n5 x.1.c5, .slice x.1.A6 x.1.n6 x.1.c6] : List Value)[q]? = some u → (w6.alloc (.cells #[.int .i64 x.1.k, .string x.1.p, .int .i64 x.1.m, .string x.1.d, .string x.1.n, .slice x.1.A5 x.1.n5 x.1.c5, .slice x.1.A6 x.1.n6 x.1.c6] 42)).cell? ((⟨w6.heap.size, 0, none⟩ : Addr).add q) = some u := fun q u hq => by
        rw [WideShapes.add_plain, Nat.zero_add, Lib.cell_of_heap (heap_alloc_new w6 _), ← hq, ← List.getElem?_toArray]
      clear hw6 I6 X6 y5 z5
      go_upto_region 8 with ((with_reducible refine wpList_append_lies _ ?_ (.tmp 26) (.tmp 29) 40 ?_ (B + 1) 42 inf6 _ 7 112 ?_ hi1' hy0 hy1 hy2 ?_ ?_ (.slice A6 j c6) (j) _ ?_ (hown.alloc _) ⟨w6.heap.size, 0, none⟩ 1 1 [.int .i64 x.1.k, .string x.1.p, .int .i64 x.1.m, .string x.1.d, .string x.1.n, .slice x.1.A5 x.1.n5 x.1.c5, .slice x.1.A6 x.1.n6 x.1.c6] ?_ ?_ ?_ ?_ ?_ ?_ ?_ ?_ _ rfl ?_); rfl; rfl; exact Tryz.underlying40; rfl; exact Nat.zero_lt_succ _; rfl; rfl; rfl; exact hNW; exact (fun u hu => by simp at hu; rcases hu with rfl | rfl | rfl | rfl | rfl | rfl | rfl <;> rfl); exact Nat.one_pos; exact hMX; omega; exact hAL; intro gd cq w7 hown7 hgrow hat hlt7; obtain ⟨L1, y6, z6⟩ := OfI.addSub HI6.out HX.out hown7 hgrow hat; have HL1 := Lib.hid L1; clear L1 hown7 hgrow hat hown hNW hAL hMX hi1' hy0 hy1 hy2 b6 f1 f2 f3 f4 f5 f6 f7)
      obtain ⟨w8, hw8⟩ : ∃ w8, w8 = w7.setCell ⟨B, 6, none⟩ (.slice (some ⟨gd, 0, none⟩) (j + 1) cq) := ⟨_, rfl⟩
      have I8 : Hid (OfI w B g k P' (j + 1) (j + 1) (some ⟨gb, 0, none⟩) cp (some ⟨gd, 0, none⟩) cq w8) := Lib.hid (by rw [hw8]; exact HL1.out)
      rw [← hw8]
      clear hw8 y6 z6 HL1 HI6
      go_wp2_with fail
      go_roundw
      case rel => exact ⟨j + 1, _, _, _, _, by omega, by go_num, I8⟩
      case measure => simp [intOf]; omega
    · have hjn : j = n := by omega
      subst hjn
      have SEAL := Lib.hid (HI.out.seal HPS.out.1 HR.out (by omega))
      have X := HI.out.res
      have O := HI.out.box
      have x0 := Lib.cell_of_heap O 0
      have x1 := Lib.cell_of_heap O 1
      have x2 := Lib.cell_of_heap O 2
      have x3 := Lib.cell_of_heap O 3
      have x4 := Lib.cell_of_heap O 4
      have x5 := Lib.cell_of_heap O 5
      have x6 := Lib.cell_of_heap O 6
      simp at x0 x1 x2 x3 x4 x5 x6
      unfold Bx at X
      have HPO := Lib.hid HPS.out
      clear HI O HPS I0
      go_upto_region 9 with fail
      go_wp2_with (first | ((with_reducible refine wpList_putRow 42 (w.heap.size) #[.int .i64 k, .string ⟨#[]⟩, .int .i64 0, .string ⟨#[]⟩, .string ⟨#[]⟩, .slice A5 j c5, .slice A6 j c6] _ _ X ?_ ?_ ?_ ?_ ?_ ?_); exact tySize; rfl; exact tyOne; (focus (first | (go_simp; done) | rfl)); (focus (first | (go_simp; done) | rfl))))
      exact ret_agg1 (fn := Tryz.f199) (vs := [.int .i64 k, .string ⟨#[]⟩, .int .i64 0, .string ⟨#[]⟩, .string ⟨#[]⟩, .slice A5 j c5, .slice A6 j c6]) (b := w.heap.size) rfl rfl Tryz.underlying42 (by kernel_rfl) SEAL.out.1 rfl ⟨g, _, P', _, rfl, HPO.out.2.2, rfl, HPO.out.1, HPO.out.2.1, SEAL.out.2.1, SEAL.out.2.2⟩

end Go.Proofs.YtpfoclpgcbjjoaaGreatDoor

/- The code's record and variant; so its read, whatever begins. -/
namespace Go.Proofs.YtpfoclpgcbjjoaaGreatDoor
open Go.RowKit
open Go.Sort
open M

theorem fd_perm {P P' : List Nt} (h : P'.Perm P) : (fdOf P').Perm (fdOf P) := h.map _
theorem rec_res {k : Int} {b i c : Nat} {s : Bool} {P P' : List Nt} (hp : P'.Perm P) (hs : (fdOf P').Pairwise leF) (hd : b = 0 → ((fdOf P).map (·.1)).Nodup) :
    badR (psB b s) i (.ok (Ty.mk k ⟨#[]⟩ 0 ⟨#[]⟩ ⟨#[]⟩ ((fdOf P').map (·.1)) ((fdOf P').map (·.2))) i c) = badR (psB b s) i (.ok (Ty.mk k ⟨#[]⟩ 0 ⟨#[]⟩ ⟨#[]⟩ (insN (fdOf P)) (insS (fdOf P))) i c) := by
  by_cases hb : b = 0
  · obtain ⟨e1, e2⟩ := ins_sorted (fd_perm hp) hs (hd hb)
    rw [e1, e2]
  · exact badR_bad (by rw [psB_bad _ hb]; exact hb)
theorem RSt.grown {cu r : Nat} {A : Option Addr} {n cn i c b g lo m cap : Nat} {P : List Nt} {w w' : World} (h : RSt cu r A n cn i c b w) (hg : w.grownBy w' (some g)) (hR : NmR lo P m (.slice (some ⟨g, 0, none⟩) m cap) w) : RSt cu r A n cn i c b w' := by
  rcases hR.own.2 with ⟨e, -⟩ | ⟨g', cap', cur, hv, -, hgg, -⟩
  · cases e
  · simp only [Value.slice.injEq, Option.some.injEq, Addr.mk.injEq] at hv
    obtain ⟨⟨rfl, -⟩, -⟩ := hv
    exact h.keep fun k hk hlt => hg.block k hlt fun e => by
      simp only [Option.some.injEq] at e
      subst e
      rcases hk _ _ _ hgg with q | q | q <;> exact absurd q (by decide)

set_option maxRecDepth 100000 in
set_option maxHeartbeats 4000000 in
theorem crecord_any {W : World} {cu r : Nat} {A : Option Addr} {S : Toks} {cn f : Nat} (RD : ∀ g, g < f → CReadOk W cu r A S cn g) :
    CKOk W cu r A S cn 179 [123] (fun d i c => partsR S 5 [125] f d i c) := by
  intro d d' i c w R hc h hs hc5 hd hd5 hR hne
  have hR' : R = partsR S 5 [125] f d (i + 1) c := hR
  have hr := h.lt
  have hq0 := h.qlt
  have hbig := hc.cur.big
  obtain ⟨w0, hw0⟩ : ∃ w0, w0 = w.alloc (.cells #[.int .i64 0, .string ⟨#[]⟩, .int .i64 0, .string ⟨#[]⟩, .string ⟨#[]⟩, .slice none 0 0, .slice none 0 0] 42) := ⟨_, rfl⟩
  have B0 : Below w.heap.size w w0 := by rw [hw0]; exact below_new (Below.refl _ _) _
  have X0 : Bx w.heap.size w0 := by rw [hw0]; exact heap_alloc_new w _
  have hl0 : w.heap.size < w0.heap.size := (Array.getElem?_eq_some_iff.1 X0).1
  have hne0 : w.heap.size ≠ r ∧ w.heap.size ≠ cu := ⟨Nat.ne_of_gt hr, Nat.ne_of_gt hq0⟩
  have C0 := hc.on (KQ.of_below B0)
  have h0 := h.below B0
  have SG := Lib.hid (rsign_any C0 h0 ⟨#[123]⟩)
  have p0 := h0.p
  have HC0 := Lib.hid C0
  have HX0 := Lib.hid X0
  have HK0 := Lib.hid (KQ.of_below (q := cu) (r := r) B0)
  have HR := Lib.hid hR'
  have HNE := Lib.hid hne
  have RDD := Lib.hid RD
  have HD := Lib.hid hd
  have HS := Lib.hid hs
  have HW0 := Lib.hid hw0
  clear h hc hR hR' hne RD hd hw0 B0 X0 C0 h0 hs
  go_enter Tryz.func179, Tryz.ntmps179
  go_upto_region 1 with fail
  rw [← HW0.out]
  go_wp2_with fail
  refine SG.out.mono ?_; rintro e w1 ⟨rfl, h1, k1⟩
  have h1' : RSt cu r A S.n cn (i + 1) c 0 w1 := by
    have e : S.sign i (ByteArray.mk #[123]).data.toList = true := HS.out
    rw [e] at h1; exact h1
  have C1 := HC0.out.on k1
  have HX1 : Hid (Bx w.heap.size w1) := Lib.hid ((k1.blk hl0 hne0).trans HX0.out)
  have HK1 := Lib.hid (HK0.out.trans k1)
  have HC1 := Lib.hid C1
  have hl1 := Nat.lt_of_lt_of_le hl0 k1.size
  have p1 := h1'.p
  have SK := Lib.hid (rskip_any C1 h1' ⟨#[125]⟩)
  clear h1 h1' k1 C1 SG HX0 HK0 HC0 p0
  go_wp2_with fail
  refine SK.out.mono ?_; rintro e w2 ⟨rfl, h2, k2⟩
  obtain ⟨v, hv⟩ : ∃ v, S.sign (i + 1) (ByteArray.mk #[125]).data.toList = v := ⟨_, rfl⟩
  rw [hv] at h2 ⊢
  have HV : Hid (S.sign (i + 1) [125] = v) := Lib.hid hv
  have C2 := HC1.out.on k2
  have HX2 : Hid (Bx w.heap.size w2) := Lib.hid ((k2.blk hl1 hne0).trans HX1.out)
  have HK2 := Lib.hid (HK1.out.trans k2)
  have HC2 := Lib.hid C2
  have hl2 := Nat.lt_of_lt_of_le hl1 k2.size
  have H2 := Lib.hid h2
  have p2 := h2.p
  clear hv h2 k2 C2 SK HX1 HK1 HC1 p1
  cases v with
  | true =>
    have X2 := HX2.out
    have h2' : RSt cu r A S.n cn (i + 2) c 0 w2 := H2.out
    have SEAL := Lib.hid (COut.seal (R := R) (Nat.le_refl _) X2 HK2.out (TyAt.leaf (strike (· < w.heap.size + 1) w2) 5 ⟨#[]⟩ 0 ⟨#[]⟩ ⟨#[]⟩ (by decide) (by decide) (by decide)) (Nat.lt_succ_self _) hr h2' hc5 (by
      rw [HR.out]; unfold partsR; rw [if_pos ⟨rfl, HV.out⟩]; rfl))
    unfold Bx at X2
    clear h2' HX2 HK2 H2 HC2 p2
    go_upto_region 3 with fail
    go_wp2_with (first | ((with_reducible refine wpList_putRow 42 (w.heap.size) #[.int .i64 5, .string ⟨#[]⟩, .int .i64 0, .string ⟨#[]⟩, .string ⟨#[]⟩, .slice none 0 0, .slice none 0 0] _ _ X2 ?_ ?_ ?_ ?_ ?_ ?_); exact tySize; rfl; exact tyOne; (focus (first | (go_simp; done) | rfl)); (focus (first | (go_simp; done) | rfl))))
    exact ret_agg1 (fn := Tryz.f179) (vs := [.int .i64 5, .string ⟨#[]⟩, .int .i64 0, .string ⟨#[]⟩, .string ⟨#[]⟩, .slice none 0 0, .slice none 0 0]) (b := w.heap.size) rfl rfl Tryz.underlying42 (by kernel_rfl) SEAL.out.1 rfl SEAL.out.2
  | false =>
    have hF : R = pParts S 5 [125] f d (i + 1) c [] [] := by rw [HR.out]; unfold partsR; rw [if_neg (by rw [HV.out]; simp)]
    have h2' : RSt cu r A S.n cn (i + 1) c 0 w2 := H2.out
    have FL := Lib.hid (fields_any RDD.out HC2.out h2' hc5 HD.out hd5 89 smallK asksSmall (by decide) (k := 5) (fun i => (small_k S i).trans (by unfold Toks.nameOk; simp)) (by decide) R hF HNE.out)
    clear hF h2'
    go_upto_region 4 with fail
    go_wp2_with fail
    refine FL.out.mono ?_; rintro e w3 ⟨P, n, v3, i3, c3, b3, rfl, k3, ROW3, h3, hfin, h21, hn1, hc3, hdd⟩
    have C3 := HC2.out.on k3
    have SG := Lib.hid (rsign_any C3 h3 ⟨#[125]⟩)
    have p3 := h3.p
    have hs3 := k3.size
    have HX3 : Hid (Bx w.heap.size w3) := Lib.hid ((k3.blk hl2 hne0).trans HX2.out)
    have HK3 := Lib.hid (HK2.out.trans k3)
    have HROW3 := Lib.hid ROW3
    have HFIN := Lib.hid hfin
    have HL3 := Lib.hid (⟨h21, hn1, hc3⟩ : n ≤ 21 ∧ 1 ≤ n ∧ c3 ≤ 500)
    have HDD := Lib.hid hdd
    have hr3 := h3.lt
    have hq3 := h3.qlt
    obtain ⟨A7, c7, rfl, -⟩ := ROW3.cell
    clear k3 ROW3 h3 hfin h21 hn1 hc3 hdd C3 FL HC2 HX2 HK2
    go_wp2_with fail
    refine SG.out.mono ?_; rintro e w4 ⟨rfl, h4, k4⟩
    have hs4 := k4.size
    have ROW4 := HROW3.out.keep hs4 (fun b hb hlt => k4.blk hlt (by omega))
    have OF := Lib.hid (ofF_any ROW4 HL3.out.2.1 (by have := HL3.out.1; omega) 5)
    have H4 := Lib.hid h4
    have HX4 : Hid (Bx w.heap.size w4) := Lib.hid ((k4.blk (by omega) hne0).trans HX3.out)
    have HK4 := Lib.hid (HK3.out.trans k4)
    have HROW4 := Lib.hid ROW4
    clear h4 k4 ROW4 SG HX3 HK3 HROW3 p3
    go_wp2_with fail
    refine OF.out.mono ?_; rintro e w5 ⟨g, cap, P', ll, hv, hlo, rfl, hperm, hsort, hT, hgr⟩
    simp only [Value.slice.injEq, true_and] at hv
    obtain ⟨rfl, rfl⟩ := hv
    obtain ⟨ll⟩ := ll
    obtain ⟨t, ht⟩ : ∃ t, t = Ty.mk 5 ⟨#[]⟩ 0 ⟨#[]⟩ ⟨#[]⟩ ((fdOf P').map (·.1)) ((fdOf P').map (·.2)) := ⟨_, rfl⟩
    have hT' : TyAt (strike (· < w2.heap.size) w5) ll t := by rw [ht]; exact hT
    obtain ⟨An, cA, As, cS, rfl, -⟩ := hT'.parts
    have hs5 := hgr.size
    have h5 := H4.out.grown hgr HROW4.out
    have X5 : Bx w.heap.size w5 := (hgr.block _ (by omega) (fun e => by simp only [Option.some.injEq] at e; omega)).trans HX4.out
    have K5 : KQ cu r w w5 := HK4.out.grow hgr fun b e => by simp only [Option.some.injEq] at e; omega
    have SEAL := Lib.hid (COut.seal (R := R) (Nat.le_refl _) X5 K5 (hT'.move (S' := (· < w.heap.size + 1)) (Nat.le_refl _) fun b hb hS => ⟨fun e => hS (Nat.lt_of_lt_of_le (show b < w.heap.size + 1 from e) hl2), rfl⟩) (Nat.lt_succ_self _) hr h5 HL3.out.2.2 (by
      rw [ht, HFIN.out, shutP_res]
      exact rec_res hperm hsort HDD.out))
    unfold Bx at X5
    clear hT hT' hgr hperm hsort ht h5 K5 OF H4 HX4 HK4 HROW4 HFIN HDD HL3 hlo
    go_wp2_with (first | ((with_reducible refine wpList_putRow 42 (w.heap.size) #[.int .i64 t.kind, .string t.pkg, .int .i64 t.major, .string t.mod, .string t.name, .slice An t.names.length cA, .slice As t.subs.length cS] _ _ X5 ?_ ?_ ?_ ?_ ?_ ?_); exact tySize; rfl; exact tyOne; (focus (first | (go_simp; done) | rfl)); (focus (first | (go_simp; done) | rfl))))
    exact ret_agg1 (fn := Tryz.f179) (vs := [.int .i64 t.kind, .string t.pkg, .int .i64 t.major, .string t.mod, .string t.name, .slice An t.names.length cA, .slice As t.subs.length cS]) (b := w.heap.size) rfl rfl Tryz.underlying42 (by kernel_rfl) SEAL.out.1 rfl SEAL.out.2

set_option maxRecDepth 100000 in
set_option maxHeartbeats 4000000 in
theorem cvariant_any {W : World} {cu r : Nat} {A : Option Addr} {S : Toks} {cn f : Nat} (RD : ∀ g, g < f → CReadOk W cu r A S cn g) :
    CKOk W cu r A S cn 180 [91] (fun d i c => partsR S 6 [93] f d i c) := by
  intro d d' i c w R hc h hs hc5 hd hd5 hR hne
  have hR' : R = partsR S 6 [93] f d (i + 1) c := hR
  have hr := h.lt
  have hq0 := h.qlt
  have hbig := hc.cur.big
  obtain ⟨w0, hw0⟩ : ∃ w0, w0 = w.alloc (.cells #[.int .i64 0, .string ⟨#[]⟩, .int .i64 0, .string ⟨#[]⟩, .string ⟨#[]⟩, .slice none 0 0, .slice none 0 0] 42) := ⟨_, rfl⟩
  have B0 : Below w.heap.size w w0 := by rw [hw0]; exact below_new (Below.refl _ _) _
  have X0 : Bx w.heap.size w0 := by rw [hw0]; exact heap_alloc_new w _
  have hl0 : w.heap.size < w0.heap.size := (Array.getElem?_eq_some_iff.1 X0).1
  have hne0 : w.heap.size ≠ r ∧ w.heap.size ≠ cu := ⟨Nat.ne_of_gt hr, Nat.ne_of_gt hq0⟩
  have C0 := hc.on (KQ.of_below B0)
  have h0 := h.below B0
  have SG := Lib.hid (rsign_any C0 h0 ⟨#[91]⟩)
  have p0 := h0.p
  have HC0 := Lib.hid C0
  have HX0 := Lib.hid X0
  have HK0 := Lib.hid (KQ.of_below (q := cu) (r := r) B0)
  have HR := Lib.hid hR'
  have HNE := Lib.hid hne
  have RDD := Lib.hid RD
  have HD := Lib.hid hd
  have HS := Lib.hid hs
  have HW0 := Lib.hid hw0
  clear h hc hR hR' hne RD hd hw0 B0 X0 C0 h0 hs
  go_enter Tryz.func180, Tryz.ntmps180
  go_upto_region 1 with fail
  rw [← HW0.out]
  go_wp2_with fail
  refine SG.out.mono ?_; rintro e w1 ⟨rfl, h1, k1⟩
  have h1' : RSt cu r A S.n cn (i + 1) c 0 w1 := by
    have e : S.sign i (ByteArray.mk #[91]).data.toList = true := HS.out
    rw [e] at h1; exact h1
  have C1 := HC0.out.on k1
  have HX1 : Hid (Bx w.heap.size w1) := Lib.hid ((k1.blk hl0 hne0).trans HX0.out)
  have HK1 := Lib.hid (HK0.out.trans k1)
  have HC1 := Lib.hid C1
  have hl1 := Nat.lt_of_lt_of_le hl0 k1.size
  have p1 := h1'.p
  clear h1 k1 C1 SG HX0 HK0 HC0 p0
  have hF : R = pParts S 6 [93] f d (i + 1) c [] [] := by rw [HR.out]; unfold partsR; rw [if_neg (by simp)]
  obtain ⟨w2, hw2⟩ : ∃ w2 : World, w2 = w1 := ⟨_, rfl⟩
  subst hw2
  have h2' := h1'
  have HX2 := HX1
  have HK2 := HK1
  have HC2 := HC1
  have hl2 := hl1
  clear HX1 HK1 HC1 h1'
  have FL := Lib.hid (fields_any RDD.out HC2.out h2' hc5 HD.out hd5 133 greatK asksGreat (by decide) (k := 6) (fun i => (great_k S i).trans (by unfold Toks.nameOk; simp)) (by decide) R hF HNE.out)
  clear hF h2'
  go_upto_region 2 with fail
  go_wp2_with fail
  refine FL.out.mono ?_; rintro e w3 ⟨P, n, v3, i3, c3, b3, rfl, k3, ROW3, h3, hfin, h21, hn1, hc3, hdd⟩
  have C3 := HC2.out.on k3
  have SG := Lib.hid (rsign_any C3 h3 ⟨#[93]⟩)
  have p3 := h3.p
  have hs3 := k3.size
  have HX3 : Hid (Bx w.heap.size w3) := Lib.hid ((k3.blk hl2 hne0).trans HX2.out)
  have HK3 := Lib.hid (HK2.out.trans k3)
  have HROW3 := Lib.hid ROW3
  have HFIN := Lib.hid hfin
  have HL3 := Lib.hid (⟨h21, hn1, hc3⟩ : n ≤ 21 ∧ 1 ≤ n ∧ c3 ≤ 500)
  have HDD := Lib.hid hdd
  have hr3 := h3.lt
  have hq3 := h3.qlt
  obtain ⟨A7, c7, rfl, -⟩ := ROW3.cell
  clear k3 ROW3 h3 hfin h21 hn1 hc3 hdd C3 FL HC2 HX2 HK2
  go_wp2_with fail
  refine SG.out.mono ?_; rintro e w4 ⟨rfl, h4, k4⟩
  have hs4 := k4.size
  have ROW4 := HROW3.out.keep hs4 (fun b hb hlt => k4.blk hlt (by omega))
  have OF := Lib.hid (ofF_any ROW4 HL3.out.2.1 (by have := HL3.out.1; omega) 6)
  have H4 := Lib.hid h4
  have HX4 : Hid (Bx w.heap.size w4) := Lib.hid ((k4.blk (by omega) hne0).trans HX3.out)
  have HK4 := Lib.hid (HK3.out.trans k4)
  have HROW4 := Lib.hid ROW4
  clear h4 k4 ROW4 SG HX3 HK3 HROW3 p3
  go_wp2_with fail
  refine OF.out.mono ?_; rintro e w5 ⟨g, cap, P', ll, hv, hlo, rfl, hperm, hsort, hT, hgr⟩
  simp only [Value.slice.injEq, true_and] at hv
  obtain ⟨rfl, rfl⟩ := hv
  obtain ⟨ll⟩ := ll
  obtain ⟨t, ht⟩ : ∃ t, t = Ty.mk 6 ⟨#[]⟩ 0 ⟨#[]⟩ ⟨#[]⟩ ((fdOf P').map (·.1)) ((fdOf P').map (·.2)) := ⟨_, rfl⟩
  have hT' : TyAt (strike (· < w2.heap.size) w5) ll t := by rw [ht]; exact hT
  obtain ⟨An, cA, As, cS, rfl, -⟩ := hT'.parts
  have hs5 := hgr.size
  have h5 := H4.out.grown hgr HROW4.out
  have X5 : Bx w.heap.size w5 := (hgr.block _ (by omega) (fun e => by simp only [Option.some.injEq] at e; omega)).trans HX4.out
  have K5 : KQ cu r w w5 := HK4.out.grow hgr fun b e => by simp only [Option.some.injEq] at e; omega
  have SEAL := Lib.hid (COut.seal (R := R) (Nat.le_refl _) X5 K5 (hT'.move (S' := (· < w.heap.size + 1)) (Nat.le_refl _) fun b hb hS => ⟨fun e => hS (Nat.lt_of_lt_of_le (show b < w.heap.size + 1 from e) hl2), rfl⟩) (Nat.lt_succ_self _) hr h5 HL3.out.2.2 (by
    rw [ht, HFIN.out, shutP_res]
    exact rec_res hperm hsort HDD.out))
  unfold Bx at X5
  clear hT hT' hgr hperm hsort ht h5 K5 OF H4 HX4 HK4 HROW4 HFIN HDD HL3 hlo
  go_wp2_with (first | ((with_reducible refine wpList_putRow 42 (w.heap.size) #[.int .i64 t.kind, .string t.pkg, .int .i64 t.major, .string t.mod, .string t.name, .slice An t.names.length cA, .slice As t.subs.length cS] _ _ X5 ?_ ?_ ?_ ?_ ?_ ?_); exact tySize; rfl; exact tyOne; (focus (first | (go_simp; done) | rfl)); (focus (first | (go_simp; done) | rfl))))
  exact ret_agg1 (fn := Tryz.f180) (vs := [.int .i64 t.kind, .string t.pkg, .int .i64 t.major, .string t.mod, .string t.name, .slice An t.names.length cA, .slice As t.subs.length cS]) (b := w.heap.size) rfl rfl Tryz.underlying42 (by kernel_rfl) SEAL.out.1 rfl SEAL.out.2

end Go.Proofs.YtpfoclpgcbjjoaaGreatDoor

/- The code's read, whatever begins. -/
namespace Go.Proofs.YtpfoclpgcbjjoaaGreatDoor
open Go.RowKit
open Go.Sort
open M

theorem cread_all {W : World} {cu r : Nat} {A : Option Addr} {S : Toks} {cn : Nat} (he : CEnv W) : ∀ f, ∀ g, g ≤ f → CReadOk W cu r A S cn g
  | 0, g, hg => by
    have : g = 0 := by omega
    subst this
    exact cread_zero he
  | f + 1, g, hg => by
    have ih := cread_all (cu := cu) (r := r) (A := A) (S := S) (cn := cn) he f
    rcases Nat.lt_or_ge f g with h | h
    · have : g = f + 1 := by omega
      subst this
      exact cread_any he (ih f (Nat.le_refl _)) (crecord_any fun g hg => ih g (by omega)) (cvariant_any fun g hg => ih g (by omega)) (cfn_any fun g hg => ih g (by omega))
    · exact ih g h
theorem cread_ok {W : World} {cu r : Nat} {A : Option Addr} {S : Toks} {cn : Nat} (he : CEnv W) (f : Nat) : CReadOk W cu r A S cn f := cread_all he f f (Nat.le_refl _)

end Go.Proofs.YtpfoclpgcbjjoaaGreatDoor
