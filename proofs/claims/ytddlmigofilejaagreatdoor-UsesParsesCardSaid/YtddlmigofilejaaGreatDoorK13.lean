/-
  Several texts in one.
-/
import Derived.Test.YtddlmigofilejaaGreatDoorK12
open List (getElem_toArray getElem_cons_succ getElem_cons_zero set_cons_zero set_cons_succ setIfInBounds_toArray)
set_option maxRecDepth 100000
set_option maxHeartbeats 4000000
namespace Go.Proofs.YtddlmigofilejaaGreatDoor
open Go.RowKit
open Go.Sort
open M
structure OfI (w : World) (B g : Nat) (k : Int) (P : List Nt) (j5 j6 : Nat) (A5 : Option Addr) (c5 : Nat) (A6 : Option Addr) (c6 : Nat) (wr : World) : Prop where
 gr : w.grownBy wr (some g)
 row : ∀ i x, P[i]? = some x -> ∀ q u, x.1.enc[q]? = some u -> wr.cell? ⟨g, 0 + i * 8 + q, none⟩ = some u
 box : wr.heap[B]? = some (.cells #[.int .i64 k, .string ⟨#[]⟩, .int .i64 0, .string ⟨#[]⟩, .string ⟨#[]⟩, .slice A5 j5 c5, .slice A6 j6 c6] 48 (0, 0))
 res : Bx w.heap.size wr
 names : wr.ownsRow (B + 1) 9 1 (.slice A5 j5 c5) j5 ((P.take j5).map fun x => .string x.1.s)
 subs : wr.ownsRow (B + 1) 48 7 (.slice A6 j6 c6) j6 ((P.take j6).map fun x => x.1.ty).flatten
 apart : ∀ b, (Value.slice A5 j5 c5).ownBlock = some b -> (Value.slice A6 j6 c6).ownBlock ≠ some b
 gB : g < w.heap.size /\ w.heap.size < B
theorem OfI.keep {w : World} {B g : Nat} {k : Int} {P : List Nt} {j5 j6 : Nat} {A5 : Option Addr} {c5 : Nat} {A6 : Option Addr} {c6 : Nat} {wr wf : World} (h : OfI w B g k P j5 j6 A5 c5 A6 c6 wr) (hb : Below wr.heap.size wr wf) : OfI w B g k P j5 j6 A5 c5 A6 c6 wf := by
 have hB := (Array.getElem?_eq_some_iff.1 h.box).1
 have hgB := h.gB
 exact ⟨⟨hb.os.trans h.gr.os, hb.tape.trans h.gr.tape, hb.output.trans h.gr.output, Nat.le_trans h.gr.size hb.size, fun b hlt hne => (hb.block b (Nat.lt_of_lt_of_le hlt h.gr.size)).trans (h.gr.block b hlt hne)⟩,
  fun i x hx q u hu => (hb.cell (p := ⟨g, _, none⟩) (by show g < wr.heap.size; omega)).trans (h.row i x hx q u hu), (hb.block B hB).trans h.box, (hb.block _ (by omega)).trans h.res,
  own_from h.names (fun b _ hlt => hb.block b hlt), own_from h.subs (fun b _ hlt => hb.block b hlt), h.apart, h.gB⟩
theorem OfI.addName {w : World} {B g : Nat} {k : Int} {P : List Nt} {j5 j6 : Nat} {A5 : Option Addr} {c5 : Nat} {A6 : Option Addr} {c6 : Nat} {wf w5 : World} {o : Obj} {gb cap : Nat} {x : Nt} (h : OfI w B g k P j5 j6 A5 c5 A6 c6 wf) (hx : P[j5]? = some x)
  (hown : w5.ownsRow (B + 1) 9 1 (.slice (some ⟨gb, 0, none⟩) (j5 + 1) cap) (j5 + 1) (((P.take j5).map fun x => .string x.1.s) ++ [.string x.1.s])) (hgrow : (wf.alloc o).grownBy w5 (Value.slice A5 j5 c5).ownBlock)
  (hat : (Value.slice A5 j5 c5).ownBlock = some gb \/ gb = (wf.alloc o).heap.size) :
  OfI w B g k P (j5 + 1) j6 (some ⟨gb, 0, none⟩) cap A6 c6 (w5.setCell ⟨B, 5, none⟩ (.slice (some ⟨gb, 0, none⟩) (j5 + 1) cap)) /\
  (∀ b, b < wf.heap.size -> b ≠ B -> (Value.slice A5 j5 c5).ownBlock ≠ some b -> (w5.setCell ⟨B, 5, none⟩ (.slice (some ⟨gb, 0, none⟩) (j5 + 1) cap)).heap[b]? = wf.heap[b]?) /\
  w5.cell? ⟨B, 5, none⟩ = some (.slice A5 j5 c5) /\ w5.frozen? ⟨B, 5, none⟩ = false := by
 have hB := (Array.getElem?_eq_some_iff.1 h.box).1
 obtain ⟨hg1, hg2⟩ := h.gB
 have hsz : (wf.alloc o).heap.size = wf.heap.size + 1 := by simp
 have hsz5 := hgrow.size
 have hlow : ∀ b, (Value.slice A5 j5 c5).ownBlock = some b -> B + 1 <= b /\ b < wf.heap.size := fun b e => h.names.lt b e
 have hold : ∀ b, b < wf.heap.size -> (Value.slice A5 j5 c5).ownBlock ≠ some b -> w5.heap[b]? = wf.heap[b]? := fun b hb hne => by
  rw [hgrow.block b (by omega) (fun e => hne e.symm)];exact Lib.alloc_old wf o b hb
 have hfar : ∀ b, b ≠ B -> (w5.setCell ⟨B, 5, none⟩ (.slice (some ⟨gb, 0, none⟩) (j5 + 1) cap)).heap[b]? = w5.heap[b]? := fun b hb => Below.heap_setCell _ _ _ _ hb
 have hboth : ∀ b, b < wf.heap.size -> b ≠ B -> (Value.slice A5 j5 c5).ownBlock ≠ some b -> (w5.setCell ⟨B, 5, none⟩ (.slice (some ⟨gb, 0, none⟩) (j5 + 1) cap)).heap[b]? = wf.heap[b]? := fun b hb h1 h2 => (hfar b h1).trans (hold b hb h2)
 have hlowB : ∀ b, b <= B -> (Value.slice A5 j5 c5).ownBlock ≠ some b := fun b hb e => by have := hlow b e; omega
 have hbox5 := (hold B hB (hlowB B (Nat.le_refl _))).trans h.box
 refine ⟨⟨⟨?_, ?_, ?_, ?_, ?_⟩, ?_, ?_, ?_, ?_, ?_, ?_, h.gB⟩, hboth, cZ hbox5 5, Lib.frozen_of_heap hbox5 5⟩
 ·exact hgrow.os.trans h.gr.os
 ·exact hgrow.tape.trans h.gr.tape
 ·exact hgrow.output.trans h.gr.output
 ·have := h.gr.size; simp; omega
 ·intro b hlt hne
  have := h.gr.size
  exact (hboth b (by omega) (by omega) (hlowB b (by omega))).trans (h.gr.block b hlt hne)
 ·intro i y hy q u hu
  rw [World.cell?_of_block (w := wf) (a := ⟨g, _, none⟩) (hboth g (by omega) (by omega) (hlowB g (by omega)))];exact h.row i y hy q u hu
 ·have := Joins.block_setCell (i := 5) hbox5 (.slice (some ⟨gb, 0, none⟩) (j5 + 1) cap); simpa using this
 ·exact (hboth _ (by omega) (by omega) (hlowB _ (by omega))).trans h.res
 ·have e : (P.take (j5 + 1)).map (fun x => Value.string x.1.s) = ((P.take j5).map fun x => .string x.1.s) ++ [.string x.1.s] := by
   have hj := (List.getElem?_eq_some_iff.1 hx);rw [List.take_add_one, hx]; simp
  rw [e];refine own_from hown fun b hb hlt => hfar b (by omega)
 ·refine ⟨h.subs.1, ?_⟩
  rcases h.subs.2 with e | ⟨g6, cap6, cur6, hv, hB6, hg6, rest⟩
  ·exact .inl e
  ·refine .inr ⟨g6, cap6, cur6, hv, hB6, (hboth g6 (Array.getElem?_eq_some_iff.1 hg6).1 (by omega) fun e => ?_).trans hg6, rest⟩
   exact h.apart g6 e (by rw [hv]; rfl)
 ·intro b hb
  simp [Value.ownBlock] at hb;subst hb;rcases hat with e | e
  ·exact h.apart gb e
  ·intro e2
   have := (h.subs.lt gb e2).2
   omega
theorem OfI.addSub {w : World} {B g : Nat} {k : Int} {P : List Nt} {j5 j6 : Nat} {A5 : Option Addr} {c5 : Nat} {A6 : Option Addr} {c6 : Nat} {wf w5 : World} {o : Obj} {gb cap : Nat} {x : Nt} (h : OfI w B g k P j5 j6 A5 c5 A6 c6 wf) (hx : P[j6]? = some x)
  (hown : w5.ownsRow (B + 1) 48 7 (.slice (some ⟨gb, 0, none⟩) (j6 + 1) cap) (j6 + 1) (((P.take j6).map fun x => x.1.ty).flatten ++ x.1.ty)) (hgrow : (wf.alloc o).grownBy w5 (Value.slice A6 j6 c6).ownBlock)
  (hat : (Value.slice A6 j6 c6).ownBlock = some gb \/ gb = (wf.alloc o).heap.size) :
  OfI w B g k P j5 (j6 + 1) A5 c5 (some ⟨gb, 0, none⟩) cap (w5.setCell ⟨B, 6, none⟩ (.slice (some ⟨gb, 0, none⟩) (j6 + 1) cap)) /\
  w5.cell? ⟨B, 6, none⟩ = some (.slice A6 j6 c6) /\ w5.frozen? ⟨B, 6, none⟩ = false := by
 have hB := (Array.getElem?_eq_some_iff.1 h.box).1
 obtain ⟨hg1, hg2⟩ := h.gB
 have hsz : (wf.alloc o).heap.size = wf.heap.size + 1 := by simp
 have hsz5 := hgrow.size
 have hlow : ∀ b, (Value.slice A6 j6 c6).ownBlock = some b -> B + 1 <= b /\ b < wf.heap.size := fun b e => h.subs.lt b e
 have hold : ∀ b, b < wf.heap.size -> (Value.slice A6 j6 c6).ownBlock ≠ some b -> w5.heap[b]? = wf.heap[b]? := fun b hb hne => by
  rw [hgrow.block b (by omega) (fun e => hne e.symm)];exact Lib.alloc_old wf o b hb
 have hfar : ∀ b, b ≠ B -> (w5.setCell ⟨B, 6, none⟩ (.slice (some ⟨gb, 0, none⟩) (j6 + 1) cap)).heap[b]? = w5.heap[b]? := fun b hb => Below.heap_setCell _ _ _ _ hb
 have hboth : ∀ b, b < wf.heap.size -> b ≠ B -> (Value.slice A6 j6 c6).ownBlock ≠ some b -> (w5.setCell ⟨B, 6, none⟩ (.slice (some ⟨gb, 0, none⟩) (j6 + 1) cap)).heap[b]? = wf.heap[b]? := fun b hb h1 h2 => (hfar b h1).trans (hold b hb h2)
 have hlowB : ∀ b, b <= B -> (Value.slice A6 j6 c6).ownBlock ≠ some b := fun b hb e => by have := hlow b e; omega
 have hbox5 := (hold B hB (hlowB B (Nat.le_refl _))).trans h.box
 refine ⟨⟨⟨?_, ?_, ?_, ?_, ?_⟩, ?_, ?_, ?_, ?_, ?_, ?_, h.gB⟩, cZ hbox5 6, Lib.frozen_of_heap hbox5 6⟩
 ·exact hgrow.os.trans h.gr.os
 ·exact hgrow.tape.trans h.gr.tape
 ·exact hgrow.output.trans h.gr.output
 ·have := h.gr.size; simp; omega
 ·intro b hlt hne
  have := h.gr.size
  exact (hboth b (by omega) (by omega) (hlowB b (by omega))).trans (h.gr.block b hlt hne)
 ·intro i y hy q u hu
  rw [World.cell?_of_block (w := wf) (a := ⟨g, _, none⟩) (hboth g (by omega) (by omega) (hlowB g (by omega)))];exact h.row i y hy q u hu
 ·have := Joins.block_setCell (i := 6) hbox5 (.slice (some ⟨gb, 0, none⟩) (j6 + 1) cap); simpa using this
 ·exact (hboth _ (by omega) (by omega) (hlowB _ (by omega))).trans h.res
 ·refine ⟨h.names.1, ?_⟩
  rcases h.names.2 with e | ⟨g6, cap6, cur6, hv, hB6, hg6, rest⟩
  ·exact .inl e
  ·refine .inr ⟨g6, cap6, cur6, hv, hB6, (hboth g6 (Array.getElem?_eq_some_iff.1 hg6).1 (by omega) fun e => ?_).trans hg6, rest⟩
   exact h.apart g6 (by rw [hv]; rfl) e
 ·have e : ((P.take (j6 + 1)).map (fun x => x.1.ty)).flatten = ((P.take j6).map fun x => x.1.ty).flatten ++ x.1.ty := by
   rw [List.take_add_one, hx]; simp
  rw [e];refine own_from hown fun b hb hlt => hfar b (by omega)
 ·intro b hb e
  simp [Value.ownBlock] at e;subst e;rcases hat with e | e
  ·exact h.apart gb hb e
  ·have := (h.names.lt gb hb).2
   omega
theorem OfI.seal {w : World} {B g lo n cap : Nat} {k : Int} {P P' : List Nt} {A5 : Option Addr} {c5 : Nat} {A6 : Option Addr} {c6 : Nat} {wr : World} (h : OfI w B g k P' n n A5 c5 A6 c6 wr) (hp : P'.Perm P) (hR : NmR lo P n (.slice (some ⟨g, 0, none⟩) n cap) w) (hz : n <= 1000000) :
  (∀ i v, ([.int .i64 k, .string ⟨#[]⟩, .int .i64 0, .string ⟨#[]⟩, .string ⟨#[]⟩, .slice A5 n c5, .slice A6 n c6] : List Value)[i]? = some v -> (wr.setRow w.heap.size #[.int .i64 k, .string ⟨#[]⟩, .int .i64 0, .string ⟨#[]⟩, .string ⟨#[]⟩, .slice A5 n c5, .slice A6 n c6]).cell? ⟨w.heap.size, i, none⟩ = some v) /\
  TyAt (strike (· < lo) (wr.setRow w.heap.size #[.int .i64 k, .string ⟨#[]⟩, .int .i64 0, .string ⟨#[]⟩, .string ⟨#[]⟩, .slice A5 n c5, .slice A6 n c6])) [.int .i64 k, .string ⟨#[]⟩, .int .i64 0, .string ⟨#[]⟩, .string ⟨#[]⟩, .slice A5 n c5, .slice A6 n c6] (.mk k ⟨#[]⟩ 0 ⟨#[]⟩ ⟨#[]⟩ ((fdOf P').map (·.1)) ((fdOf P').map (·.2))) /\
  w.grownBy (wr.setRow w.heap.size #[.int .i64 k, .string ⟨#[]⟩, .int .i64 0, .string ⟨#[]⟩, .string ⟨#[]⟩, .slice A5 n c5, .slice A6 n c6]) (some g) := by
 obtain ⟨hg1, hg2⟩ := h.gB
 have hlo : lo <= g := (hR.own.lt g rfl).1
 have hlen : P'.length = n := by rw [hp.length_eq]; exact hR.len
 have ht : P'.take n = P' := by rw [<- hlen]; exact List.take_length
 generalize hW : wr.setRow w.heap.size #[.int .i64 k, .string ⟨#[]⟩, .int .i64 0, .string ⟨#[]⟩, .string ⟨#[]⟩, .slice A5 n c5, .slice A6 n c6] = W
 have hoth : ∀ b, b ≠ w.heap.size -> W.heap[b]? = wr.heap[b]? := fun b hb => by rw [<- hW]; exact setRow_other wr w.heap.size b _ hb
 have hszW : W.heap.size = wr.heap.size := by rw [<- hW]; simp
 have hgr : w.grownBy W (some g) := by
  have h0 := h.gr;refine ⟨?_, ?_, ?_, by rw [hszW]; exact h0.size, fun b hlt hne => (hoth b (by omega)).trans (h0.block b hlt hne)⟩
  ·rw [<- hW]; exact h0.os
  ·rw [<- hW]; exact h0.tape
  ·rw [<- hW]; exact h0.output
 have hN := h.names
 have hS := h.subs
 rw [ht] at hN hS
 refine ⟨by rw [<- hW]; exact cell7 (setRow_heap wr w.heap.size _ _ _ _ h.res), ?_, hgr⟩
 have hl5 : ∀ b, (Value.slice A5 n c5).ownBlock = some b -> w.heap.size <= b := fun b e => by have := (hN.lt b e).1; omega
 have hl6 : ∀ b, (Value.slice A6 n c6).ownBlock = some b -> w.heap.size <= b := fun b e => by have := (hS.lt b e).1; omega
 have GR : GrR lo ((fdOf P').map (·.1)) n ((fdOf P').map (·.2)) n (.slice A5 n c5) (.slice A6 n c6) W := by
  refine ⟨by simp [fdOf, hlen], by simp [fdOf, hlen], ?_, ?_, ⟨P'.map (fun x => x.1.ty), by simp [hlen], fun l hl => ?_, own_lower (own_from hS fun b hb hlt => hoth b (by omega)) (by omega), fun i l t hil hit => ?_⟩, h.apart⟩
  ·have e : ((fdOf P').map (·.1)).map Value.string = P'.map fun x => .string x.1.s := by simp [fdOf, List.map_map, Function.comp_def]
   rw [e];exact own_lower (own_from hN fun b hb hlt => hoth b (by omega)) (by omega)
  ·intro s hs
   simp only [fdOf, List.map_map, List.mem_map] at hs;obtain ⟨x, hx, rfl⟩ := hs;have := hR.szs x (hp.subset hx)
   show x.1.s.size <= _
   omega
  ·obtain ⟨x, -, rfl⟩ := List.mem_map.1 hl
   rfl
  ·rw [List.getElem?_map] at hil
   simp only [fdOf, List.map_map, List.getElem?_map] at hit;cases hx : P'[i]? with
   | none => rw [hx] at hil; cases hil
   | some x =>
    rw [hx] at hil hit;simp at hil hit;subst hil hit;have hT := hR.trees x (hp.subset (List.mem_of_getElem? hx));refine TyAt.move hT hgr.size fun b hlt hSb => ⟨?_, hgr.block b hlt fun e => hSb (.inr ?_)⟩
    ·rintro (e | e | e)
     ·exact hSb (.inl e)
     ·have := hl5 b e; omega
     ·have := hl6 b e; omega
    ·simp only [Option.some.injEq] at e; subst e; rfl
 exact GR.done k (Nat.le_refl _) (by omega) (by omega)
theorem str1_info : (Tryz.prog.info? 9).map (fun i => (i.zero, i.size, i.bytes)) = some (some (.string ⟨#[]⟩), 1, 16) := by kernel_rfl
theorem ofF_any {lo : Nat} {P : List Nt} {n : Nat} {v : Value} {w : World} (hR : NmR lo P n v w) (h1 : 1 <= n) (hz : n <= 1000) (k : Int) :
  Calls Tryz.prog 203 #[.int .i64 k, v] w fun e w' => ∃ g cap P' l, v = .slice (some ⟨g, 0, none⟩) n cap /\ lo <= g /\ e = .returned (.agg l) /\ P'.Perm P /\ (fdOf P').Pairwise leF /\
   TyAt (strike (· < lo) w') l.toList (.mk k ⟨#[]⟩ 0 ⟨#[]⟩ ⟨#[]⟩ ((fdOf P').map (·.1)) ((fdOf P').map (·.2))) /\ w.grownBy w' (some g) := by
 obtain ⟨w0, hw0⟩ : ∃ w0, w0 = w.alloc (.cells #[.int .i64 0, .string ⟨#[]⟩, .int .i64 0, .string ⟨#[]⟩, .string ⟨#[]⟩, .slice none 0 0, .slice none 0 0] 48) := ⟨_, rfl⟩
 have B0 : Below w.heap.size w w0 := by rw [hw0]; exact below_new (Below.refl _ _) _
 have X0 : Bx w.heap.size w0 := by rw [hw0]; exact heap_alloc_new w _
 have s0 : w0.heap.size = w.heap.size + 1 := by rw [hw0]; simp
 have SN := zH (sort_named (hR.keep B0.size (fun b _ hlt => B0.block b hlt)) h1 (by omega))
 have HR := zH hR
 obtain ⟨A0, cap0, rfl, -⟩ := hR.cell
 have HB0 := zH B0
 have HX0 := zH X0
 have HS0 := zH s0
 have HW0 := zH hw0
 clear hR hw0 B0 X0 s0
 go_enter Tryz.func203, Tryz.ntmps203
 go_upto_region 1 with fail
 rw [<- HW0.out]
 go_wp2_with fail
 refine SN.out.mono ?_
 rintro e w1 ⟨rfl, g, cap, P', hv, hlo, hg0, hgr1, hperm, hsort, hcells⟩
 simp only [Value.slice.injEq, true_and] at hv
 obtain ⟨rfl, rfl⟩ := hv
 have hs0 := HS0.out
 have hgw : g < w.heap.size := by
  have := (HR.out.own.lt g rfl).2
  exact this
 have hs1 : w0.heap.size <= w1.heap.size := hgr1.size
 obtain ⟨w2, hw2⟩ : ∃ w2, w2 = w1.alloc (.cells #[.int .i64 k, .string ⟨#[]⟩, .int .i64 0, .string ⟨#[]⟩, .string ⟨#[]⟩, .slice none 0 0, .slice none 0 0] 48) := ⟨_, rfl⟩
 have B2 : Below w1.heap.size w1 w2 := by rw [hw2]; exact below_new (Below.refl _ _) _
 have I0 : Hid (OfI w w1.heap.size g k P' 0 0 none 0 none 0 w2) := zH (by
  have b0 := HB0.out;refine ⟨⟨?_, ?_, ?_, ?_, ?_⟩, ?_, ?_, ?_, World.ownsRow_nil _ _ _ _, World.ownsRow_nil _ _ _ _, fun b h => by simp [Value.ownBlock] at h, hgw, by omega⟩
  ·exact B2.os.trans (hgr1.os.trans b0.os)
  ·exact B2.tape.trans (hgr1.tape.trans b0.tape)
  ·exact B2.output.trans (hgr1.output.trans b0.output)
  ·have := B2.size; omega
  ·intro b hlt hne
   exact (B2.block b (by omega)).trans ((hgr1.block b (by omega) hne).trans (b0.block b hlt))
  ·intro i x hx q u hu
   exact (B2.cell (p := ⟨g, _, none⟩) (by show g < w1.heap.size; omega)).trans (hcells i x hx q u hu)
  ·rw [hw2]; exact heap_alloc_new w1 _
  ·exact (B2.block _ (by omega)).trans ((hgr1.block _ (by omega) (fun e => by simp only [Option.some.injEq] at e; omega)).trans HX0.out))
 have hlen' : P'.length = n := by rw [hperm.length_eq]; exact HR.out.len
 have HLEN := zH hlen'
 have HPS := zH (⟨hperm, hsort, hlo⟩ : P'.Perm P /\ (fdOf P').Pairwise leF /\ lo <= g)
 have HW2 := zH hw2
 obtain ⟨B, hB⟩ : ∃ B, w1.heap.size = B := ⟨_, rfl⟩
 have HB := zH hB
 have hBw : w.heap.size < B := by omega
 rw [hB] at I0
 clear hgr1 hcells hs0 hs1 hw2 B2 hperm hsort hlen' SN HX0 HB0 hlo hB
 go_upto_region 3 with fail
 rw [<- HW2.out, HB.out]
 go_wp2_with fail
 go_loopw [14] (fun i wr => ∃ (j : Nat) (A5 : Option Addr) (c5 : Nat) (A6 : Option Addr) (c6 : Nat), j <= n /\ i = .int .i64 j /\ Hid (OfI w B g k P' j j A5 c5 A6 c6 wr)) (fun i _ => n - (intOf i).toNat)
 case atStart => exact ⟨0, none, 0, none, 0, by omega, rfl, I0⟩
 case round =>
  obtain ⟨j, A5, c5, A6, c6, hj, rfl, HI⟩ := hrel;obtain ⟨wo, rfl⟩ : ∃ wo : World, wo = wr := ⟨_, rfl⟩;have hBo := (Array.getElem?_eq_some_iff.1 HI.out.box).1;by_cases hlt : j < n
  ·obtain ⟨x, hx⟩ : ∃ x, P'[j]? = some x := ⟨_, List.getElem?_eq_getElem (by rw [HLEN.out]; exact hlt)⟩
   have cc := HI.out.row j x hx;obtain ⟨gg, hgg⟩ : ∃ gg : Nat, gg = 0 := ⟨_, rfl⟩;have h0 : wo.cell? ⟨g, 0 + j * 8, none⟩ = some (.string x.1.s) := cc 0 _ rfl;have h1' := cc 1 _ rfl
   have h2' := cc 2 _ rfl
   have h3' := cc 3 _ rfl
   have h4' := cc 4 _ rfl
   have h5' := cc 5 _ rfl
   have h6' := cc 6 _ rfl
   have h7' := cc 7 _ rfl
   rw [Nat.zero_add] at h0 h1' h2' h3' h4' h5' h6' h7';obtain ⟨wf, hwf⟩ : ∃ wf, wf = wo.alloc (.cells #[.string x.1.s, .int .i64 x.1.k, .string x.1.p, .int .i64 x.1.m, .string x.1.d, .string x.1.n, .slice x.1.A5 x.1.n5 x.1.c5, .slice x.1.A6 x.1.n6 x.1.c6] 50) := ⟨_, rfl⟩;have Bf : Below wo.heap.size wo wf := by rw [hwf]; exact below_new (Below.refl _ _) _
   have Xf : wf.heap[wo.heap.size]? = some (.cells #[.string x.1.s, .int .i64 x.1.k, .string x.1.p, .int .i64 x.1.m, .string x.1.d, .string x.1.n, .slice x.1.A5 x.1.n5 x.1.c5, .slice x.1.A6 x.1.n6 x.1.c6] 50 (0, 0)) := by rw [hwf]; exact heap_alloc_new wo _
   have IF := HI.out.keep Bf;have HX := zH hx;have HIF := zH IF;have HXF := zH Xf;have HWF := zH hwf;have hFs : wo.heap.size < wf.heap.size := (Array.getElem?_eq_some_iff.1 Xf).1;have hfB : wo.heap.size ≠ B := by omega
   clear cc hx hwf;go_upto_region 6 with fail
   rw [<- HWF.out];clear h0 h1' h2' h3' h4' h5' h6' h7';have b5 : wf.cell? ⟨B, 5, none⟩ = some (.slice A5 j c5) := cZ IF.box 5;have f0 : wf.cell? ⟨wo.heap.size, 0, none⟩ = some (.string x.1.s) := cZ Xf 0;have hown := IF.names;obtain ⟨inf, hi1', hy0, hy1, hy2⟩ := info_parts str1_info;have hMX : j + 1 <= maxLen := by unfold maxLen; omega
   have hAL : B + 1 <= (wf.alloc (.cells #[.string x.1.s] 9)).heap.size := by
    have e1 : (wf.alloc (.cells #[.string x.1.s] 9)).heap.size = wf.heap.size + 1 := (by simp);omega
   have hNW : ∀ q u, ([.string x.1.s] : List Value)[q]? = some u -> (wf.alloc (.cells #[.string x.1.s] 9)).cell? ((⟨wf.heap.size, 0, none⟩ : Addr).add q) = some u := fun q u hq => by
    rw [WideShapes.add_plain, Nat.zero_add, cZ (heap_alloc_new wf _), <- hq, <- List.getElem?_toArray]
   clear IF Xf;go_upto_region 7 with ((with_reducible refine wpList_append_lies _ ?_ (.tmp 19) (.tmp 22) 45 ?_ (B + 1) 9 inf _ 1 16 ?_ hi1' hy0 hy1 hy2 ?_ ?_ (.slice A5 j c5) (j) _ ?_ (hown.alloc _) ⟨wf.heap.size, 0, none⟩ 1 1 [.string x.1.s] ?_ ?_ ?_ ?_ ?_ ?_ ?_ ?_ _ rfl ?_); rfl; rfl; exact Tryz.underlying45; rfl; exact Nat.zero_lt_succ _; rfl; rfl; rfl; exact hNW; exact (fun u hu => by simp at hu; subst hu; rfl); exact Nat.one_pos; exact hMX; omega; exact hAL; intro gb cp w5 hown5 hgrow hat hlt5; obtain ⟨J1, J2, y5, z5⟩ := OfI.addName HIF.out HX.out hown5 hgrow hat; have HJ1 := zH J1; have HJ2 := zH J2; have HN5 := zH (fun b e => (HIF.out.names.lt b e).2); clear J1 J2 hown5 hgrow hat hown hNW hAL hMX hi1' hy0 hy1 hy2 b5 f0)
   obtain ⟨w6, hw6⟩ : ∃ w6, w6 = w5.setCell ⟨B, 5, none⟩ (.slice (some ⟨gb, 0, none⟩) (j + 1) cp) := ⟨_, rfl⟩;have I6 : OfI w B g k P' (j + 1) j (some ⟨gb, 0, none⟩) cp A6 c6 w6 := by rw [hw6]; exact HJ1.out
   have X6 : w6.heap[wo.heap.size]? = some (.cells #[.string x.1.s, .int .i64 x.1.k, .string x.1.p, .int .i64 x.1.m, .string x.1.d, .string x.1.n, .slice x.1.A5 x.1.n5 x.1.c5, .slice x.1.A6 x.1.n6 x.1.c6] 50 (0, 0)) := by
    rw [hw6, HJ2.out wo.heap.size hFs hfB (fun e => by
     have := (HI.out.names.lt _ e).2; omega)]
    exact HXF.out
   rw [<- hw6];have HI6 := zH I6;have b6 : w6.cell? ⟨B, 6, none⟩ = some (.slice A6 j c6) := cZ I6.box 6;have f1 := cZ X6 1;have f2 := cZ X6 2;have f3 := cZ X6 3;have f4 := cZ X6 4;have f5 := cZ X6 5;have f6 := cZ X6 6;have f7 := cZ X6 7;simp at f1 f2 f3 f4 f5 f6 f7;have hown := I6.subs;have hB6 := (Array.getElem?_eq_some_iff.1 I6.box).1;obtain ⟨inf6, hi1', hy0, hy1, hy2⟩ := info_parts typ_info;have hMX : j + 1 <= maxLen := by unfold maxLen; omega
   have hAL : B + 1 <= (w6.alloc (.cells #[.int .i64 x.1.k, .string x.1.p, .int .i64 x.1.m, .string x.1.d, .string x.1.n, .slice x.1.A5 x.1.n5 x.1.c5, .slice x.1.A6 x.1.n6 x.1.c6] 48)).heap.size := by
    have e1 : (w6.alloc (.cells #[.int .i64 x.1.k, .string x.1.p, .int .i64 x.1.m, .string x.1.d, .string x.1.n, .slice x.1.A5 x.1.n5 x.1.c5, .slice x.1.A6 x.1.n6 x.1.c6] 48)).heap.size = w6.heap.size + 1 := (by simp);omega
   have hNW : ∀ q u, ([.int .i64 x.1.k, .string x.1.p, .int .i64 x.1.m, .string x.1.d, .string x.1.n, .slice x.1.A5 x.1.n5 x.1.c5, .slice x.1.A6 x.1.n6 x.1.c6] : List Value)[q]? = some u -> (w6.alloc (.cells #[.int .i64 x.1.k, .string x.1.p, .int .i64 x.1.m, .string x.1.d, .string x.1.n, .slice x.1.A5 x.1.n5 x.1.c5, .slice x.1.A6 x.1.n6 x.1.c6] 48)).cell? ((⟨w6.heap.size, 0, none⟩ : Addr).add q) = some u := fun q u hq => by
    rw [WideShapes.add_plain, Nat.zero_add, cZ (heap_alloc_new w6 _), <- hq, <- List.getElem?_toArray]
   clear hw6 I6 X6 y5 z5;go_upto_region 8 with ((with_reducible refine wpList_append_lies _ ?_ (.tmp 26) (.tmp 29) 46 ?_ (B + 1) 48 inf6 _ 7 112 ?_ hi1' hy0 hy1 hy2 ?_ ?_ (.slice A6 j c6) (j) _ ?_ (hown.alloc _) ⟨w6.heap.size, 0, none⟩ 1 1 [.int .i64 x.1.k, .string x.1.p, .int .i64 x.1.m, .string x.1.d, .string x.1.n, .slice x.1.A5 x.1.n5 x.1.c5, .slice x.1.A6 x.1.n6 x.1.c6] ?_ ?_ ?_ ?_ ?_ ?_ ?_ ?_ _ rfl ?_); rfl; rfl; exact Tryz.underlying46; rfl; exact Nat.zero_lt_succ _; rfl; rfl; rfl; exact hNW; exact (fun u hu => by simp at hu; rcases hu with rfl | rfl | rfl | rfl | rfl | rfl | rfl <;> rfl); exact Nat.one_pos; exact hMX; omega; exact hAL; intro gd cq w7 hown7 hgrow hat hlt7; obtain ⟨L1, y6, z6⟩ := OfI.addSub HI6.out HX.out hown7 hgrow hat; have HL1 := zH L1; clear L1 hown7 hgrow hat hown hNW hAL hMX hi1' hy0 hy1 hy2 b6 f1 f2 f3 f4 f5 f6 f7)
   obtain ⟨w8, hw8⟩ : ∃ w8, w8 = w7.setCell ⟨B, 6, none⟩ (.slice (some ⟨gd, 0, none⟩) (j + 1) cq) := ⟨_, rfl⟩;have I8 : Hid (OfI w B g k P' (j + 1) (j + 1) (some ⟨gb, 0, none⟩) cp (some ⟨gd, 0, none⟩) cq w8) := zH (by rw [hw8]; exact HL1.out);rw [<- hw8];clear hw8 y6 z6 HL1 HI6;go_wp2_with fail
   go_roundw
   case rel => exact ⟨j + 1, _, _, _, _, by omega, by go_num, I8⟩
   case measure => simp [intOf]; omega
  ·have hjn : j = n := by omega
   subst hjn;have SEAL := zH (HI.out.seal HPS.out.1 HR.out (by omega));have X := HI.out.res;have O := HI.out.box;obtain ⟨x0, x1, x2, x3, x4, x5, x6⟩ := cq7 O;simp at x0 x1 x2 x3 x4 x5 x6;unfold Bx at X
   have HPO := zH HPS.out;clear HI O HPS I0;go_upto_region 9 with fail
   go_wp2_with (first | ((with_reducible refine wpList_putRow 48 (w.heap.size) #[.int .i64 k, .string ⟨#[]⟩, .int .i64 0, .string ⟨#[]⟩, .string ⟨#[]⟩, .slice A5 j c5, .slice A6 j c6] _ _ X ?_ ?_ ?_ ?_ ?_ ?_); exact tySize; rfl; exact tyOne; iterate 2 (focus (first | (go_simp; done) | rfl))))
   exact ret_agg1 (fn := Tryz.f203) (vs := [.int .i64 k, .string ⟨#[]⟩, .int .i64 0, .string ⟨#[]⟩, .string ⟨#[]⟩, .slice A5 j c5, .slice A6 j c6]) (b := w.heap.size) rfl rfl Tryz.underlying48 (by kernel_rfl) SEAL.out.1 rfl ⟨g, _, P', _, rfl, HPO.out.2.2, rfl, HPO.out.1, HPO.out.2.1, SEAL.out.2.1, SEAL.out.2.2⟩
theorem fd_perm {P P' : List Nt} (h : P'.Perm P) : (fdOf P').Perm (fdOf P) := h.map _
theorem rec_res {k : Int} {b i c : Nat} {s : Bool} {P P' : List Nt} (hp : P'.Perm P) (hs : (fdOf P').Pairwise leF) (hd : b = 0 -> ((fdOf P).map (·.1)).Nodup) :
    badR (psB b s) i (.ok (Ty.mk k ⟨#[]⟩ 0 ⟨#[]⟩ ⟨#[]⟩ ((fdOf P').map (·.1)) ((fdOf P').map (·.2))) i c) = badR (psB b s) i (.ok (Ty.mk k ⟨#[]⟩ 0 ⟨#[]⟩ ⟨#[]⟩ (insN (fdOf P)) (insS (fdOf P))) i c) := by
  by_cases hb : b = 0
  · obtain ⟨e1, e2⟩ := ins_sorted (fd_perm hp) hs (hd hb)
    rw [e1, e2]
  · exact badR_bad (by rw [psB_bad _ hb]; exact hb)
theorem RSt.grown {cu r : Nat} {A : Option Addr} {n cn i c b g lo m cap : Nat} {P : List Nt} {w w' : World} (h : RSt cu r A n cn i c b w) (hg : w.grownBy w' (some g)) (hR : NmR lo P m (.slice (some ⟨g, 0, none⟩) m cap) w) : RSt cu r A n cn i c b w' := by
  rcases hR.own.2 with ⟨e, -⟩ | ⟨g', cap', cur, hv, -, hgg, -⟩
  · cases e
  · simp only [Value.slice.injEq, Option.some.injEq, Addr.mk.injEq] at hv
    obtain ⟨⟨rfl, -⟩, -⟩ := hv
    exact h.keep fun k hk hlt => hg.block k hlt fun e => by
      simp only [Option.some.injEq] at e;subst e;rcases hk _ _ _ hgg with q | q | q <;> exact absurd q (by decide)
theorem crecord_any {W : World} {cu r : Nat} {A : Option Addr} {S : Toks} {cn f : Nat} (RD : ∀ g, g < f -> CReadOk W cu r A S cn g) :
    CKOk W cu r A S cn 168 [123] (fun d i c => partsR S 5 [125] f d i c) := by
  intro d d' i c w R hc h hs hc5 hd hd5 hR hne;have hR' : R = partsR S 5 [125] f d (i + 1) c := hR
  have hr := h.lt;have hq0 := h.qlt;have hbig := hc.cur.big;obtain ⟨w0, hw0⟩ : ∃ w0, w0 = w.alloc (.cells #[.int .i64 0, .string ⟨#[]⟩, .int .i64 0, .string ⟨#[]⟩, .string ⟨#[]⟩, .slice none 0 0, .slice none 0 0] 48) := ⟨_, rfl⟩;have B0 : Below w.heap.size w w0 := by rw [hw0]; exact below_new (Below.refl _ _) _
  have X0 : Bx w.heap.size w0 := by rw [hw0]; exact heap_alloc_new w _
  have hl0 : w.heap.size < w0.heap.size := (Array.getElem?_eq_some_iff.1 X0).1;have hne0 : w.heap.size ≠ r /\ w.heap.size ≠ cu := ⟨Nat.ne_of_gt hr, Nat.ne_of_gt hq0⟩;have C0 := hc.on (KQ.of_below B0);have h0 := h.below B0;have SG := zH (rsign_any C0 h0 ⟨#[123]⟩);have p0 := h0.p;have HC0 := zH C0;have HX0 := zH X0;have HK0 := zH (KQ.of_below (q := cu) (r := r) B0);have HR := zH hR';have HNE := zH hne;have RDD := zH RD;have HD := zH hd;have HS := zH hs;have HW0 := zH hw0;clear h hc hR hR' hne RD hd hw0 B0 X0 C0 h0 hs;go_enter Tryz.func168, Tryz.ntmps168
  go_upto_region 1 with fail
  rw [<- HW0.out];go_wp2_with fail
  refine SG.out.mono ?_; rintro e w1 ⟨rfl, h1, k1⟩
  have h1' : RSt cu r A S.n cn (i + 1) c 0 w1 := by
    have e : S.sign i (ByteArray.mk #[123]).data.toList = true := HS.out;rw [e] at h1; exact h1
  have C1 := HC0.out.on k1;have HX1 : Hid (Bx w.heap.size w1) := zH ((k1.blk hl0 hne0).trans HX0.out);have HK1 := zH (HK0.out.trans k1);have HC1 := zH C1;have hl1 := Nat.lt_of_lt_of_le hl0 k1.size;have p1 := h1'.p;have SK := zH (rskip_any C1 h1' ⟨#[125]⟩);clear h1 h1' k1 C1 SG HX0 HK0 HC0 p0;go_wp2_with fail
  refine SK.out.mono ?_; rintro e w2 ⟨rfl, h2, k2⟩
  obtain ⟨v, hv⟩ : ∃ v, S.sign (i + 1) (ByteArray.mk #[125]).data.toList = v := ⟨_, rfl⟩;rw [hv] at h2 ⊢;have HV : Hid (S.sign (i + 1) [125] = v) := zH hv;have C2 := HC1.out.on k2;have HX2 : Hid (Bx w.heap.size w2) := zH ((k2.blk hl1 hne0).trans HX1.out);have HK2 := zH (HK1.out.trans k2);have HC2 := zH C2;have hl2 := Nat.lt_of_lt_of_le hl1 k2.size;have H2 := zH h2;have p2 := h2.p;clear hv h2 k2 C2 SK HX1 HK1 HC1 p1;cases v with
  | true =>
    have X2 := HX2.out;have h2' : RSt cu r A S.n cn (i + 2) c 0 w2 := H2.out
    have SEAL := zH (COut.seal (R := R) (Nat.le_refl _) X2 HK2.out (TyAt.leaf (strike (· < w.heap.size + 1) w2) 5 ⟨#[]⟩ 0 ⟨#[]⟩ ⟨#[]⟩ (by decide) (by decide) (by decide)) (Nat.lt_succ_self _) hr h2' hc5 (by
      rw [HR.out]; unfold partsR; rw [if_pos ⟨rfl, HV.out⟩]; rfl))
    unfold Bx at X2
    clear h2' HX2 HK2 H2 HC2 p2;go_upto_region 3 with fail
    go_wp2_with (first | ((with_reducible refine wpList_putRow 48 (w.heap.size) #[.int .i64 5, .string ⟨#[]⟩, .int .i64 0, .string ⟨#[]⟩, .string ⟨#[]⟩, .slice none 0 0, .slice none 0 0] _ _ X2 ?_ ?_ ?_ ?_ ?_ ?_); exact tySize; rfl; exact tyOne; iterate 2 (focus (first | (go_simp; done) | rfl))))
    exact ret_agg1 (fn := Tryz.f168) (vs := [.int .i64 5, .string ⟨#[]⟩, .int .i64 0, .string ⟨#[]⟩, .string ⟨#[]⟩, .slice none 0 0, .slice none 0 0]) (b := w.heap.size) rfl rfl Tryz.underlying48 (by kernel_rfl) SEAL.out.1 rfl SEAL.out.2
  | false =>
    have hF : R = pParts S 5 [125] f d (i + 1) c [] [] := by rw [HR.out]; unfold partsR; rw [if_neg (by rw [HV.out]; simp)]
    have h2' : RSt cu r A S.n cn (i + 1) c 0 w2 := H2.out
    have FL := zH (fields_any RDD.out HC2.out h2' hc5 HD.out hd5 75 smallK asksSmall (by decide) (k := 5) (fun i => (small_k S i).trans (by unfold Toks.nameOk; simp)) (by decide) R hF HNE.out);clear hF h2';go_upto_region 4 with fail
    go_wp2_with fail
    refine FL.out.mono ?_; rintro e w3 ⟨P, n, v3, i3, c3, b3, rfl, k3, ROW3, h3, hfin, h21, hn1, hc3, hdd⟩
    have C3 := HC2.out.on k3;have SG := zH (rsign_any C3 h3 ⟨#[125]⟩);have p3 := h3.p;have hs3 := k3.size;have HX3 : Hid (Bx w.heap.size w3) := zH ((k3.blk hl2 hne0).trans HX2.out);have HK3 := zH (HK2.out.trans k3);have HROW3 := zH ROW3;have HFIN := zH hfin;have HL3 := zH (⟨h21, hn1, hc3⟩ : n <= 21 /\ 1 <= n /\ c3 <= 500);have HDD := zH hdd;have hr3 := h3.lt;have hq3 := h3.qlt;obtain ⟨A7, c7, rfl, -⟩ := ROW3.cell;clear k3 ROW3 h3 hfin h21 hn1 hc3 hdd C3 FL HC2 HX2 HK2;go_wp2_with fail
    refine SG.out.mono ?_; rintro e w4 ⟨rfl, h4, k4⟩
    have hs4 := k4.size;have ROW4 := HROW3.out.keep hs4 (fun b hb hlt => k4.blk hlt (by omega));have OF := zH (ofF_any ROW4 HL3.out.2.1 (by have := HL3.out.1; omega) 5);have H4 := zH h4;have HX4 : Hid (Bx w.heap.size w4) := zH ((k4.blk (by omega) hne0).trans HX3.out);have HK4 := zH (HK3.out.trans k4);have HROW4 := zH ROW4;clear h4 k4 ROW4 SG HX3 HK3 HROW3 p3;go_wp2_with fail
    refine OF.out.mono ?_; rintro e w5 ⟨g, cap, P', ll, hv, hlo, rfl, hperm, hsort, hT, hgr⟩
    simp only [Value.slice.injEq, true_and] at hv;obtain ⟨rfl, rfl⟩ := hv;obtain ⟨ll⟩ := ll;obtain ⟨t, ht⟩ : ∃ t, t = Ty.mk 5 ⟨#[]⟩ 0 ⟨#[]⟩ ⟨#[]⟩ ((fdOf P').map (·.1)) ((fdOf P').map (·.2)) := ⟨_, rfl⟩;have hT' : TyAt (strike (· < w2.heap.size) w5) ll t := by rw [ht]; exact hT
    obtain ⟨An, cA, As, cS, rfl, -⟩ := hT'.parts;have hs5 := hgr.size;have h5 := H4.out.grown hgr HROW4.out;have X5 : Bx w.heap.size w5 := (hgr.block _ (by omega) (fun e => by simp only [Option.some.injEq] at e; omega)).trans HX4.out;have K5 : KQ cu r w w5 := HK4.out.grow hgr fun b e => by simp only [Option.some.injEq] at e; omega
    have SEAL := zH (COut.seal (R := R) (Nat.le_refl _) X5 K5 (hT'.move (S' := (· < w.heap.size + 1)) (Nat.le_refl _) fun b hb hS => ⟨fun e => hS (Nat.lt_of_lt_of_le (show b < w.heap.size + 1 from e) hl2), rfl⟩) (Nat.lt_succ_self _) hr h5 HL3.out.2.2 (by
      rw [ht, HFIN.out, shutP_res];exact rec_res hperm hsort HDD.out))
    unfold Bx at X5
    clear hT hT' hgr hperm hsort ht h5 K5 OF H4 HX4 HK4 HROW4 HFIN HDD HL3 hlo;go_wp2_with (first | ((with_reducible refine wpList_putRow 48 (w.heap.size) #[.int .i64 t.kind, .string t.pkg, .int .i64 t.major, .string t.mod, .string t.name, .slice An t.names.length cA, .slice As t.subs.length cS] _ _ X5 ?_ ?_ ?_ ?_ ?_ ?_); exact tySize; rfl; exact tyOne; iterate 2 (focus (first | (go_simp; done) | rfl))))
    exact ret_agg1 (fn := Tryz.f168) (vs := [.int .i64 t.kind, .string t.pkg, .int .i64 t.major, .string t.mod, .string t.name, .slice An t.names.length cA, .slice As t.subs.length cS]) (b := w.heap.size) rfl rfl Tryz.underlying48 (by kernel_rfl) SEAL.out.1 rfl SEAL.out.2
theorem cvariant_any {W : World} {cu r : Nat} {A : Option Addr} {S : Toks} {cn f : Nat} (RD : ∀ g, g < f -> CReadOk W cu r A S cn g) :
    CKOk W cu r A S cn 169 [91] (fun d i c => partsR S 6 [93] f d i c) := by
  intro d d' i c w R hc h hs hc5 hd hd5 hR hne;have hR' : R = partsR S 6 [93] f d (i + 1) c := hR
  have hr := h.lt;have hq0 := h.qlt;have hbig := hc.cur.big;obtain ⟨w0, hw0⟩ : ∃ w0, w0 = w.alloc (.cells #[.int .i64 0, .string ⟨#[]⟩, .int .i64 0, .string ⟨#[]⟩, .string ⟨#[]⟩, .slice none 0 0, .slice none 0 0] 48) := ⟨_, rfl⟩;have B0 : Below w.heap.size w w0 := by rw [hw0]; exact below_new (Below.refl _ _) _
  have X0 : Bx w.heap.size w0 := by rw [hw0]; exact heap_alloc_new w _
  have hl0 : w.heap.size < w0.heap.size := (Array.getElem?_eq_some_iff.1 X0).1;have hne0 : w.heap.size ≠ r /\ w.heap.size ≠ cu := ⟨Nat.ne_of_gt hr, Nat.ne_of_gt hq0⟩;have C0 := hc.on (KQ.of_below B0);have h0 := h.below B0;have SG := zH (rsign_any C0 h0 ⟨#[91]⟩);have p0 := h0.p;have HC0 := zH C0;have HX0 := zH X0;have HK0 := zH (KQ.of_below (q := cu) (r := r) B0);have HR := zH hR';have HNE := zH hne;have RDD := zH RD;have HD := zH hd;have HS := zH hs;have HW0 := zH hw0;clear h hc hR hR' hne RD hd hw0 B0 X0 C0 h0 hs;go_enter Tryz.func169, Tryz.ntmps169
  go_upto_region 1 with fail
  rw [<- HW0.out];go_wp2_with fail
  refine SG.out.mono ?_; rintro e w1 ⟨rfl, h1, k1⟩
  have h1' : RSt cu r A S.n cn (i + 1) c 0 w1 := by
    have e : S.sign i (ByteArray.mk #[91]).data.toList = true := HS.out;rw [e] at h1; exact h1
  have C1 := HC0.out.on k1;have HX1 : Hid (Bx w.heap.size w1) := zH ((k1.blk hl0 hne0).trans HX0.out);have HK1 := zH (HK0.out.trans k1);have HC1 := zH C1;have hl1 := Nat.lt_of_lt_of_le hl0 k1.size;have p1 := h1'.p;clear h1 k1 C1 SG HX0 HK0 HC0 p0;have hF : R = pParts S 6 [93] f d (i + 1) c [] [] := by rw [HR.out]; unfold partsR; rw [if_neg (by simp)]
  obtain ⟨w2, hw2⟩ : ∃ w2 : World, w2 = w1 := ⟨_, rfl⟩;subst hw2;have h2' := h1'
  have HX2 := HX1;have HK2 := HK1;have HC2 := HC1;have hl2 := hl1;clear HX1 HK1 HC1 h1';have FL := zH (fields_any RDD.out HC2.out h2' hc5 HD.out hd5 77 greatK asksGreat (by decide) (k := 6) (fun i => (great_k S i).trans (by unfold Toks.nameOk; simp)) (by decide) R hF HNE.out);clear hF h2';go_upto_region 2 with fail
  go_wp2_with fail
  refine FL.out.mono ?_; rintro e w3 ⟨P, n, v3, i3, c3, b3, rfl, k3, ROW3, h3, hfin, h21, hn1, hc3, hdd⟩
  have C3 := HC2.out.on k3;have SG := zH (rsign_any C3 h3 ⟨#[93]⟩);have p3 := h3.p;have hs3 := k3.size;have HX3 : Hid (Bx w.heap.size w3) := zH ((k3.blk hl2 hne0).trans HX2.out);have HK3 := zH (HK2.out.trans k3);have HROW3 := zH ROW3;have HFIN := zH hfin;have HL3 := zH (⟨h21, hn1, hc3⟩ : n <= 21 /\ 1 <= n /\ c3 <= 500);have HDD := zH hdd;have hr3 := h3.lt;have hq3 := h3.qlt;obtain ⟨A7, c7, rfl, -⟩ := ROW3.cell;clear k3 ROW3 h3 hfin h21 hn1 hc3 hdd C3 FL HC2 HX2 HK2;go_wp2_with fail
  refine SG.out.mono ?_; rintro e w4 ⟨rfl, h4, k4⟩
  have hs4 := k4.size;have ROW4 := HROW3.out.keep hs4 (fun b hb hlt => k4.blk hlt (by omega));have OF := zH (ofF_any ROW4 HL3.out.2.1 (by have := HL3.out.1; omega) 6);have H4 := zH h4;have HX4 : Hid (Bx w.heap.size w4) := zH ((k4.blk (by omega) hne0).trans HX3.out);have HK4 := zH (HK3.out.trans k4);have HROW4 := zH ROW4;clear h4 k4 ROW4 SG HX3 HK3 HROW3 p3;go_wp2_with fail
  refine OF.out.mono ?_; rintro e w5 ⟨g, cap, P', ll, hv, hlo, rfl, hperm, hsort, hT, hgr⟩
  simp only [Value.slice.injEq, true_and] at hv;obtain ⟨rfl, rfl⟩ := hv;obtain ⟨ll⟩ := ll;obtain ⟨t, ht⟩ : ∃ t, t = Ty.mk 6 ⟨#[]⟩ 0 ⟨#[]⟩ ⟨#[]⟩ ((fdOf P').map (·.1)) ((fdOf P').map (·.2)) := ⟨_, rfl⟩;have hT' : TyAt (strike (· < w2.heap.size) w5) ll t := by rw [ht]; exact hT
  obtain ⟨An, cA, As, cS, rfl, -⟩ := hT'.parts;have hs5 := hgr.size;have h5 := H4.out.grown hgr HROW4.out;have X5 : Bx w.heap.size w5 := (hgr.block _ (by omega) (fun e => by simp only [Option.some.injEq] at e; omega)).trans HX4.out;have K5 : KQ cu r w w5 := HK4.out.grow hgr fun b e => by simp only [Option.some.injEq] at e; omega
  have SEAL := zH (COut.seal (R := R) (Nat.le_refl _) X5 K5 (hT'.move (S' := (· < w.heap.size + 1)) (Nat.le_refl _) fun b hb hS => ⟨fun e => hS (Nat.lt_of_lt_of_le (show b < w.heap.size + 1 from e) hl2), rfl⟩) (Nat.lt_succ_self _) hr h5 HL3.out.2.2 (by
    rw [ht, HFIN.out, shutP_res];exact rec_res hperm hsort HDD.out))
  unfold Bx at X5
  clear hT hT' hgr hperm hsort ht h5 K5 OF H4 HX4 HK4 HROW4 HFIN HDD HL3 hlo;go_wp2_with (first | ((with_reducible refine wpList_putRow 48 (w.heap.size) #[.int .i64 t.kind, .string t.pkg, .int .i64 t.major, .string t.mod, .string t.name, .slice An t.names.length cA, .slice As t.subs.length cS] _ _ X5 ?_ ?_ ?_ ?_ ?_ ?_); exact tySize; rfl; exact tyOne; iterate 2 (focus (first | (go_simp; done) | rfl))))
  exact ret_agg1 (fn := Tryz.f169) (vs := [.int .i64 t.kind, .string t.pkg, .int .i64 t.major, .string t.mod, .string t.name, .slice An t.names.length cA, .slice As t.subs.length cS]) (b := w.heap.size) rfl rfl Tryz.underlying48 (by kernel_rfl) SEAL.out.1 rfl SEAL.out.2
theorem cread_all {W : World} {cu r : Nat} {A : Option Addr} {S : Toks} {cn : Nat} (he : CEnv W) : ∀ f, ∀ g, g <= f -> CReadOk W cu r A S cn g
  | 0, g, hg => by
    have : g = 0 := by omega
    subst this;exact cread_zero he
  | f + 1, g, hg => by
    have ih := cread_all (cu := cu) (r := r) (A := A) (S := S) (cn := cn) he f;rcases Nat.lt_or_ge f g with h | h
    · have : g = f + 1 := by omega
      subst this;exact cread_any he (ih f (Nat.le_refl _)) (crecord_any fun g hg => ih g (by omega)) (cvariant_any fun g hg => ih g (by omega)) (cfn_any fun g hg => ih g (by omega))
    · exact ih g h
theorem cread_ok {W : World} {cu r : Nat} {A : Option Addr} {S : Toks} {cn : Nat} (he : CEnv W) (f : Nat) : CReadOk W cu r A S cn f := cread_all he f f (Nat.le_refl _)
section
variable {P : Program}
theorem results_three {fn : Func} {p u u2 : Tmp} {ty : TypeId} (h : fn.results = #[.cell p ty, .tmp u, .tmp u2]) (tmps : Array Value) (w : World) :
    (results fn tmps).run P w = ((asAddr (tmps.getD p undef)).run P w).andThen fun a w₁ => ((loadVar ty a).run P w₁).andThen fun v w₂ => .ok (.tuple #[v, tmps.getD u undef, tmps.getD u2 undef]) w₂ := by
  simp only [results, h];simp [Sem.run_bind, Result.andThen]
theorem results_four {fn : Func} {p u u2 u3 : Tmp} {ty : TypeId} (h : fn.results = #[.cell p ty, .tmp u, .tmp u2, .tmp u3]) (tmps : Array Value) (w : World) :
    (results fn tmps).run P w = ((asAddr (tmps.getD p undef)).run P w).andThen fun a w₁ => ((loadVar ty a).run P w₁).andThen fun v w₂ => .ok (.tuple #[v, tmps.getD u undef, tmps.getD u2 undef, tmps.getD u3 undef]) w₂ := by
  simp only [results, h];simp [Sem.run_bind, Result.andThen]
theorem ret_agg3 {fn : Func} {R : Ending -> World -> Prop} {a : Act} {w : World} {p u u2 : Tmp} {ty : TypeId} {ds : Array Field} {vs : List Value} {b : Nat} {x y : Value}
    (h : fn.results = #[.cell p ty, .tmp u, .tmp u2]) (hp : a.tmps.getD p undef = .pointer (some ⟨b, 0, none⟩)) (hx : a.tmps.getD u undef = x) (hy : a.tmps.getD u2 undef = y)
    (hty : P.underlying ty = some (.struct ds)) (hi : (P.info? ty).map (·.size) = some vs.length) (hc : ∀ i v, vs[i]? = some v -> w.cell? ⟨b, i, none⟩ = some v)
    (hd : a.defers = []) (hR : R (.returned (.tuple #[.agg vs.toArray, x, y])) w) : bodyPost P fn R .ret a w := by
  refine bodyPost_ret (v := .tuple #[.agg vs.toArray, x, y]) ?_ hd hR;rw [results_three h, hp, hx, hy];simp [asAddr, Result.andThen, run_loadVar_struct w b ty vs ds hty hi hc, Sem.run_pure]
theorem ret_agg4 {fn : Func} {R : Ending -> World -> Prop} {a : Act} {w : World} {p u u2 u3 : Tmp} {ty : TypeId} {ds : Array Field} {vs : List Value} {b : Nat} {x y z : Value}
    (h : fn.results = #[.cell p ty, .tmp u, .tmp u2, .tmp u3]) (hp : a.tmps.getD p undef = .pointer (some ⟨b, 0, none⟩)) (hx : a.tmps.getD u undef = x) (hy : a.tmps.getD u2 undef = y) (hz : a.tmps.getD u3 undef = z)
    (hty : P.underlying ty = some (.struct ds)) (hi : (P.info? ty).map (·.size) = some vs.length) (hc : ∀ i v, vs[i]? = some v -> w.cell? ⟨b, i, none⟩ = some v)
    (hd : a.defers = []) (hR : R (.returned (.tuple #[.agg vs.toArray, x, y, z])) w) : bodyPost P fn R .ret a w := by
  refine bodyPost_ret (v := .tuple #[.agg vs.toArray, x, y, z]) ?_ hd hR;rw [results_four h, hp, hx, hy, hz];simp [asAddr, Result.andThen, run_loadVar_struct w b ty vs ds hty hi hc, Sem.run_pure]
end
def SpAt (g : Nat) (x : Int) (b : Nat) (w : World) : Prop := w.heap[g]? = some (.cells #[.int .i64 x, .iface 31 (.int .i64 b)] 75 (0, 0))
def atR (S : Toks) (i : Nat) : Res Ty := pT S (2 * S.n + 3) 1 i 0
theorem atR_far (S : Toks) (i : Nat) : ∀ j, atR S i ≠ .err 99 j := fun j e => by
  have := (steps S (2 * S.n + 3)).1 1 i 0 (by omega)
  unfold atR at e
  rw [e] at this;exact this rfl
theorem new_any (A : Option Addr) (n cn i : Nat) (w : World) : Calls Tryz.prog 34 #[.slice A n cn, .int .i64 i] w fun e w' => e = .returned (.pointer (some ⟨w.heap.size, 0, none⟩)) /\ w' = w.alloc (.cells #[.slice A n cn, .int .i64 i, .nilIface] 87) := by
  go_enter Tryz.func34, Tryz.ntmps34
  go_wp2_with fail
  go_ret;exact ⟨rfl, rfl⟩
theorem setRow_below {w wk : World} (h : Below w.heap.size w wk) {b : Nat} (hb : w.heap.size <= b) (vs : Array Value) : Below w.heap.size w (wk.setRow b vs) :=
  ⟨h.os, h.tape, h.output, by have := h.size; simpa using this, fun j hj => (setRow_other wk b j _ (by omega)).trans (h.block j hj)⟩
def AtOut (w : World) (S : Toks) (i : Nat) (e : Ending) (w' : World) : Prop :=
  Below w.heap.size w w' /\
  ((∃ (l : List Value) (t : Ty) (j c : Nat), atR S i = .ok t j c /\ e = .returned (.tuple #[.agg l.toArray, .int .i64 j, .nilIface]) /\ TyAt (strike (· < w.heap.size) w') l t) \/
   (∃ (b j g : Nat), atR S i = .err b j /\ b ≠ 0 /\ e = .returned (.tuple #[.agg #[.int .i64 0, .string ⟨#[]⟩, .int .i64 0, .string ⟨#[]⟩, .string ⟨#[]⟩, .slice none 0 0, .slice none 0 0], .int .i64 0, .iface 70 (.pointer (some ⟨g, 0, none⟩))]) /\ SpAt g j b w'))
theorem cat_in {A : Option Addr} {S : Toks} {cn : Nat} {w : World} (hT : TokAt w A S) (he : CEnv w) (hbig : S.n <= 9223372036854775806) (hsm : ∀ i, i < S.n -> (S.T i).size <= 281474976710656) (i : Nat) (hi : i <= S.n) :
    Calls Tryz.prog 79 #[.slice A S.n cn, .int .i64 i] w (AtOut w S i) := by
  obtain ⟨w0, hw0⟩ : ∃ w0, w0 = w.alloc (.cells #[.int .i64 0, .string ⟨#[]⟩, .int .i64 0, .string ⟨#[]⟩, .string ⟨#[]⟩, .slice none 0 0, .slice none 0 0] 48) := ⟨_, rfl⟩;have B0 : Below w.heap.size w w0 := by rw [hw0]; exact below_new (Below.refl _ _) _
  have X0 : Bx w.heap.size w0 := by rw [hw0]; exact heap_alloc_new w _
  have s0 : w0.heap.size = w.heap.size + 1 := by rw [hw0]; simp
  have NW := zH (new_any A S.n cn i w0);obtain ⟨w1, hw1⟩ : ∃ w1, w1 = w0.alloc (.cells #[.slice A S.n cn, .int .i64 i, .nilIface] 87) := ⟨_, rfl⟩;have B1 : Below w0.heap.size w0 w1 := by rw [hw1]; exact below_new (Below.refl _ _) _
  have G1 : w1.heap[w0.heap.size]? = some (.cells #[.slice A S.n cn, .int .i64 i, .nilIface] 87 (0, 0)) := by rw [hw1]; exact heap_alloc_new w0 _
  have s1 : w1.heap.size = w0.heap.size + 1 := by rw [hw1]; simp
  obtain ⟨w2, hw2⟩ : ∃ w2, w2 = w1.alloc (.cells #[.pointer (some ⟨w0.heap.size, 0, none⟩), .int .i64 0] 188) := ⟨_, rfl⟩;have B2 : Below w1.heap.size w1 w2 := by rw [hw2]; exact below_new (Below.refl _ _) _
  have G2 : w2.heap[w1.heap.size]? = some (.cells #[.pointer (some ⟨w0.heap.size, 0, none⟩), .int .i64 0] 188 (0, 0)) := by rw [hw2]; exact heap_alloc_new w1 _
  have s2 : w2.heap.size = w1.heap.size + 1 := by rw [hw2]; simp
  have G12 : w2.heap[w0.heap.size]? = some (.cells #[.slice A S.n cn, .int .i64 i, .nilIface] 87 (0, 0)) := (B2.block _ (by omega)).trans G1;have B02 : Below w.heap.size w w2 := below_over (below_over B0 B1) B2;have R2 : RSt w0.heap.size w1.heap.size A S.n cn i 0 0 w2 := ⟨.inl ⟨rfl, G12⟩, 0, fun _ => rfl, G2⟩;have C2 : RCtx w w0.heap.size w1.heap.size A S w2 := ⟨⟨hT, B02, by omega, hbig, hsm⟩, by omega⟩;have RE := cread_ok (cu := w0.heap.size) (r := w1.heap.size) (A := A) (S := S) (cn := cn) he (2 * S.n + 3) 1 1 i 0 0 w2 C2 R2 (by omega) (by omega) (by omega) (fun _ j => by rw [readR_one]; exact atR_far S i j);rw [badR_0, readR_one] at RE;have HRE : Hid (Calls Tryz.prog 123 #[.pointer (some ⟨w1.heap.size, 0, none⟩), .int .i64 1, .int .i64 1] w2 (COut w2 w0.heap.size w1.heap.size A S.n cn (atR S i))) := zH RE;have HX2 : Hid (Bx w.heap.size w2) := zH ((B2.block _ (by omega)).trans ((B1.block _ (by omega)).trans X0));have HB02 := zH B02;have SS := zH (⟨s0, s1, s2⟩ : w0.heap.size = w.heap.size + 1 /\ w1.heap.size = w0.heap.size + 1 /\ w2.heap.size = w1.heap.size + 1);have HW0 := zH hw0;have HW1 := zH hw1;have HW2 := zH hw2;have hi0 : ¬ (i : Int) < 0 := by omega
  have hi1 : ¬ S.n < i := by omega
  clear hT he hsm hi hw0 hw1 hw2 B0 B1 B2 X0 G1 G2 G12 B02 R2 C2 RE s0 s1 s2;go_enter Tryz.func79, Tryz.ntmps79
  go_upto_region 1 with fail
  rw [<- HW0.out];go_upto_region 3 with fail
  clear hi0 hi1;go_wp2_with fail
  refine NW.out.mono ?_;rintro e wz ⟨rfl, rfl⟩;rw [<- HW1.out];go_upto_region 4 with fail
  rw [<- HW2.out];go_wp2_with fail
  refine HRE.out.mono ?_;rintro e w3 ⟨l, t, i3, c3, b3, rfl, hT3, k3, h3, hc3, hres⟩;obtain ⟨An, cA, As, cS, rfl, -⟩ := hT3.parts;have ss := SS.out;have hs3 := k3.size;obtain ⟨w4, hw4⟩ : ∃ w4, w4 = w3.alloc (.cells #[.int .i64 t.kind, .string t.pkg, .int .i64 t.major, .string t.mod, .string t.name, .slice An t.names.length cA, .slice As t.subs.length cS] 48) := ⟨_, rfl⟩;have B4 : Below w3.heap.size w3 w4 := by rw [hw4]; exact below_new (Below.refl _ _) _
  have O4 : w4.heap[w3.heap.size]? = some (.cells #[.int .i64 t.kind, .string t.pkg, .int .i64 t.major, .string t.mod, .string t.name, .slice An t.names.length cA, .slice As t.subs.length cS] 48 (0, 0)) := by rw [hw4]; exact heap_alloc_new w3 _
  have h4 := h3.below B4;have p4 := h4.p;have X4 : Bx w.heap.size w4 := (B4.block _ (by omega)).trans ((k3.blk (by omega) ⟨by omega, by omega⟩).trans HX2.out);have k24 := k3.trans (KQ.of_below (q := w0.heap.size) (r := w1.heap.size) B4);have B24 : Below w.heap.size w w4 := HB02.out.trans (k24.below (by omega) (by omega) (by omega));have T4 : TyAt (strike (· < w.heap.size + 1) w4) [.int .i64 t.kind, .string t.pkg, .int .i64 t.major, .string t.mod, .string t.name, .slice An t.names.length cA, .slice As t.subs.length cS] t := hT3.move (by have := B4.size; omega) fun b hb hS => ⟨by omega, B4.block b hb⟩
  have HW4 := zH hw4;have HT4 := zH T4;have HB24 := zH B24;have H4 := zH h4;have HX4 := zH X4;have HO4 := zH O4;have HRS := zH hres;clear hT3 k3 h3 hres B4 O4 h4 X4 k24 B24 T4 hw4 ss hs3 HRE HX2 HB02 SS NW;go_upto_region 5 with fail
  rw [<- HW4.out];by_cases hb : b3 = 0
  · subst hb
    have CE := zH (cerr_no H4.out.cur);have hok : atR S i = .ok t i3 c3 := by rw [<- HRS.out]; rfl
    have O4 := HO4.out;obtain ⟨x0, x1, x2, x3, x4, x5, x6⟩ := cq7 O4;simp at x0 x1 x2 x3 x4 x5 x6;have X4 := HX4.out
    have FIN : Hid (AtOut w S i (.returned (.tuple #[.agg #[.int .i64 t.kind, .string t.pkg, .int .i64 t.major, .string t.mod, .string t.name, .slice An t.names.length cA, .slice As t.subs.length cS], .int .i64 i3, .nilIface])) (w4.drew.setRow w.heap.size #[.int .i64 t.kind, .string t.pkg, .int .i64 t.major, .string t.mod, .string t.name, .slice An t.names.length cA, .slice As t.subs.length cS])) := zH
      ⟨setRow_below ((HB24.out).trans (Below.drew (Below.refl _ _))) (Nat.le_refl _) _, .inl ⟨[.int .i64 t.kind, .string t.pkg, .int .i64 t.major, .string t.mod, .string t.name, .slice An t.names.length cA, .slice As t.subs.length cS], t, i3, c3, hok, rfl, HT4.out.move (by simp) fun b hb hS => ⟨fun e => hS (Nat.lt_succ_of_lt e), (setRow_other w4.drew w.heap.size b _ (fun e => by subst e; exact hS (Nat.lt_succ_self _))).trans rfl⟩⟩⟩
    have CA := zH (cat_any (H4.out.cur.below (w' := w4.drew) (Below.drew (Below.refl _ _))));have HXD : Hid (Bx w.heap.size w4.drew) := zH X4;clear hok O4 X4;go_wp2_with fail
    refine CE.out.mono ?_; rintro e w5 ⟨rfl, rfl⟩
    go_upto_region 8 with fail
    refine AnyX.start (fun wx => wx.cell? ⟨w1.heap.size, 0, none⟩ = some (.pointer (some ⟨w0.heap.size, 0, none⟩)) /\ wx.cell? ⟨w3.heap.size, 0, none⟩ = some (.int .i64 t.kind) /\ wx.cell? ⟨w3.heap.size, 1, none⟩ = some (.string t.pkg) /\ wx.cell? ⟨w3.heap.size, 2, none⟩ = some (.int .i64 t.major) /\ wx.cell? ⟨w3.heap.size, 3, none⟩ = some (.string t.mod) /\ wx.cell? ⟨w3.heap.size, 4, none⟩ = some (.string t.name) /\ wx.cell? ⟨w3.heap.size, 5, none⟩ = some (.slice An t.names.length cA) /\ wx.cell? ⟨w3.heap.size, 6, none⟩ = some (.slice As t.subs.length cS)) (fun k => k == 4) (by kernel_rfl) ?_;have hH0 : w4.drew.cell? ⟨w3.heap.size, 0, none⟩ = some (.int .i64 t.kind) /\ w4.drew.cell? ⟨w3.heap.size, 1, none⟩ = some (.string t.pkg) /\ w4.drew.cell? ⟨w3.heap.size, 2, none⟩ = some (.int .i64 t.major) /\ w4.drew.cell? ⟨w3.heap.size, 3, none⟩ = some (.string t.mod) /\ w4.drew.cell? ⟨w3.heap.size, 4, none⟩ = some (.string t.name) /\ w4.drew.cell? ⟨w3.heap.size, 5, none⟩ = some (.slice An t.names.length cA) /\ w4.drew.cell? ⟨w3.heap.size, 6, none⟩ = some (.slice As t.subs.length cS) := ⟨x0, x1, x2, x3, x4, x5, x6⟩;have hH1 : w4.drew.cell? ⟨w1.heap.size, 0, none⟩ = some (.pointer (some ⟨w0.heap.size, 0, none⟩)) := p4;refine AnyX.tk (i := 0) (v := ?_) rfl (fun _ _ _ h => h) ⟨hH1, hH0⟩ (Or.inl ⟨by rfl, ?_⟩) ?_;rotate_left
    · (intro wS hS; (try obtain ⟨hS0, hS1, hS2, hS3, hS4, hS5, hS6, hS7⟩ := hS); go_simp; try with_reducible rfl)
    simp only [getElem_toArray, getElem_cons_succ, getElem_cons_zero];simp only [Act.put, setIfInBounds_toArray, set_cons_zero, set_cons_succ];refine AnyX.mv (i := 1) (v := ?_) rfl (fun _ _ _ h => h) (Or.inl ⟨by rfl, ?_⟩) ?_;rotate_left
    · (intro wS _; go_simp; try with_reducible rfl)
    simp only [getElem_toArray, getElem_cons_succ, getElem_cons_zero];simp only [Act.put, setIfInBounds_toArray, set_cons_zero, set_cons_succ];refine AnyX.tk (i := 2) (v := ?_) rfl (fun _ _ _ h => h) ⟨hH1, hH0⟩ (Or.inl ⟨by rfl, ?_⟩) ?_;rotate_left
    · (intro wS hS; (try obtain ⟨hS0, hS1, hS2, hS3, hS4, hS5, hS6, hS7⟩ := hS); go_simp; try with_reducible rfl)
    simp only [getElem_toArray, getElem_cons_succ, getElem_cons_zero];simp only [Act.put, setIfInBounds_toArray, set_cons_zero, set_cons_succ];refine AnyX.go 3 (by kernel_rfl) rfl rfl (fun K hK => ?_);simp only [getElem_toArray, getElem_cons_succ, getElem_cons_zero];go_simp
    refine (CA.out).mono ?_;rintro e w5 ⟨rfl, rfl⟩;simp only [];refine hK.out _ _ (fun hoff _ => ⟨hH1, hH0⟩) ?_;clear hK;(try simp only [Act.put, setIfInBounds_toArray, set_cons_zero, set_cons_succ]);refine AnyX.go 4 (by kernel_rfl) rfl rfl (fun K hK => ?_);simp only [getElem_toArray, getElem_cons_succ, getElem_cons_zero];refine wp_store_row 48 (.tmp 4) (.tmp 36) rfl w.heap.size #[.int .i64 t.kind, .string t.pkg, .int .i64 t.major, .string t.mod, .string t.name, .slice An t.names.length cA, .slice As t.subs.length cS] rfl rfl _ _ HXD.out tySize rfl tyOne ?_;refine hK.out _ _ (fun hoff _ => absurd hoff (by decide)) ?_;clear hK;(try simp only [Act.put, setIfInBounds_toArray, set_cons_zero, set_cons_succ]);refine AnyX.mv (i := 5) (v := ?_) rfl (fun _ _ _ h => h) (Or.inl ⟨by rfl, ?_⟩) ?_;rotate_left
    · (intro wS _; go_simp; try with_reducible rfl)
    simp only [getElem_toArray, getElem_cons_succ, getElem_cons_zero];simp only [Act.put, setIfInBounds_toArray, set_cons_zero, set_cons_succ];refine AnyX.mv (i := 6) (v := ?_) rfl (fun _ _ _ h => h) (Or.inl ⟨by rfl, ?_⟩) ?_;rotate_left
    · (intro wS _; go_simp; try with_reducible rfl)
    simp only [getElem_toArray, getElem_cons_succ, getElem_cons_zero];simp only [Act.put, setIfInBounds_toArray, set_cons_zero, set_cons_succ];refine AnyX.done (by kernel_rfl) ?_ _;go_wp2_with fail
    exact ret_agg3 (fn := Tryz.f79) (vs := [.int .i64 t.kind, .string t.pkg, .int .i64 t.major, .string t.mod, .string t.name, .slice An t.names.length cA, .slice As t.subs.length cS]) (b := w.heap.size) rfl rfl rfl rfl Tryz.underlying48 (by kernel_rfl) (cell7 (setRow_heap w4.drew w.heap.size _ _ _ _ HXD.out)) rfl FIN.out
  · have CE := zH (cerr_yes H4.out.cur hb)
    have herr : atR S i = .err b3 i3 := by rw [<- HRS.out]; exact badR_ne _ _ hb
    have X4 := HX4.out
    have FIN : Hid (∀ g, w4.heap[g]? = some (.cells #[.int .i64 i3, .iface 31 (.int .i64 b3)] 75 (0, 0)) -> AtOut w S i (.returned (.tuple #[.agg #[.int .i64 0, .string ⟨#[]⟩, .int .i64 0, .string ⟨#[]⟩, .string ⟨#[]⟩, .slice none 0 0, .slice none 0 0], .int .i64 0, .iface 70 (.pointer (some ⟨g, 0, none⟩))])) (w4.setRow w.heap.size #[.int .i64 0, .string ⟨#[]⟩, .int .i64 0, .string ⟨#[]⟩, .string ⟨#[]⟩, .slice none 0 0, .slice none 0 0])) := zH (fun g hg =>
      ⟨setRow_below HB24.out (Nat.le_refl _) _, .inr ⟨b3, i3, g, herr, hb, rfl, (setRow_other w4 w.heap.size g _ (fun e => by
        subst e;exact absurd hg (by rw [HX4.out]; simp))).trans hg⟩⟩)
    clear herr;go_wp2_with fail
    refine CE.out.mono ?_; rintro e w5 ⟨g, rfl, rfl, hg⟩
    have HFG := zH (FIN.out g hg);unfold Bx at X4
    clear hg FIN CE;go_upto_region 7 with fail
    go_wp2_with (first | ((with_reducible refine wpList_putRow 48 (w.heap.size) #[.int .i64 0, .string ⟨#[]⟩, .int .i64 0, .string ⟨#[]⟩, .string ⟨#[]⟩, .slice none 0 0, .slice none 0 0] _ _ X4 ?_ ?_ ?_ ?_ ?_ ?_); exact tySize; rfl; exact tyOne; iterate 2 (focus (first | (go_simp; done) | rfl))))
    exact ret_agg3 (fn := Tryz.f79) (vs := [.int .i64 0, .string ⟨#[]⟩, .int .i64 0, .string ⟨#[]⟩, .string ⟨#[]⟩, .slice none 0 0, .slice none 0 0]) (b := w.heap.size) rfl rfl rfl rfl Tryz.underlying48 (by kernel_rfl) (cell7 (setRow_heap w4 w.heap.size _ _ _ _ HX4.out)) rfl HFG.out
end Go.Proofs.YtddlmigofilejaaGreatDoor
