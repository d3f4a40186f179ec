/-
  Types in new memory: worlds with blocks struck out; what a type that lies in new memory alone reads as.
-/
import Derived.Test.YtnnppdlhmcobcaaDoorKdC
import Derived.Deep.AppendLies
import Derived.Laws.OwnMore
namespace Go.Proofs.YtnnppdlhmcobcaaDoor
open Go.RowKit
open M

open Classical in
/-- A world with some blocks struck out. -/
noncomputable def strike (S : Nat → Prop) (w : World) : World := { w with heap := w.heap.mapIdx fun i o => if S i then .cells #[] 0 (0, 0) else o }
theorem strike_size (S : Nat → Prop) (w : World) : (strike S w).heap.size = w.heap.size := by simp [strike]
theorem strike_cell {S : Nat → Prop} {w : World} {b o : Nat} {x : Value} : (strike S w).cell? ⟨b, o, none⟩ = some x ↔ ¬ S b ∧ w.cell? ⟨b, o, none⟩ = some x := by
  by_cases hb : S b
  · simp only [hb, not_true, false_and, iff_false]
    intro h
    have hlt := World.block_lt_of_cell? _ _ h
    rw [strike_size] at hlt
    rw [Lib.cell_of_heap (cs := #[]) (T := 0) (fr := (0, 0)) (by simp [strike, hlt, hb])] at h
    simp at h
  · simp only [hb, not_false_eq_true, true_and]
    have e : (strike S w).heap[b]? = w.heap[b]? := by
      rcases Nat.lt_or_ge b w.heap.size with h | h
      · simp [strike, h, hb]
      · rw [Array.getElem?_eq_none h, Array.getElem?_eq_none (by rw [strike_size]; exact h)]
    rw [World.cell?_of_block (w := w) (w' := strike S w) (a := ⟨b, o, none⟩) e]

theorem NamesAt.cells {w w' : World} {A : Option Addr} {l : List ByteArray} (hz : w.heap.size ≤ w'.heap.size) (hc : ∀ b o x, w.cell? ⟨b, o, none⟩ = some x → w'.cell? ⟨b, o, none⟩ = some x) (h : NamesAt w A l) : NamesAt w' A l := by
  intro i s hs
  obtain ⟨g, o, hA, hg, h1, h2⟩ := h i s hs
  exact ⟨g, o, hA, Nat.lt_of_lt_of_le hg hz, hc _ _ _ h1, h2⟩
theorem TyAt.cells {w w' : World} (hz : w.heap.size ≤ w'.heap.size) (hc : ∀ b o x, w.cell? ⟨b, o, none⟩ = some x → w'.cell? ⟨b, o, none⟩ = some x) {l : List Value} {t : Ty} (h : TyAt w l t) : TyAt w' l t := by
  induction h with
  | mk kind pkg major mod name names subs An cn As cs C hp hm hn hln hls hcs hN hl hS hT ih =>
    refine .mk kind pkg major mod name names subs An cn As cs C hp hm hn hln hls hcs (hN.cells hz hc) hl (fun i t ht => ?_) ih
    obtain ⟨g, o, hA, hg, h1⟩ := hS i t ht
    exact ⟨g, o, hA, Nat.lt_of_lt_of_le hg hz, fun j v hv => hc _ _ _ (h1 j v hv)⟩

/-- append of nothing onto a slice of the call's own. -/
theorem run_append_empty {P : Program} {w : World} (base : Nat) (t ty e : TypeId) (i : TypeInfo) (size : Nat) (ht : P.underlying t = some (.slice e)) (hi : P.info? e = some i)
    (v : Value) (n c : Nat) (xs : List Value) (hown : w.ownsRow base e size v n xs) : (Builtin.append_ #[t, t] ty #[v, .slice none 0 c]).run P w = .ok v w := by
  rcases hown.2 with ⟨rfl, rfl⟩ | ⟨g, cap, cur, rfl, _, _, hnc, _⟩
  · simp [Builtin.append_, run_underlying ht, sizeOf, typeInfo, hi, Builtin.lenOf, Builtin.firstCells]
  · simp [Builtin.append_, run_underlying ht, sizeOf, typeInfo, hi, Builtin.lenOf, Builtin.firstCells, hnc, storeCells]
theorem wpList_append_empty {P : Program} {w : World} {ops : Array Oper} {rest : List Oper} {o : Oper} {a : Act} {Q : Exit → Act → World → Prop} (hgd : o.guard = none) (s x : Operand) (t : TypeId)
    (ho : o.op = .call { callee := .builtin .append, args := #[s, x], argTypes := #[t, t] })
    (base : Nat) (e : TypeId) (i : TypeInfo) (size : Nat) (ht : P.underlying t = some (.slice e)) (hi : P.info? e = some i)
    (v : Value) (n c : Nat) (xs : List Value) (hs : a.eval s = v) (hown : w.ownsRow base e size v n xs) (hx : a.eval x = .slice none 0 c)
    (h : wpList P ops Q rest (a.put o.dst v) w) : wpList P ops Q (o :: rest) a w := by
  refine wpList_plain hgd fun K hK => ?_
  have hrun := run_append_empty (P := P) (w := w) base t o.type e i size ht hi v n c xs hown
  unfold Oper.wp
  simp [execOp, ho, resolve, invoke, builtin, hs, hx, hrun, Result.andThen]
  exact hK _ _ h

theorem str_info : (Tryd.prog.info? 9).map (fun i => (i.zero, i.size, i.bytes)) = some (some (.string ⟨#[]⟩), 1, 16) := by kernel_rfl
theorem typ_info : (Tryd.prog.info? 25).map (fun i => (i.zero, i.size, i.bytes)) = some (some (.agg #[.int .i64 0, .string ⟨#[]⟩, .int .i64 0, .string ⟨#[]⟩, .string ⟨#[]⟩, .slice none 0 0, .slice none 0 0]), 7, 112) := by kernel_rfl

theorem own_keep {w w' : World} {B : Nat} {e : TypeId} {z : Nat} {v : Value} {n : Nat} {xs : List Value} (h : w.ownsRow B e z v n xs) (hb : Below w.heap.size w w') : w'.ownsRow B e z v n xs := by
  refine ⟨h.1, ?_⟩
  rcases h.2 with h | ⟨g, cap, cur, hv, hB, hg, rest⟩
  · exact .inl h
  · exact .inr ⟨g, cap, cur, hv, hB, (hb.block g (Array.getElem?_eq_some_iff.1 hg).1).trans hg, rest⟩
/-- A row of texts of the call's own: a slice that reads as them, whatever else is struck out. -/
theorem own_names {w : World} {base n : Nat} {v : Value} {l : List ByteArray} (h : w.ownsRow base 9 1 v n (l.map Value.string)) (hs : ∀ (i : Nat) (s : ByteArray), l[i]? = some s → s.size ≤ 9223372036854775807) :
    l.length = n ∧ ∃ A c, v = .slice A n c ∧ ∀ S : Nat → Prop, (∀ b, base ≤ b → ¬ S b) → NamesAt (strike S w) A l := by
  have hlen : l.length = n := by have := h.1; simpa using this
  refine ⟨hlen, ?_⟩
  rcases h.2 with ⟨rfl, h0⟩ | ⟨g, cap, cur, rfl, hB, hg, hnc, hcm, hcs, htake⟩
  · refine ⟨none, 0, by rw [h0], fun S _ i s hi => ?_⟩
    have := (List.getElem?_eq_some_iff.1 hi).1
    omega
  · refine ⟨some ⟨g, 0, none⟩, cap, rfl, fun S hS i s hi => ?_⟩
    refine ⟨g, 0, rfl, by rw [strike_size]; exact (Array.getElem?_eq_some_iff.1 hg).1, ?_, hs i s hi⟩
    have hi' := (List.getElem?_eq_some_iff.1 hi).1
    refine strike_cell.2 ⟨hS g hB, ?_⟩
    rw [Lib.cell_of_heap hg, Nat.zero_add, ← Array.getElem?_toList]
    have e : (cur.toList.take (n * 1))[i]? = some (.string s) := by rw [htake, List.getElem?_map, hi]; rfl
    rw [List.getElem?_take] at e
    split at e
    · exact e
    · cases e

/-- What has been copied so far: the box, the names, the first j types. -/
structure Cp (w : World) (t : Ty) (A5 : Option Addr) (c5 : Nat) (j : Nat) (A6 : Option Addr) (c6 : Nat) (wr : World) : Prop where
  below : Below w.heap.size w wr
  box : wr.heap[w.heap.size]? = some (.cells #[.int .i64 t.kind, .string t.pkg, .int .i64 t.major, .string t.mod, .string t.name, .slice A5 t.names.length c5, .slice A6 j c6] 25 (0, 0))
  res : wr.heap[w.heap.size + 1]? = some (.cells #[.int .i64 0, .string ⟨#[]⟩, .int .i64 0, .string ⟨#[]⟩, .string ⟨#[]⟩, .slice none 0 0, .slice none 0 0] 25 (0, 0))
  names : NamesAt (strike (fun b => b < w.heap.size + 2 ∨ (Value.slice A6 j c6).ownBlock = some b) wr) A5 t.names
  subs : ∃ C : Nat → List Value, (∀ i, (C i).length = 7) ∧ wr.ownsRow (w.heap.size + 2) 25 7 (.slice A6 j c6) j ((List.range j).map C).flatten ∧
    ∀ i s, i < j → t.subs[i]? = some s → TyAt (strike (fun b => b < w.heap.size + 2 ∨ (Value.slice A6 j c6).ownBlock = some b) wr) (C i) s

theorem flat_len (C : Nat → List Value) (hC : ∀ i, (C i).length = 7) : ∀ j, ((List.range j).map C).flatten.length = j * 7
  | 0 => rfl
  | j + 1 => by rw [List.range_succ, List.map_append, List.flatten_append, List.length_append, flat_len C hC j]; simp [hC]; omega
theorem flat_at (C : Nat → List Value) (hC : ∀ i, (C i).length = 7) : ∀ (j i q : Nat), i < j → q < 7 → ((List.range j).map C).flatten[i * 7 + q]? = (C i)[q]?
  | 0, i, q, hi, _ => by omega
  | j + 1, i, q, hi, hq => by
    have hl := flat_len C hC j
    rw [List.range_succ, List.map_append, List.flatten_append]
    rcases Nat.lt_or_ge i j with h | h
    · rw [List.getElem?_append_left (by omega)]
      exact flat_at C hC j i q h hq
    · obtain rfl : i = j := by omega
      rw [List.getElem?_append_right (by omega), hl, show i * 7 + q - i * 7 = q by omega]
      simp

/-- One type more. -/
theorem Cp.step {w wo w1 w2 : World} {t s : Ty} {A5 : Option Addr} {c5 j : Nat} {A6 : Option Addr} {c6 g cap : Nat} {l : List Value} (h : Cp w t A5 c5 j A6 c6 wo) (hs : t.subs[j]? = some s) (hb : Below wo.heap.size wo w1) (hT : TyAt (strike (· < wo.heap.size) w1) l s)
    (hl : l.length = 7) {C : Nat → List Value} (hC : ∀ i, (C i).length = 7) (hCs : ∀ i s, i < j → t.subs[i]? = some s → TyAt (strike (fun b => b < w.heap.size + 2 ∨ (Value.slice A6 j c6).ownBlock = some b) wo) (C i) s)
    {o : Obj} (hown : w2.ownsRow (w.heap.size + 2) 25 7 (.slice (some ⟨g, 0, none⟩) (j + 1) cap) (j + 1) (((List.range j).map C).flatten ++ l)) (hgrow : (w1.alloc o).grownBy w2 (Value.slice A6 j c6).ownBlock)
    (hat : (Value.slice A6 j c6).ownBlock = some g ∨ g = (w1.alloc o).heap.size) (hold : ∀ b, (Value.slice A6 j c6).ownBlock = some b → w.heap.size + 2 ≤ b ∧ b < wo.heap.size) :
    Cp w t A5 c5 (j + 1) (some ⟨g, 0, none⟩) cap (w2.setCell ⟨w.heap.size, 6, none⟩ (.slice (some ⟨g, 0, none⟩) (j + 1) cap)) := by
  have hres := (Array.getElem?_eq_some_iff.1 h.res).1
  have hsz1 : wo.heap.size ≤ w1.heap.size := hb.size
  have hW : Below wo.heap.size wo (w1.alloc o) := below_new hb o
  have hWs : wo.heap.size ≤ (w1.alloc o).heap.size := hW.size
  have hg : w.heap.size + 2 ≤ g := by
    rcases hat with e | e
    · exact (hold g e).1
    · omega
  have keepB : ∀ b, b < wo.heap.size → (Value.slice A6 j c6).ownBlock ≠ some b → w2.heap[b]? = wo.heap[b]? := fun b hb' hne => by
    rw [hgrow.block b (by omega) (fun e => hne e.symm)]
    exact hW.block b hb'
  have hlo : ∀ b, b < w.heap.size + 2 → (Value.slice A6 j c6).ownBlock ≠ some b := fun b hb' e => by have := (hold b e).1; omega
  have b0 : w2.heap[w.heap.size]? = _ := (keepB w.heap.size (by omega) (hlo _ (by omega))).trans h.box
  have b1 : w2.heap[w.heap.size + 1]? = _ := (keepB (w.heap.size + 1) (by omega) (hlo _ (by omega))).trans h.res
  -- a cell that was not struck out ahead isn't struck out behind, and stands
  have mv : ∀ (wx : World), (∀ b, b < wx.heap.size → (Value.slice A6 j c6).ownBlock ≠ some b → w2.heap[b]? = wx.heap[b]?) → wx.heap.size ≤ (w1.alloc o).heap.size → ∀ (b q : Nat) (x : Value), ¬ b < w.heap.size + 2 → (Value.slice A6 j c6).ownBlock ≠ some b → wx.cell? ⟨b, q, none⟩ = some x →
      (strike (fun b => b < w.heap.size + 2 ∨ (Value.slice (some ⟨g, 0, none⟩) (j + 1) cap).ownBlock = some b) (w2.setCell ⟨w.heap.size, 6, none⟩ (.slice (some ⟨g, 0, none⟩) (j + 1) cap))).cell? ⟨b, q, none⟩ = some x := by
    intro wx hk hsx b q x h1 h2 hx
    have hlt := World.block_lt_of_cell? _ _ hx
    have hlt' : b < wx.heap.size := hlt
    refine strike_cell.2 ⟨?_, ?_⟩
    · rintro (e | e)
      · exact h1 e
      · simp [Value.ownBlock] at e
        subst e
        rcases hat with e2 | e2
        · exact h2 e2
        · omega
    · have e1 : (w2.setCell ⟨w.heap.size, 6, none⟩ (.slice (some ⟨g, 0, none⟩) (j + 1) cap)).heap[b]? = wx.heap[b]? := by
        rw [Below.heap_setCell _ _ _ _ (by show b ≠ w.heap.size; omega)]
        exact hk b hlt' h2
      rw [World.cell?_of_block (w := wx) (a := ⟨b, q, none⟩) e1]; exact hx
  have mvo : ∀ (b q : Nat) (x : Value), (strike (fun b => b < w.heap.size + 2 ∨ (Value.slice A6 j c6).ownBlock = some b) wo).cell? ⟨b, q, none⟩ = some x →
      (strike (fun b => b < w.heap.size + 2 ∨ (Value.slice (some ⟨g, 0, none⟩) (j + 1) cap).ownBlock = some b) (w2.setCell ⟨w.heap.size, 6, none⟩ (.slice (some ⟨g, 0, none⟩) (j + 1) cap))).cell? ⟨b, q, none⟩ = some x := fun b q x hx => by
    obtain ⟨h1, h2⟩ := strike_cell.1 hx
    exact mv wo keepB hWs b q x (fun e => h1 (.inl e)) (fun e => h1 (.inr e)) h2
  have mv1 : ∀ (b q : Nat) (x : Value), (strike (· < wo.heap.size) w1).cell? ⟨b, q, none⟩ = some x →
      (strike (fun b => b < w.heap.size + 2 ∨ (Value.slice (some ⟨g, 0, none⟩) (j + 1) cap).ownBlock = some b) (w2.setCell ⟨w.heap.size, 6, none⟩ (.slice (some ⟨g, 0, none⟩) (j + 1) cap))).cell? ⟨b, q, none⟩ = some x := fun b q x hx => by
    obtain ⟨h1, h2⟩ := strike_cell.1 hx
    refine mv w1 (fun b hb' hne => ?_) (by simp) b q x (by omega) (fun e => by have := (hold b e).2; omega) h2
    rw [hgrow.block b (by simp; omega) (fun e => hne e.symm)]
    exact Lib.alloc_old w1 o b hb'
  have hsz2 : wo.heap.size ≤ (w2.setCell ⟨w.heap.size, 6, none⟩ (.slice (some ⟨g, 0, none⟩) (j + 1) cap)).heap.size := by
    have e : (w2.setCell ⟨w.heap.size, 6, none⟩ (.slice (some ⟨g, 0, none⟩) (j + 1) cap)).heap.size = w2.heap.size := by simp
    have := hgrow.size
    omega
  have hsz3 : w1.heap.size ≤ (w2.setCell ⟨w.heap.size, 6, none⟩ (.slice (some ⟨g, 0, none⟩) (j + 1) cap)).heap.size := by
    have e : (w2.setCell ⟨w.heap.size, 6, none⟩ (.slice (some ⟨g, 0, none⟩) (j + 1) cap)).heap.size = w2.heap.size := by simp
    have := hgrow.size
    have : (w1.alloc o).heap.size = w1.heap.size + 1 := by simp
    omega
  refine ⟨?_, ?_, ?_, h.names.cells (by rw [strike_size, strike_size]; exact hsz2) mvo, fun i => if i < j then C i else l, ?_, ?_, ?_⟩
  · refine (?_ : Below w.heap.size w w2).setCell (Nat.le_refl _) _
    refine (below_over h.below hW).trans ⟨hgrow.os, hgrow.tape, hgrow.output, hgrow.size, fun b hb' => hgrow.block b ?_ ?_⟩
    · have := h.below.size; omega
    · intro e
      have := (hold b e.symm).1
      omega
  · have := Joins.block_setCell (i := 6) b0 (.slice (some ⟨g, 0, none⟩) (j + 1) cap)
    simpa using this
  · rw [Below.heap_setCell _ _ _ _ (by show w.heap.size + 1 ≠ w.heap.size; omega)]
    exact b1
  · intro i
    show (if i < j then C i else l).length = 7
    split
    · exact hC i
    · exact hl
  · have e : ((List.range (j + 1)).map fun i => if i < j then C i else l).flatten = ((List.range j).map C).flatten ++ l := by
      rw [List.range_succ, List.map_append, List.flatten_append]
      congr 1
      · congr 1
        apply List.map_congr_left
        intro a ha
        rw [if_pos (List.mem_range.1 ha)]
      · simp
    rw [e]
    exact ownsRow_setCell_below hown (by show w.heap.size < w.heap.size + 2; omega) _
  · intro i q hi hq
    show TyAt _ (if i < j then C i else l) q
    by_cases hij : i < j
    · rw [if_pos hij]
      exact (hCs i q hij hq).cells (by rw [strike_size, strike_size]; exact hsz2) mvo
    · rw [if_neg hij]
      obtain rfl : i = j := by omega
      rw [hs] at hq
      obtain rfl := Option.some.inj hq
      exact hT.cells (by rw [strike_size, strike_size]; exact hsz3) mv1

/-- At the end: a type in new memory alone. -/
theorem Cp.done {w wr : World} {t : Ty} {A5 : Option Addr} {c5 : Nat} {A6 : Option Addr} {c6 : Nat} (h : Cp w t A5 c5 t.subs.length A6 c6 wr)
    (hp : t.pkg.size ≤ 9223372036854775807) (hm : t.mod.size ≤ 9223372036854775807) (hn : t.name.size ≤ 9223372036854775807) (hln : t.names.length ≤ 9223372036854775807) (hls : t.subs.length ≤ 9223372036854775807) :
    TyAt (strike (· < w.heap.size + 2) wr) [.int .i64 t.kind, .string t.pkg, .int .i64 t.major, .string t.mod, .string t.name, .slice A5 t.names.length c5, .slice A6 t.subs.length c6] t := by
  obtain ⟨C, hC, hown, hCs⟩ := h.subs
  have wk : ∀ (b q : Nat) (x : Value), (strike (fun b => b < w.heap.size + 2 ∨ (Value.slice A6 t.subs.length c6).ownBlock = some b) wr).cell? ⟨b, q, none⟩ = some x → (strike (· < w.heap.size + 2) wr).cell? ⟨b, q, none⟩ = some x := fun b q x hx => by
    obtain ⟨h1, h2⟩ := strike_cell.1 hx
    exact strike_cell.2 ⟨fun e => h1 (.inl e), h2⟩
  have hcap : t.subs.length ≤ c6 := by
    rcases hown.2 with ⟨e, h0⟩ | ⟨g, cap, cur, e, hB, hg, hnc, -⟩
    · simp at e; omega
    · simp at e; omega
  have hd : t = .mk t.kind t.pkg t.major t.mod t.name t.names t.subs := by cases t; rfl
  rw [show TyAt (strike (· < w.heap.size + 2) wr) [.int .i64 t.kind, .string t.pkg, .int .i64 t.major, .string t.mod, .string t.name, .slice A5 t.names.length c5, .slice A6 t.subs.length c6] t = TyAt (strike (· < w.heap.size + 2) wr) [.int .i64 t.kind, .string t.pkg, .int .i64 t.major, .string t.mod, .string t.name, .slice A5 t.names.length c5, .slice A6 t.subs.length c6] (.mk t.kind t.pkg t.major t.mod t.name t.names t.subs) by rw [← hd]]
  refine .mk t.kind t.pkg t.major t.mod t.name t.names t.subs A5 c5 A6 c6 C hp hm hn hln hls hcap (h.names.cells (by rw [strike_size, strike_size]; exact Nat.le_refl _) wk) hC (fun i s hs => ?_) (fun i s hs => ?_)
  · have hi := (List.getElem?_eq_some_iff.1 hs).1
    rcases hown.2 with ⟨e, h0⟩ | ⟨g, cap, cur, e, hB, hg, hnc, hcm, hcs, htake⟩
    · omega
    · have e1 : A6 = some ⟨g, 0, none⟩ := by simp at e; exact e.1
      refine ⟨g, 0, e1, by rw [strike_size]; exact (Array.getElem?_eq_some_iff.1 hg).1, fun q v hv => strike_cell.2 ⟨by omega, ?_⟩⟩
      have hq := (List.getElem?_eq_some_iff.1 hv).1
      rw [hC i] at hq
      rw [Lib.cell_of_heap hg, Nat.zero_add, ← Array.getElem?_toList]
      have e2 : (cur.toList.take (t.subs.length * 7))[i * 7 + q]? = some v := by rw [htake, flat_at C hC _ i q hi hq]; exact hv
      rw [List.getElem?_take] at e2
      split at e2
      · exact e2
      · cases e2
  · have hi := (List.getElem?_eq_some_iff.1 hs).1
    exact (hCs i s hi hs).cells (by rw [strike_size, strike_size]; exact Nat.le_refl _) wk

end Go.Proofs.YtnnppdlhmcobcaaDoor
