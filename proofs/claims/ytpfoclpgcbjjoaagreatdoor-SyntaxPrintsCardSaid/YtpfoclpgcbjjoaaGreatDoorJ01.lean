/-
  Several texts in one: Types in new memory: worlds with blocks struck out; what a type that lies in new memory alone reads as. · Walks of the calls of package ident: which bytes are letters and digits, keys, the types' words, how a name is spelled. No condition. · Walks of package ident: how a name is spelled, small names, great names. No condition but that a text's length is an int. · Walks of the reference: keys, letters, small names, great names. · Walks of the reference's small names and great names (IdD without the examples of layer 2's statements). · The reference's reader in memory, and the tokens that it reads. · The end of a call whose first result is a struct in memory: what its cells hold is what is handed back. A law over any program.
-/
import Derived.Test.YtpfoclpgcbjjoaaGreatDoorJ00
import Derived.Lib.Builder
import Derived.OneCell
import Derived.Deep.AppendLies
import Derived.Laws.OwnMore
import Derived.Test.YtpfoclpgcbjjoaaGreatDoorChecked
import Derived.WalkKit
import Derived.Lib.Hide
import Derived.WalkSpells
import Derived.WalkLawsBesides
import Derived.RegionTactic
import Derived.IntWalk
import Derived.LoopTactic
import Derived.Lib.Strings
import Derived.Deep.QuietTactic
import Derived.BigQuiet
import Derived.Lib.QuietBelow
import Derived.Deep.DeepCutAuto
import Derived.Deep.CutBlock
import Derived.Laws.ResultCell
import Derived.Laws.Rows
/- Types in new memory: worlds with blocks struck out; what a type that lies in new memory alone reads as. -/
namespace Go.Proofs.YtpfoclpgcbjjoaaGreatDoor
open Go.RowKit
open M

open Classical in
/-- A world with some blocks struck out. -/
noncomputable def strike (S : Nat → Prop) (w : World) : World := { w with heap := w.heap.mapIdx fun i o => if S i then .cells #[] 0 (0, 0) else o }
theorem strike_size (S : Nat → Prop) (w : World) : (strike S w).heap.size = w.heap.size := by simp [strike]
theorem strike_cell {S : Nat → Prop} {w : World} {b o : Nat} {x : Value} : (strike S w).cell? ⟨b, o, none⟩ = some x ↔ ¬ S b ∧ w.cell? ⟨b, o, none⟩ = some x := by
  by_cases hb : S b
  · simp only [hb, not_true, false_and, iff_false]
    intro h
    have hlt := World.block_lt_of_cell? _ _ h
    rw [strike_size] at hlt
    rw [Lib.cell_of_heap (cs := #[]) (T := 0) (fr := (0, 0)) (by simp [strike, hlt, hb])] at h
    simp at h
  · simp only [hb, not_false_eq_true, true_and]
    have e : (strike S w).heap[b]? = w.heap[b]? := by
      rcases Nat.lt_or_ge b w.heap.size with h | h
      · simp [strike, h, hb]
      · rw [Array.getElem?_eq_none h, Array.getElem?_eq_none (by rw [strike_size]; exact h)]
    rw [World.cell?_of_block (w := w) (w' := strike S w) (a := ⟨b, o, none⟩) e]

theorem NamesAt.cells {w w' : World} {A : Option Addr} {l : List ByteArray} (hz : w.heap.size ≤ w'.heap.size) (hc : ∀ b o x, w.cell? ⟨b, o, none⟩ = some x → w'.cell? ⟨b, o, none⟩ = some x) (h : NamesAt w A l) : NamesAt w' A l := by
  intro i s hs
  obtain ⟨g, o, hA, hg, h1, h2⟩ := h i s hs
  exact ⟨g, o, hA, Nat.lt_of_lt_of_le hg hz, hc _ _ _ h1, h2⟩
theorem TyAt.cells {w w' : World} (hz : w.heap.size ≤ w'.heap.size) (hc : ∀ b o x, w.cell? ⟨b, o, none⟩ = some x → w'.cell? ⟨b, o, none⟩ = some x) {l : List Value} {t : Ty} (h : TyAt w l t) : TyAt w' l t := by
  induction h with
  | mk kind pkg major mod name names subs An cn As cs C hp hm hn hln hls hcs hN hl hS hT ih =>
    refine .mk kind pkg major mod name names subs An cn As cs C hp hm hn hln hls hcs (hN.cells hz hc) hl (fun i t ht => ?_) ih
    obtain ⟨g, o, hA, hg, h1⟩ := hS i t ht
    exact ⟨g, o, hA, Nat.lt_of_lt_of_le hg hz, fun j v hv => hc _ _ _ (h1 j v hv)⟩

/-- append of nothing onto a slice of the call's own. -/
theorem run_append_empty {P : Program} {w : World} (base : Nat) (t ty e : TypeId) (i : TypeInfo) (size : Nat) (ht : P.underlying t = some (.slice e)) (hi : P.info? e = some i)
    (v : Value) (n c : Nat) (xs : List Value) (hown : w.ownsRow base e size v n xs) : (Builtin.append_ #[t, t] ty #[v, .slice none 0 c]).run P w = .ok v w := by
  rcases hown.2 with ⟨rfl, rfl⟩ | ⟨g, cap, cur, rfl, _, _, hnc, _⟩
  · simp [Builtin.append_, run_underlying ht, sizeOf, typeInfo, hi, Builtin.lenOf, Builtin.firstCells]
  · simp [Builtin.append_, run_underlying ht, sizeOf, typeInfo, hi, Builtin.lenOf, Builtin.firstCells, hnc, storeCells]
theorem wpList_append_empty {P : Program} {w : World} {ops : Array Oper} {rest : List Oper} {o : Oper} {a : Act} {Q : Exit → Act → World → Prop} (hgd : o.guard = none) (s x : Operand) (t : TypeId)
    (ho : o.op = .call { callee := .builtin .append, args := #[s, x], argTypes := #[t, t] })
    (base : Nat) (e : TypeId) (i : TypeInfo) (size : Nat) (ht : P.underlying t = some (.slice e)) (hi : P.info? e = some i)
    (v : Value) (n c : Nat) (xs : List Value) (hs : a.eval s = v) (hown : w.ownsRow base e size v n xs) (hx : a.eval x = .slice none 0 c)
    (h : wpList P ops Q rest (a.put o.dst v) w) : wpList P ops Q (o :: rest) a w := by
  refine wpList_plain hgd fun K hK => ?_
  have hrun := run_append_empty (P := P) (w := w) base t o.type e i size ht hi v n c xs hown
  unfold Oper.wp
  simp [execOp, ho, resolve, invoke, builtin, hs, hx, hrun, Result.andThen]
  exact hK _ _ h

theorem str_info : (Tryz.prog.info? 9).map (fun i => (i.zero, i.size, i.bytes)) = some (some (.string ⟨#[]⟩), 1, 16) := by kernel_rfl
theorem typ_info : (Tryz.prog.info? 42).map (fun i => (i.zero, i.size, i.bytes)) = some (some (.agg #[.int .i64 0, .string ⟨#[]⟩, .int .i64 0, .string ⟨#[]⟩, .string ⟨#[]⟩, .slice none 0 0, .slice none 0 0]), 7, 112) := by kernel_rfl

theorem own_keep {w w' : World} {B : Nat} {e : TypeId} {z : Nat} {v : Value} {n : Nat} {xs : List Value} (h : w.ownsRow B e z v n xs) (hb : Below w.heap.size w w') : w'.ownsRow B e z v n xs := by
  refine ⟨h.1, ?_⟩
  rcases h.2 with h | ⟨g, cap, cur, hv, hB, hg, rest⟩
  · exact .inl h
  · exact .inr ⟨g, cap, cur, hv, hB, (hb.block g (Array.getElem?_eq_some_iff.1 hg).1).trans hg, rest⟩
/-- A row of texts of the call's own: a slice that reads as them, whatever else is struck out. -/
theorem own_names {w : World} {base n : Nat} {v : Value} {l : List ByteArray} (h : w.ownsRow base 9 1 v n (l.map Value.string)) (hs : ∀ (i : Nat) (s : ByteArray), l[i]? = some s → s.size ≤ 9223372036854775807) :
    l.length = n ∧ ∃ A c, v = .slice A n c ∧ ∀ S : Nat → Prop, (∀ b, base ≤ b → ¬ S b) → NamesAt (strike S w) A l := by
  have hlen : l.length = n := by have := h.1; simpa using this
  refine ⟨hlen, ?_⟩
  rcases h.2 with ⟨rfl, h0⟩ | ⟨g, cap, cur, rfl, hB, hg, hnc, hcm, hcs, htake⟩
  · refine ⟨none, 0, by rw [h0], fun S _ i s hi => ?_⟩
    have := (List.getElem?_eq_some_iff.1 hi).1
    omega
  · refine ⟨some ⟨g, 0, none⟩, cap, rfl, fun S hS i s hi => ?_⟩
    refine ⟨g, 0, rfl, by rw [strike_size]; exact (Array.getElem?_eq_some_iff.1 hg).1, ?_, hs i s hi⟩
    have hi' := (List.getElem?_eq_some_iff.1 hi).1
    refine strike_cell.2 ⟨hS g hB, ?_⟩
    rw [Lib.cell_of_heap hg, Nat.zero_add, ← Array.getElem?_toList]
    have e : (cur.toList.take (n * 1))[i]? = some (.string s) := by rw [htake, List.getElem?_map, hi]; rfl
    rw [List.getElem?_take] at e
    split at e
    · exact e
    · cases e

/-- What has been copied so far: the box, the names, the first j types. -/
structure Cp (w : World) (t : Ty) (A5 : Option Addr) (c5 : Nat) (j : Nat) (A6 : Option Addr) (c6 : Nat) (wr : World) : Prop where
  below : Below w.heap.size w wr
  box : wr.heap[w.heap.size]? = some (.cells #[.int .i64 t.kind, .string t.pkg, .int .i64 t.major, .string t.mod, .string t.name, .slice A5 t.names.length c5, .slice A6 j c6] 42 (0, 0))
  res : wr.heap[w.heap.size + 1]? = some (.cells #[.int .i64 0, .string ⟨#[]⟩, .int .i64 0, .string ⟨#[]⟩, .string ⟨#[]⟩, .slice none 0 0, .slice none 0 0] 42 (0, 0))
  names : NamesAt (strike (fun b => b < w.heap.size + 2 ∨ (Value.slice A6 j c6).ownBlock = some b) wr) A5 t.names
  subs : ∃ C : Nat → List Value, (∀ i, (C i).length = 7) ∧ wr.ownsRow (w.heap.size + 2) 42 7 (.slice A6 j c6) j ((List.range j).map C).flatten ∧
    ∀ i s, i < j → t.subs[i]? = some s → TyAt (strike (fun b => b < w.heap.size + 2 ∨ (Value.slice A6 j c6).ownBlock = some b) wr) (C i) s

theorem flat_len (C : Nat → List Value) (hC : ∀ i, (C i).length = 7) : ∀ j, ((List.range j).map C).flatten.length = j * 7
  | 0 => rfl
  | j + 1 => by rw [List.range_succ, List.map_append, List.flatten_append, List.length_append, flat_len C hC j]; simp [hC]; omega
theorem flat_at (C : Nat → List Value) (hC : ∀ i, (C i).length = 7) : ∀ (j i q : Nat), i < j → q < 7 → ((List.range j).map C).flatten[i * 7 + q]? = (C i)[q]?
  | 0, i, q, hi, _ => by omega
  | j + 1, i, q, hi, hq => by
    have hl := flat_len C hC j
    rw [List.range_succ, List.map_append, List.flatten_append]
    rcases Nat.lt_or_ge i j with h | h
    · rw [List.getElem?_append_left (by omega)]
      exact flat_at C hC j i q h hq
    · obtain rfl : i = j := by omega
      rw [List.getElem?_append_right (by omega), hl, show i * 7 + q - i * 7 = q by omega]
      simp

/-- One type more. -/
theorem Cp.step {w wo w1 w2 : World} {t s : Ty} {A5 : Option Addr} {c5 j : Nat} {A6 : Option Addr} {c6 g cap : Nat} {l : List Value} (h : Cp w t A5 c5 j A6 c6 wo) (hs : t.subs[j]? = some s) (hb : Below wo.heap.size wo w1) (hT : TyAt (strike (· < wo.heap.size) w1) l s)
    (hl : l.length = 7) {C : Nat → List Value} (hC : ∀ i, (C i).length = 7) (hCs : ∀ i s, i < j → t.subs[i]? = some s → TyAt (strike (fun b => b < w.heap.size + 2 ∨ (Value.slice A6 j c6).ownBlock = some b) wo) (C i) s)
    {o : Obj} (hown : w2.ownsRow (w.heap.size + 2) 42 7 (.slice (some ⟨g, 0, none⟩) (j + 1) cap) (j + 1) (((List.range j).map C).flatten ++ l)) (hgrow : (w1.alloc o).grownBy w2 (Value.slice A6 j c6).ownBlock)
    (hat : (Value.slice A6 j c6).ownBlock = some g ∨ g = (w1.alloc o).heap.size) (hold : ∀ b, (Value.slice A6 j c6).ownBlock = some b → w.heap.size + 2 ≤ b ∧ b < wo.heap.size) :
    Cp w t A5 c5 (j + 1) (some ⟨g, 0, none⟩) cap (w2.setCell ⟨w.heap.size, 6, none⟩ (.slice (some ⟨g, 0, none⟩) (j + 1) cap)) := by
  have hres := (Array.getElem?_eq_some_iff.1 h.res).1
  have hsz1 : wo.heap.size ≤ w1.heap.size := hb.size
  have hW : Below wo.heap.size wo (w1.alloc o) := below_new hb o
  have hWs : wo.heap.size ≤ (w1.alloc o).heap.size := hW.size
  have hg : w.heap.size + 2 ≤ g := by
    rcases hat with e | e
    · exact (hold g e).1
    · omega
  have keepB : ∀ b, b < wo.heap.size → (Value.slice A6 j c6).ownBlock ≠ some b → w2.heap[b]? = wo.heap[b]? := fun b hb' hne => by
    rw [hgrow.block b (by omega) (fun e => hne e.symm)]
    exact hW.block b hb'
  have hlo : ∀ b, b < w.heap.size + 2 → (Value.slice A6 j c6).ownBlock ≠ some b := fun b hb' e => by have := (hold b e).1; omega
  have b0 : w2.heap[w.heap.size]? = _ := (keepB w.heap.size (by omega) (hlo _ (by omega))).trans h.box
  have b1 : w2.heap[w.heap.size + 1]? = _ := (keepB (w.heap.size + 1) (by omega) (hlo _ (by omega))).trans h.res
  -- a cell that was not struck out ahead isn't struck out behind, and stands
  have mv : ∀ (wx : World), (∀ b, b < wx.heap.size → (Value.slice A6 j c6).ownBlock ≠ some b → w2.heap[b]? = wx.heap[b]?) → wx.heap.size ≤ (w1.alloc o).heap.size → ∀ (b q : Nat) (x : Value), ¬ b < w.heap.size + 2 → (Value.slice A6 j c6).ownBlock ≠ some b → wx.cell? ⟨b, q, none⟩ = some x →
      (strike (fun b => b < w.heap.size + 2 ∨ (Value.slice (some ⟨g, 0, none⟩) (j + 1) cap).ownBlock = some b) (w2.setCell ⟨w.heap.size, 6, none⟩ (.slice (some ⟨g, 0, none⟩) (j + 1) cap))).cell? ⟨b, q, none⟩ = some x := by
    intro wx hk hsx b q x h1 h2 hx
    have hlt := World.block_lt_of_cell? _ _ hx
    have hlt' : b < wx.heap.size := hlt
    refine strike_cell.2 ⟨?_, ?_⟩
    · rintro (e | e)
      · exact h1 e
      · simp [Value.ownBlock] at e
        subst e
        rcases hat with e2 | e2
        · exact h2 e2
        · omega
    · have e1 : (w2.setCell ⟨w.heap.size, 6, none⟩ (.slice (some ⟨g, 0, none⟩) (j + 1) cap)).heap[b]? = wx.heap[b]? := by
        rw [Below.heap_setCell _ _ _ _ (by show b ≠ w.heap.size; omega)]
        exact hk b hlt' h2
      rw [World.cell?_of_block (w := wx) (a := ⟨b, q, none⟩) e1]; exact hx
  have mvo : ∀ (b q : Nat) (x : Value), (strike (fun b => b < w.heap.size + 2 ∨ (Value.slice A6 j c6).ownBlock = some b) wo).cell? ⟨b, q, none⟩ = some x →
      (strike (fun b => b < w.heap.size + 2 ∨ (Value.slice (some ⟨g, 0, none⟩) (j + 1) cap).ownBlock = some b) (w2.setCell ⟨w.heap.size, 6, none⟩ (.slice (some ⟨g, 0, none⟩) (j + 1) cap))).cell? ⟨b, q, none⟩ = some x := fun b q x hx => by
    obtain ⟨h1, h2⟩ := strike_cell.1 hx
    exact mv wo keepB hWs b q x (fun e => h1 (.inl e)) (fun e => h1 (.inr e)) h2
  have mv1 : ∀ (b q : Nat) (x : Value), (strike (· < wo.heap.size) w1).cell? ⟨b, q, none⟩ = some x →
      (strike (fun b => b < w.heap.size + 2 ∨ (Value.slice (some ⟨g, 0, none⟩) (j + 1) cap).ownBlock = some b) (w2.setCell ⟨w.heap.size, 6, none⟩ (.slice (some ⟨g, 0, none⟩) (j + 1) cap))).cell? ⟨b, q, none⟩ = some x := fun b q x hx => by
    obtain ⟨h1, h2⟩ := strike_cell.1 hx
    refine mv w1 (fun b hb' hne => ?_) (by simp) b q x (by omega) (fun e => by have := (hold b e).2; omega) h2
    rw [hgrow.block b (by simp; omega) (fun e => hne e.symm)]
    exact Lib.alloc_old w1 o b hb'
  have hsz2 : wo.heap.size ≤ (w2.setCell ⟨w.heap.size, 6, none⟩ (.slice (some ⟨g, 0, none⟩) (j + 1) cap)).heap.size := by
    have e : (w2.setCell ⟨w.heap.size, 6, none⟩ (.slice (some ⟨g, 0, none⟩) (j + 1) cap)).heap.size = w2.heap.size := by simp
    have := hgrow.size
    omega
  have hsz3 : w1.heap.size ≤ (w2.setCell ⟨w.heap.size, 6, none⟩ (.slice (some ⟨g, 0, none⟩) (j + 1) cap)).heap.size := by
    have e : (w2.setCell ⟨w.heap.size, 6, none⟩ (.slice (some ⟨g, 0, none⟩) (j + 1) cap)).heap.size = w2.heap.size := by simp
    have := hgrow.size
    have : (w1.alloc o).heap.size = w1.heap.size + 1 := by simp
    omega
  refine ⟨?_, ?_, ?_, h.names.cells (by rw [strike_size, strike_size]; exact hsz2) mvo, fun i => if i < j then C i else l, ?_, ?_, ?_⟩
  · refine (?_ : Below w.heap.size w w2).setCell (Nat.le_refl _) _
    refine (below_over h.below hW).trans ⟨hgrow.os, hgrow.tape, hgrow.output, hgrow.size, fun b hb' => hgrow.block b ?_ ?_⟩
    · have := h.below.size; omega
    · intro e
      have := (hold b e.symm).1
      omega
  · have := Joins.block_setCell (i := 6) b0 (.slice (some ⟨g, 0, none⟩) (j + 1) cap)
    simpa using this
  · rw [Below.heap_setCell _ _ _ _ (by show w.heap.size + 1 ≠ w.heap.size; omega)]
    exact b1
  · intro i
    show (if i < j then C i else l).length = 7
    split
    · exact hC i
    · exact hl
  · have e : ((List.range (j + 1)).map fun i => if i < j then C i else l).flatten = ((List.range j).map C).flatten ++ l := by
      rw [List.range_succ, List.map_append, List.flatten_append]
      congr 1
      · congr 1
        apply List.map_congr_left
        intro a ha
        rw [if_pos (List.mem_range.1 ha)]
      · simp
    rw [e]
    exact ownsRow_setCell_below hown (by show w.heap.size < w.heap.size + 2; omega) _
  · intro i q hi hq
    show TyAt _ (if i < j then C i else l) q
    by_cases hij : i < j
    · rw [if_pos hij]
      exact (hCs i q hij hq).cells (by rw [strike_size, strike_size]; exact hsz2) mvo
    · rw [if_neg hij]
      obtain rfl : i = j := by omega
      rw [hs] at hq
      obtain rfl := Option.some.inj hq
      exact hT.cells (by rw [strike_size, strike_size]; exact hsz3) mv1

/-- At the end: a type in new memory alone. -/
theorem Cp.done {w wr : World} {t : Ty} {A5 : Option Addr} {c5 : Nat} {A6 : Option Addr} {c6 : Nat} (h : Cp w t A5 c5 t.subs.length A6 c6 wr)
    (hp : t.pkg.size ≤ 9223372036854775807) (hm : t.mod.size ≤ 9223372036854775807) (hn : t.name.size ≤ 9223372036854775807) (hln : t.names.length ≤ 9223372036854775807) (hls : t.subs.length ≤ 9223372036854775807) :
    TyAt (strike (· < w.heap.size + 2) wr) [.int .i64 t.kind, .string t.pkg, .int .i64 t.major, .string t.mod, .string t.name, .slice A5 t.names.length c5, .slice A6 t.subs.length c6] t := by
  obtain ⟨C, hC, hown, hCs⟩ := h.subs
  have wk : ∀ (b q : Nat) (x : Value), (strike (fun b => b < w.heap.size + 2 ∨ (Value.slice A6 t.subs.length c6).ownBlock = some b) wr).cell? ⟨b, q, none⟩ = some x → (strike (· < w.heap.size + 2) wr).cell? ⟨b, q, none⟩ = some x := fun b q x hx => by
    obtain ⟨h1, h2⟩ := strike_cell.1 hx
    exact strike_cell.2 ⟨fun e => h1 (.inl e), h2⟩
  have hcap : t.subs.length ≤ c6 := by
    rcases hown.2 with ⟨e, h0⟩ | ⟨g, cap, cur, e, hB, hg, hnc, -⟩
    · simp at e; omega
    · simp at e; omega
  have hd : t = .mk t.kind t.pkg t.major t.mod t.name t.names t.subs := by cases t; rfl
  rw [show TyAt (strike (· < w.heap.size + 2) wr) [.int .i64 t.kind, .string t.pkg, .int .i64 t.major, .string t.mod, .string t.name, .slice A5 t.names.length c5, .slice A6 t.subs.length c6] t = TyAt (strike (· < w.heap.size + 2) wr) [.int .i64 t.kind, .string t.pkg, .int .i64 t.major, .string t.mod, .string t.name, .slice A5 t.names.length c5, .slice A6 t.subs.length c6] (.mk t.kind t.pkg t.major t.mod t.name t.names t.subs) by rw [← hd]]
  refine .mk t.kind t.pkg t.major t.mod t.name t.names t.subs A5 c5 A6 c6 C hp hm hn hln hls hcap (h.names.cells (by rw [strike_size, strike_size]; exact Nat.le_refl _) wk) hC (fun i s hs => ?_) (fun i s hs => ?_)
  · have hi := (List.getElem?_eq_some_iff.1 hs).1
    rcases hown.2 with ⟨e, h0⟩ | ⟨g, cap, cur, e, hB, hg, hnc, hcm, hcs, htake⟩
    · omega
    · have e1 : A6 = some ⟨g, 0, none⟩ := by simp at e; exact e.1
      refine ⟨g, 0, e1, by rw [strike_size]; exact (Array.getElem?_eq_some_iff.1 hg).1, fun q v hv => strike_cell.2 ⟨by omega, ?_⟩⟩
      have hq := (List.getElem?_eq_some_iff.1 hv).1
      rw [hC i] at hq
      rw [Lib.cell_of_heap hg, Nat.zero_add, ← Array.getElem?_toList]
      have e2 : (cur.toList.take (t.subs.length * 7))[i * 7 + q]? = some v := by rw [htake, flat_at C hC _ i q hi hq]; exact hv
      rw [List.getElem?_take] at e2
      split at e2
      · exact e2
      · cases e2
  · have hi := (List.getElem?_eq_some_iff.1 hs).1
    exact (hCs i s hi hs).cells (by rw [strike_size, strike_size]; exact Nat.le_refl _) wk

end Go.Proofs.YtpfoclpgcbjjoaaGreatDoor

/- Walks of the calls of package ident: which bytes are letters and digits, keys, the types' words, how a name is spelled. No condition. -/
namespace Go.Proofs.YtpfoclpgcbjjoaaGreatDoor
open Go.RowKit
open M

set_option maxHeartbeats 400000 in
theorem lower_any (n : Int) (w : World) : Calls Tryz.prog 76 #[.int .u8 n] w fun e w' => e = .returned (.bool (lowC n)) ∧ w = w' := by
  go_enter Tryz.func76, Tryz.ntmps76
  go_wp2
  all_goals go_ret
  all_goals exact ⟨ret_bool (by unfold lowC; simp_all; try omega), rfl⟩
set_option maxHeartbeats 400000 in
theorem upper_any (n : Int) (w : World) : Calls Tryz.prog 117 #[.int .u8 n] w fun e w' => e = .returned (.bool (upC n)) ∧ w = w' := by
  go_enter Tryz.func117, Tryz.ntmps117
  go_wp2
  all_goals go_ret
  all_goals exact ⟨ret_bool (by unfold upC; simp_all; try omega), rfl⟩
set_option maxHeartbeats 400000 in
theorem digit_any (n : Int) (w : World) : Calls Tryz.prog 115 #[.int .u8 n] w fun e w' => e = .returned (.bool (digC n)) ∧ w = w' := by
  go_enter Tryz.func115, Tryz.ntmps115
  go_wp2
  all_goals go_ret
  all_goals exact ⟨ret_bool (by unfold digC; simp_all; try omega), rfl⟩
set_option maxHeartbeats 400000 in
theorem lowDig_any (n : Int) (w : World) : Calls Tryz.prog 77 #[.int .u8 n] w fun e w' => e = .returned (.bool (lowDigC n)) ∧ w = w' := by
  unfold lowDigC
  rcases hid_or (lowC n) with h | h <;> rw [h.out]
  all_goals
    go_enter Tryz.func77, Tryz.ntmps77
    go_wp2_with fail
    refine (lower_any _ _).mono ?_; rintro e w' ⟨rfl, rfl⟩; rw [h.out]
    go_wp2_with (go_at_call 115; refine (digit_any _ _).mono ?_; rintro e w' ⟨rfl, rfl⟩)
    go_ret
    exact ⟨rfl, rfl⟩
set_option maxHeartbeats 400000 in
theorem any_any (n : Int) (w : World) : Calls Tryz.prog 118 #[.int .u8 n] w fun e w' => e = .returned (.bool (anyC n)) ∧ w = w' := by
  unfold anyC
  rcases hid_or (lowC n) with h | h <;> rw [h.out]
  · rcases hid_or (upC n) with h2 | h2 <;> rw [h2.out]
    all_goals
      go_enter Tryz.func118, Tryz.ntmps118
      go_wp2_with fail
      refine (lower_any _ _).mono ?_; rintro e w' ⟨rfl, rfl⟩; rw [h.out]
      go_wp2_with fail
      refine (upper_any _ _).mono ?_; rintro e w' ⟨rfl, rfl⟩; rw [h2.out]
      go_wp2_with (go_at_call 115; refine (digit_any _ _).mono ?_; rintro e w' ⟨rfl, rfl⟩)
      go_ret
      exact ⟨rfl, rfl⟩
  · go_enter Tryz.func118, Tryz.ntmps118
    go_wp2_with fail
    refine (lower_any _ _).mono ?_; rintro e w' ⟨rfl, rfl⟩; rw [h.out]
    go_wp2
    go_ret
    exact ⟨rfl, rfl⟩

set_option maxHeartbeats 1000000 in
theorem key_any (s : ByteArray) (w : World) : Calls Tryz.prog 78 #[.string s] w fun e w' => e = .returned (.bool (keyB s.data.toList)) ∧ w = w' := by
  have E := Lib.hid (show s.toList = s.data.toList from Lib.toList_data s)
  go_enter Tryz.func78, Tryz.ntmps78
  go_wp2
  all_goals go_ret
  all_goals refine ⟨ret_bool ?_, rfl⟩
  all_goals (rw [← E.out]; clear E; simp_all [keyB, keys])
set_option maxHeartbeats 1000000 in
theorem word_any (s : ByteArray) (w : World) : Calls Tryz.prog 119 #[.string s] w fun e w' => e = .returned (.bool (wordB s.data.toList)) ∧ w = w' := by
  have E := Lib.hid (show s.toList = s.data.toList from Lib.toList_data s)
  go_enter Tryz.func119, Tryz.ntmps119
  go_wp2
  all_goals go_ret
  all_goals refine ⟨ret_bool ?_, rfl⟩
  all_goals (rw [← E.out]; clear E; simp_all [wordB, words])

end Go.Proofs.YtpfoclpgcbjjoaaGreatDoor

/- Walks of package ident: how a name is spelled, small names, great names. No condition but that a text's length is an int. -/
namespace Go.Proofs.YtpfoclpgcbjjoaaGreatDoor
open Go.RowKit
open M

theorem empty_facts (s : ByteArray) (h : s.size = 0) : s.toList = [] ∧ s.toList.isEmpty = true := by
  have hl : s.data.toList = [] := by rw [← List.length_eq_zero_iff, len_size]; exact h
  have g1 : s.toList = [] := by rw [Lib.toList_data, hl]
  exact ⟨g1, by rw [g1]; rfl⟩
theorem full_facts (s : ByteArray) (h : ¬ s.size = 0) : ¬ s.toList = [] ∧ s.toList.isEmpty = false := by
  have hl : s.data.toList ≠ [] := by intro e; apply h; rw [← len_size, e]; rfl
  have g1 : ¬ s.toList = [] := by rw [Lib.toList_data]; exact hl
  exact ⟨g1, by simpa using g1⟩

set_option maxHeartbeats 1000000 in
theorem spelled_low (s : ByteArray) (w : World) (hs : s.size ≤ 9223372036854775807) :
    Calls Tryz.prog 75 #[.string s, .func (.func 76) #[] #[], .func (.func 77) #[] #[]] w fun e w' => e = .returned (.bool (spell lowC lowDigC s.data.toList)) ∧ w = w' := by
  by_cases h0 : s.size = 0
  · have R := Lib.hid (spell_empty lowC lowDigC s h0)
    rw [R.out]
    obtain ⟨g1, g2⟩ := empty_facts s h0
    clear h0 R
    go_enter Tryz.func75, Tryz.ntmps75
    go_wp2
    go_ret
    exact ⟨rfl, rfl⟩
  obtain ⟨g1, g2⟩ := full_facts s h0
  have hp : 0 < s.size := by omega
  clear h0
  by_cases h1 : 20 < s.size
  · have R := Lib.hid (spell_long lowC lowDigC s h1)
    rw [R.out]
    have h1' : (20 : Int) < ↑s.size := by omega
    clear h1 R
    go_enter Tryz.func75, Tryz.ntmps75
    go_wp2
    go_ret
    exact ⟨rfl, rfl⟩
  have h1' : (↑s.size : Int) ≤ 20 := by omega
  have h1'' : ¬ (20 : Int) < ↑s.size := by omega
  have B0 := Lib.hid (bt_eq s 0 hp)
  rcases hid_or (lowC (bt s.data.toList 0)) with hf | hf
  · have R := Lib.hid (spell_first lowC lowDigC s hf.out)
    rw [R.out]
    clear h1 R
    go_enter Tryz.func75, Tryz.ntmps75
    go_wp2_with fail
    rw [B0.out]
    refine (lower_any _ _).mono ?_; rintro e w' ⟨rfl, rfl⟩; rw [hf.out]
    go_wp2
    go_ret
    exact ⟨rfl, rfl⟩
  go_enter Tryz.func75, Tryz.ntmps75
  go_wp2_with fail
  rw [B0.out]
  refine (lower_any _ _).mono ?_; rintro e w' ⟨rfl, rfl⟩; rw [hf.out]
  go_wp2
  go_loop [7] (fun i => ∃ k : Nat, 1 ≤ k ∧ k ≤ s.size ∧ i = .int .i64 k ∧ Hid (∀ j, 1 ≤ j → j < k → lowDigC (bt s.data.toList j) = true)) (fun i => s.size - (intOf i).toNat)
  case atStart => exact ⟨1, by omega, by omega, rfl, Lib.hid (fun j a b => by omega)⟩
  case round =>
    obtain ⟨k, hk1, hk, rfl, HK⟩ := hrel
    by_cases hlt : k < s.size
    · have BK := Lib.hid (bt_eq s k hlt)
      rcases hid_or (lowDigC (bt s.data.toList k)) with hg | hg
      · go_wp2_with fail
        rw [BK.out]
        refine (lowDig_any _ _).mono ?_; rintro e w' ⟨rfl, rfl⟩; rw [hg.out]
        go_wp2
        go_ret
        exact ⟨ret_bool (spell_later lowC lowDigC s k hk1 hlt hg.out), rfl⟩
      · go_wp2_with fail
        rw [BK.out]
        refine (lowDig_any _ _).mono ?_; rintro e w' ⟨rfl, rfl⟩; rw [hg.out]
        go_wp2
        go_round
        case rel => exact ⟨k + 1, by omega, by omega, by go_num, Lib.hid (upto_step (P := fun j => lowDigC (bt s.data.toList j)) HK.out hg.out)⟩
        case measure => simp [intOf]; omega
    · go_wp2
      go_ret
      exact ⟨ret_bool (spell_all lowC lowDigC s hp (by omega) hf.out (fun j a b => HK.out j a (by omega))), rfl⟩

set_option maxHeartbeats 1000000 in
theorem spelled_up (s : ByteArray) (w : World) (hs : s.size ≤ 9223372036854775807) :
    Calls Tryz.prog 75 #[.string s, .func (.func 117) #[] #[], .func (.func 118) #[] #[]] w fun e w' => e = .returned (.bool (spell upC anyC s.data.toList)) ∧ w = w' := by
  by_cases h0 : s.size = 0
  · have R := Lib.hid (spell_empty upC anyC s h0)
    rw [R.out]
    obtain ⟨g1, g2⟩ := empty_facts s h0
    clear h0 R
    go_enter Tryz.func75, Tryz.ntmps75
    go_wp2
    go_ret
    exact ⟨rfl, rfl⟩
  obtain ⟨g1, g2⟩ := full_facts s h0
  have hp : 0 < s.size := by omega
  clear h0
  by_cases h1 : 20 < s.size
  · have R := Lib.hid (spell_long upC anyC s h1)
    rw [R.out]
    have h1' : (20 : Int) < ↑s.size := by omega
    clear h1 R
    go_enter Tryz.func75, Tryz.ntmps75
    go_wp2
    go_ret
    exact ⟨rfl, rfl⟩
  have h1' : (↑s.size : Int) ≤ 20 := by omega
  have h1'' : ¬ (20 : Int) < ↑s.size := by omega
  have B0 := Lib.hid (bt_eq s 0 hp)
  rcases hid_or (upC (bt s.data.toList 0)) with hf | hf
  · have R := Lib.hid (spell_first upC anyC s hf.out)
    rw [R.out]
    clear h1 R
    go_enter Tryz.func75, Tryz.ntmps75
    go_wp2_with fail
    rw [B0.out]
    refine (upper_any _ _).mono ?_; rintro e w' ⟨rfl, rfl⟩; rw [hf.out]
    go_wp2
    go_ret
    exact ⟨rfl, rfl⟩
  go_enter Tryz.func75, Tryz.ntmps75
  go_wp2_with fail
  rw [B0.out]
  refine (upper_any _ _).mono ?_; rintro e w' ⟨rfl, rfl⟩; rw [hf.out]
  go_wp2
  go_loop [7] (fun i => ∃ k : Nat, 1 ≤ k ∧ k ≤ s.size ∧ i = .int .i64 k ∧ Hid (∀ j, 1 ≤ j → j < k → anyC (bt s.data.toList j) = true)) (fun i => s.size - (intOf i).toNat)
  case atStart => exact ⟨1, by omega, by omega, rfl, Lib.hid (fun j a b => by omega)⟩
  case round =>
    obtain ⟨k, hk1, hk, rfl, HK⟩ := hrel
    by_cases hlt : k < s.size
    · have BK := Lib.hid (bt_eq s k hlt)
      rcases hid_or (anyC (bt s.data.toList k)) with hg | hg
      · go_wp2_with fail
        rw [BK.out]
        refine (any_any _ _).mono ?_; rintro e w' ⟨rfl, rfl⟩; rw [hg.out]
        go_wp2
        go_ret
        exact ⟨ret_bool (spell_later upC anyC s k hk1 hlt hg.out), rfl⟩
      · go_wp2_with fail
        rw [BK.out]
        refine (any_any _ _).mono ?_; rintro e w' ⟨rfl, rfl⟩; rw [hg.out]
        go_wp2
        go_round
        case rel => exact ⟨k + 1, by omega, by omega, by go_num, Lib.hid (upto_step (P := fun j => anyC (bt s.data.toList j)) HK.out hg.out)⟩
        case measure => simp [intOf]; omega
    · go_wp2
      go_ret
      exact ⟨ret_bool (spell_all upC anyC s hp (by omega) hf.out (fun j a b => HK.out j a (by omega))), rfl⟩

set_option maxHeartbeats 400000 in
theorem small_any (s : ByteArray) (w : World) (hs : s.size ≤ 9223372036854775807) :
    Calls Tryz.prog 34 #[.string s] w fun e w' => e = .returned (.bool (smallB s.data.toList)) ∧ w = w' := by
  unfold smallB
  rcases hid_or (spell lowC lowDigC s.data.toList) with h | h <;> rw [h.out]
  · go_enter Tryz.func34, Tryz.ntmps34
    go_wp2_with fail
    refine (spelled_low _ _ hs).mono ?_; rintro e w' ⟨rfl, rfl⟩; rw [h.out]
    go_wp2
    go_ret
    exact ⟨rfl, rfl⟩
  · go_enter Tryz.func34, Tryz.ntmps34
    go_wp2_with fail
    refine (spelled_low _ _ hs).mono ?_; rintro e w' ⟨rfl, rfl⟩; rw [h.out]
    go_wp2_with fail
    refine (key_any _ _).mono ?_; rintro e w' ⟨rfl, rfl⟩
    go_wp2
    go_ret
    exact ⟨rfl, rfl⟩
set_option maxHeartbeats 400000 in
theorem great_any (s : ByteArray) (w : World) (hs : s.size ≤ 9223372036854775807) :
    Calls Tryz.prog 82 #[.string s] w fun e w' => e = .returned (.bool (greatB s.data.toList)) ∧ w = w' := by
  unfold greatB
  rcases hid_or (spell upC anyC s.data.toList) with h | h <;> rw [h.out]
  · go_enter Tryz.func82, Tryz.ntmps82
    go_wp2_with fail
    refine (spelled_up _ _ hs).mono ?_; rintro e w' ⟨rfl, rfl⟩; rw [h.out]
    go_wp2
    go_ret
    exact ⟨rfl, rfl⟩
  · go_enter Tryz.func82, Tryz.ntmps82
    go_wp2_with fail
    refine (spelled_up _ _ hs).mono ?_; rintro e w' ⟨rfl, rfl⟩; rw [h.out]
    go_wp2_with fail
    refine (word_any _ _).mono ?_; rintro e w' ⟨rfl, rfl⟩
    go_wp2
    go_ret
    exact ⟨rfl, rfl⟩

end Go.Proofs.YtpfoclpgcbjjoaaGreatDoor

/- Walks of the reference: keys, letters, small names, great names. -/
namespace Go.Proofs.YtpfoclpgcbjjoaaGreatDoor
open Go.RowKit
open M

def keyAt (k : Nat) : ByteArray := ⟨(keys.getD k []).toArray⟩
theorem keyAt_list (k : Nat) : (keyAt k).toList = keys.getD k [] := by rw [Lib.toList_data]; rfl
theorem key_no (l : List UInt8) (h : ∀ j, j < 12 → (keys.getD j [] == l) = false) : keyB l = false := by
  have h0 := h 0 (by omega); have h1 := h 1 (by omega); have h2 := h 2 (by omega); have h3 := h 3 (by omega); have h4 := h 4 (by omega); have h5 := h 5 (by omega)
  have h6 := h 6 (by omega); have h7 := h 7 (by omega); have h8 := h 8 (by omega); have h9 := h 9 (by omega); have h10 := h 10 (by omega); have h11 := h 11 (by omega)
  simp only [keys, List.getD_cons_zero, List.getD_cons_succ, beq_eq_false_iff_ne] at h0 h1 h2 h3 h4 h5 h6 h7 h8 h9 h10 h11
  rw [Bool.eq_false_iff]
  intro e
  unfold keyB at e
  rw [List.contains_iff_mem] at e
  simp only [keys, List.mem_cons, List.not_mem_nil, or_false] at e
  rcases e with e | e | e | e | e | e | e | e | e | e | e | e <;> first | exact h0 e.symm | exact h1 e.symm | exact h2 e.symm | exact h3 e.symm | exact h4 e.symm | exact h5 e.symm | exact h6 e.symm | exact h7 e.symm | exact h8 e.symm | exact h9 e.symm | exact h10 e.symm | exact h11 e.symm
theorem key_yes (l : List UInt8) (k : Nat) (hk : k < 12) (h : (keys.getD k [] == l) = true) : keyB l = true := by
  unfold keyB
  rw [List.contains_iff_mem]
  have : keys.getD k [] = l := by simpa using h
  rw [← this, List.getD_eq_getElem?_getD, List.getElem?_eq_getElem (by exact hk)]
  exact List.getElem_mem _

theorem ks_cell (w : World) (k : Nat) (hk : k < 12) : (w.alloc (.cells #[.string ⟨#[97, 115]⟩, .string ⟨#[97, 108, 105, 97, 115]⟩, .string ⟨#[100, 101, 112]⟩, .string ⟨#[104, 105, 100, 100, 101, 110]⟩, .string ⟨#[105, 109, 112, 111, 114, 116]⟩, .string ⟨#[105, 115]⟩, .string ⟨#[109, 111, 100, 117, 108, 101]⟩, .string ⟨#[111, 112, 97, 113, 117, 101]⟩, .string ⟨#[112, 97, 99, 107, 97, 103, 101]⟩, .string ⟨#[117, 115, 101]⟩, .string ⟨#[118, 97, 108]⟩, .string ⟨#[118, 101, 114, 115, 105, 111, 110]⟩] 9)).cell? ⟨w.heap.size, k, none⟩ = some (.string (keyAt k)) := by
  match k, hk with
  | 0, _ => go_simp; rfl
  | 1, _ => go_simp; rfl
  | 2, _ => go_simp; rfl
  | 3, _ => go_simp; rfl
  | 4, _ => go_simp; rfl
  | 5, _ => go_simp; rfl
  | 6, _ => go_simp; rfl
  | 7, _ => go_simp; rfl
  | 8, _ => go_simp; rfl
  | 9, _ => go_simp; rfl
  | 10, _ => go_simp; rfl
  | 11, _ => go_simp; rfl

set_option maxHeartbeats 1000000 in
theorem refKey_any (s : ByteArray) (w : World) : Calls Tryz.prog 73 #[.string s] w fun e w' => e = .returned (.bool (keyB s.data.toList)) ∧ Below w.heap.size w w' := by
  have HC := Lib.hid (ks_cell w)
  have E := Lib.hid (show s.toList = s.data.toList from Lib.toList_data s)
  go_enter Tryz.func73, Tryz.ntmps73
  go_wp2
  go_loop [4] (fun i => ∃ k : Nat, k ≤ 12 ∧ i = .int .i64 k ∧ Hid (∀ j, 0 ≤ j → j < k → (keys.getD j [] == s.data.toList) = false)) (fun i => 12 - (intOf i).toNat)
  case atStart => exact ⟨0, by omega, rfl, Lib.hid (fun j _ a => by omega)⟩
  case round =>
    obtain ⟨k, hk, rfl, HK⟩ := hrel
    by_cases hlt : k < 12
    · have hc := HC.out k hlt
      rcases hid_or ((keyAt k).toList == s.toList) with H | H
      · have H' := Lib.hid H.out
        rw [keyAt_list, E.out] at H'
        have q := H.out
        go_wp2
        go_round
        case rel => exact ⟨k + 1, by omega, by go_num, Lib.hid (by
          have := upto_step (b := 0) (P := fun j => !(keys.getD j [] == s.data.toList)) (fun j a b => by rw [HK.out j a b]; rfl) (by rw [H'.out]; rfl)
          simpa using this)⟩
        case measure => simp [intOf]; omega
      · have H' := Lib.hid H.out
        rw [keyAt_list, E.out] at H'
        have q := H.out
        go_wp2
        go_ret
        exact ⟨ret_bool (key_yes _ k hlt H'.out), below_new (Below.refl _ _) _⟩
    · go_wp2
      go_ret
      exact ⟨ret_bool (key_no _ (fun j a => HK.out j (by omega) (by omega))), below_new (Below.refl _ _) _⟩

theorem low_yes {x y : Int} (h : y = x) (c : lowC y = true ∨ digC y = true) : lowDigC x = true := by subst h; unfold lowDigC; rcases c with c | c <;> simp [c]
theorem low_no {x y : Int} (h : y = x) (c : lowC y = false ∧ digC y = false) : lowDigC x = false := by subst h; unfold lowDigC; simp [c]

set_option maxHeartbeats 1000000 in
theorem letters_low (s : ByteArray) (w : World) (hs : s.size ≤ 9223372036854775807) :
    Calls Tryz.prog 72 #[.string s, .bool false] w fun e w' => e = .returned (.bool (letters lowDigC s.data.toList)) ∧ w = w' := by
  by_cases h0 : s.size = 0
  · have R := Lib.hid (letters_empty lowDigC s h0)
    rw [R.out]
    have h0' : (↑s.size : Int) < 1 := by omega
    clear h0 R
    go_enter Tryz.func72, Tryz.ntmps72
    go_wp2
    go_ret
    exact ⟨rfl, rfl⟩
  have hp : 0 < s.size := by omega
  have hp' : ¬ (↑s.size : Int) < 1 := by omega
  have hp'' : 1 ≤ (↑s.size : Int) := by omega
  clear h0
  by_cases h1 : 20 < s.size
  · have R := Lib.hid (letters_long lowDigC s h1)
    rw [R.out]
    have h1' : (20 : Int) < ↑s.size := by omega
    clear h1 R
    go_enter Tryz.func72, Tryz.ntmps72
    go_wp2
    go_ret
    exact ⟨rfl, rfl⟩
  have h1' : (↑s.size : Int) ≤ 20 := by omega
  have h1'' : ¬ (20 : Int) < ↑s.size := by omega
  go_enter Tryz.func72, Tryz.ntmps72
  go_wp2
  go_loop [5] (fun i => ∃ k : Nat, k ≤ s.size ∧ i = .int .i64 k ∧ Hid (∀ j, 0 ≤ j → j < k → lowDigC (bt s.data.toList j) = true)) (fun i => s.size - (intOf i).toNat)
  case atStart => exact ⟨0, by omega, rfl, Lib.hid (fun j a b => by omega)⟩
  case round =>
    obtain ⟨k, hk, rfl, HK⟩ := hrel
    by_cases hlt : k < s.size
    · have BK := Lib.hid (bt_eq s k hlt)
      go_wp2
      all_goals
        first
        | (exfalso; simp_all <;> omega)
        | (go_ret
           exact ⟨ret_bool (letters_later lowDigC s k hlt (low_no BK.out (by unfold lowC digC; simp_all <;> omega))), rfl⟩)
        | (go_round
           case rel => exact ⟨k + 1, by omega, by go_num, Lib.hid (upto_step (P := fun j => lowDigC (bt s.data.toList j)) HK.out (low_yes BK.out (by unfold lowC digC; simp_all <;> omega)))⟩
           case measure => simp [intOf]; omega)
    · go_wp2
      go_ret
      exact ⟨ret_bool (letters_all lowDigC s hp (by omega) (fun j a => HK.out j (by omega) (by omega))), rfl⟩

theorem big_yes {x y : Int} (h : y = x) (c : lowC y = true ∨ digC y = true ∨ upC y = true) : anyC x = true := by subst h; unfold anyC; rcases c with c | c | c <;> simp [c]
theorem big_no {x y : Int} (h : y = x) (c : lowC y = false ∧ digC y = false ∧ upC y = false) : anyC x = false := by subst h; unfold anyC; simp [c]

set_option maxHeartbeats 1000000 in
theorem letters_big (s : ByteArray) (w : World) (hs : s.size ≤ 9223372036854775807) :
    Calls Tryz.prog 72 #[.string s, .bool true] w fun e w' => e = .returned (.bool (letters anyC s.data.toList)) ∧ w = w' := by
  by_cases h0 : s.size = 0
  · have R := Lib.hid (letters_empty anyC s h0)
    rw [R.out]
    have h0' : (↑s.size : Int) < 1 := by omega
    clear h0 R
    go_enter Tryz.func72, Tryz.ntmps72
    go_wp2
    go_ret
    exact ⟨rfl, rfl⟩
  have hp : 0 < s.size := by omega
  have hp' : ¬ (↑s.size : Int) < 1 := by omega
  have hp'' : 1 ≤ (↑s.size : Int) := by omega
  clear h0
  by_cases h1 : 20 < s.size
  · have R := Lib.hid (letters_long anyC s h1)
    rw [R.out]
    have h1' : (20 : Int) < ↑s.size := by omega
    clear h1 R
    go_enter Tryz.func72, Tryz.ntmps72
    go_wp2
    go_ret
    exact ⟨rfl, rfl⟩
  have h1' : (↑s.size : Int) ≤ 20 := by omega
  have h1'' : ¬ (20 : Int) < ↑s.size := by omega
  go_enter Tryz.func72, Tryz.ntmps72
  go_wp2
  go_loop [5] (fun i => ∃ k : Nat, k ≤ s.size ∧ i = .int .i64 k ∧ Hid (∀ j, 0 ≤ j → j < k → anyC (bt s.data.toList j) = true)) (fun i => s.size - (intOf i).toNat)
  case atStart => exact ⟨0, by omega, rfl, Lib.hid (fun j a b => by omega)⟩
  case round =>
    obtain ⟨k, hk, rfl, HK⟩ := hrel
    by_cases hlt : k < s.size
    · have BK := Lib.hid (bt_eq s k hlt)
      go_wp2
      all_goals
        first
        | (exfalso; simp_all <;> omega)
        | (go_ret
           exact ⟨ret_bool (letters_later anyC s k hlt (big_no BK.out (by unfold lowC digC upC; simp_all <;> omega))), rfl⟩)
        | (go_round
           case rel => exact ⟨k + 1, by omega, by go_num, Lib.hid (upto_step (P := fun j => anyC (bt s.data.toList j)) HK.out (big_yes BK.out (by unfold lowC digC upC; simp_all <;> omega)))⟩
           case measure => simp [intOf]; omega)
    · go_wp2
      go_ret
      exact ⟨ret_bool (letters_all anyC s hp (by omega) (fun j a => HK.out j (by omega) (by omega))), rfl⟩

end Go.Proofs.YtpfoclpgcbjjoaaGreatDoor

/- Walks of the reference's small names and great names (IdD without the examples of layer 2's statements). -/
namespace Go.Proofs.YtpfoclpgcbjjoaaGreatDoor
open Go.RowKit
open M

theorem letters_pos {g : Int → Bool} {s : ByteArray} (h : letters g s.data.toList = true) : 0 < s.size := by
  have := ((letters_iff _ _).1 h).1; rwa [len_size] at this
theorem below_chain {w a b : World} (h1 : Below w.heap.size w a) (h2 : a = b) : Below w.heap.size w b := h2 ▸ h1

set_option maxHeartbeats 1000000 in
theorem refSmall_any (s : ByteArray) (w : World) (hs : s.size ≤ 9223372036854775807) :
    Calls Tryz.prog 31 #[.string s] w fun e w' => e = .returned (.bool (smallB s.data.toList)) ∧ Below w.heap.size w w' := by
  rcases hid_or (letters lowDigC s.data.toList) with h | h
  · have R := Lib.hid (small_none _ h.out)
    rw [R.out]; clear R
    go_enter Tryz.func31, Tryz.ntmps31
    go_wp2_with fail
    refine (letters_low _ _ hs).mono ?_; rintro e w' ⟨rfl, rfl⟩; rw [h.out]
    go_wp2_with fail
    refine (refKey_any _ _).mono ?_; rintro e w1 ⟨rfl, hb1⟩
    go_wp2
    go_ret
    exact ⟨rfl, hb1⟩
  · have R := Lib.hid (small_ref _ h.out)
    have hp := letters_pos h.out
    have B0 := Lib.hid (bt_eq s 0 hp)
    rw [R.out]; clear R
    rcases hid_or (keyB s.data.toList) with h2 | h2 <;> rw [h2.out]
    · rw [← B0.out]
      go_enter Tryz.func31, Tryz.ntmps31
      go_wp2_with fail
      refine (letters_low _ _ hs).mono ?_; rintro e w' ⟨rfl, rfl⟩; rw [h.out]
      go_wp2_with fail
      refine (refKey_any _ _).mono ?_; rintro e w1 ⟨rfl, hb1⟩; rw [h2.out]
      go_wp2
      go_ret
      exact ⟨rfl, hb1⟩
    · go_enter Tryz.func31, Tryz.ntmps31
      go_wp2_with fail
      refine (letters_low _ _ hs).mono ?_; rintro e w' ⟨rfl, rfl⟩; rw [h.out]
      go_wp2_with fail
      refine (refKey_any _ _).mono ?_; rintro e w1 ⟨rfl, hb1⟩; rw [h2.out]
      go_wp2
      go_ret
      exact ⟨rfl, hb1⟩

set_option maxHeartbeats 1000000 in
theorem refGreat_any (s : ByteArray) (w : World) (hs : s.size ≤ 9223372036854775807) :
    Calls Tryz.prog 74 #[.string s] w fun e w' => e = .returned (.bool (greatB s.data.toList)) ∧ w = w' := by
  rcases hid_or (letters anyC s.data.toList) with h | h
  · have R := Lib.hid (great_none _ h.out)
    rw [R.out]; clear R
    go_enter Tryz.func74, Tryz.ntmps74
    go_wp2_with fail
    refine (letters_big _ _ hs).mono ?_; rintro e w' ⟨rfl, rfl⟩; rw [h.out]
    go_wp2
    go_ret
    exact ⟨rfl, rfl⟩
  · have R := Lib.hid (great_ref _ h.out)
    have hp := letters_pos h.out
    have B0 := Lib.hid (bt_eq s 0 hp)
    have E := Lib.hid (show s.toList = s.data.toList from Lib.toList_data s)
    unfold greatB
    rw [R.out, ← B0.out, ← E.out]; clear R B0
    go_enter Tryz.func74, Tryz.ntmps74
    go_wp2_with fail
    refine (letters_big _ _ hs).mono ?_; rintro e w' ⟨rfl, rfl⟩; rw [h.out]
    go_wp2
    all_goals go_ret
    all_goals refine ⟨ret_bool ?_, rfl⟩
    all_goals (clear h E; rw [Bool.eq_iff_iff]; simp_all [wordB, words] <;> (intros; omega))

end Go.Proofs.YtpfoclpgcbjjoaaGreatDoor

/- The reference's reader in memory, and the tokens that it reads. -/
namespace Go.Proofs.YtpfoclpgcbjjoaaGreatDoor
open Go.RowKit
open Go.Sort
open M

/-- A slice's cells hold these tokens. -/
def TokAt (w : World) (A : Option Addr) (S : Toks) : Prop :=
  ∀ i, i < S.n → ∃ (g o : Nat) (y : Int), A = some ⟨g, o, none⟩ ∧ g < w.heap.size ∧ w.cell? ⟨g, o + i * 3, none⟩ = some (.int .i64 (S.K i)) ∧ w.cell? ⟨g, o + i * 3 + 1, none⟩ = some (.int .i64 y) ∧ w.cell? ⟨g, o + i * 3 + 2, none⟩ = some (.string (S.T i)) ∧ (S.T i).size ≤ 9223372036854775807
theorem TokAt.below {w w' : World} {A : Option Addr} {S : Toks} (h : TokAt w A S) (hb : Below w.heap.size w w') : TokAt w' A S := by
  intro i hi
  obtain ⟨g, o, y, hA, hg, h0, h1, h2, h3⟩ := h i hi
  exact ⟨g, o, y, hA, Nat.lt_of_lt_of_le hg hb.size, (hb.cell (p := ⟨g, _, none⟩) hg).trans h0, (hb.cell (p := ⟨g, _, none⟩) hg).trans h1, (hb.cell (p := ⟨g, _, none⟩) hg).trans h2, h3⟩

/-- Of what was there only the reader may have turned. -/
def Kp (r : Nat) (w w' : World) : Prop := w.grownBy w' (some r)
theorem Kp.refl (r : Nat) (w : World) : Kp r w w := ⟨rfl, rfl, rfl, Nat.le_refl _, fun _ _ _ => rfl⟩
theorem Kp.trans {r : Nat} {a b c : World} (h : Kp r a b) (k : Kp r b c) : Kp r a c :=
  ⟨k.os.trans h.os, k.tape.trans h.tape, k.output.trans h.output, Nat.le_trans h.size k.size, fun j hj hne => (k.block j (Nat.lt_of_lt_of_le hj h.size) hne).trans (h.block j hj hne)⟩
theorem Kp.of_below {r : Nat} {w w' : World} (h : Below w.heap.size w w') : Kp r w w' := ⟨h.os, h.tape, h.output, h.size, fun j hj _ => h.block j hj⟩
theorem Kp.below {r : Nat} {w w' : World} (h : Kp r w w') (hr : r < w.heap.size) : Below r w w' := ⟨h.os, h.tape, h.output, h.size, fun j hj => h.block j (by omega) (by simp; omega)⟩
theorem Kp.put {r : Nat} {w w' : World} (h : Kp r w w') (i : Nat) (v : Value) : Kp r w (w'.setCell ⟨r, i, none⟩ v) :=
  ⟨h.os, h.tape, h.output, by have := h.size; simpa using this, fun j hj hne => by
    rw [Below.heap_setCell _ _ _ _ (by show j ≠ r; exact fun e => hne (by rw [e]))]
    exact h.block j hj hne⟩
theorem Kp.alloc {r : Nat} {w w' : World} (h : Kp r w w') (o : Obj) : Kp r w (w'.alloc o) := h.trans (Kp.of_below (below_new (Below.refl _ _) o))

/-- What is amiss behind 'wrong'; at which token, and what is amiss, behind 'pass'. -/
def wrB (b : Nat) : Nat := if b = 0 then 2 else b
def psI (b : Nat) (q : Bool) (i : Nat) : Nat := if b = 0 ∧ q = true then i + 1 else i
def psB (b : Nat) (q : Bool) : Nat := if b = 0 ∧ q = false then 2 else b
theorem wrB_0 : wrB 0 = 2 := rfl
theorem wrB_ne {b : Nat} (h : b ≠ 0) : wrB b = b := if_neg h
theorem psI_yes (i : Nat) : psI 0 true i = i + 1 := rfl
theorem psI_no (b i : Nat) : psI b false i = i := if_neg (fun x => by cases x.2)
theorem psI_bad {b : Nat} (q : Bool) (i : Nat) (h : b ≠ 0) : psI b q i = i := if_neg (fun x => h x.1)
theorem psB_yes (b : Nat) : psB b true = b := if_neg (fun x => by cases x.2)
theorem psB_no : psB 0 false = 2 := rfl
theorem psB_bad {b : Nat} (q : Bool) (h : b ≠ 0) : psB b q = b := if_neg (fun x => h x.1)
/-- What every call of the reader stands on: the tokens, in a world ahead of the reader. -/
structure RdCtx (W : World) (r : Nat) (A : Option Addr) (S : Toks) (w : World) : Prop where
  toks : TokAt W A S
  below : Below W.heap.size W w
  le : W.heap.size ≤ r
  big : S.n ≤ 9223372036854775806
theorem RdCtx.toksAt {W : World} {r : Nat} {A : Option Addr} {S : Toks} {w : World} (h : RdCtx W r A S w) : TokAt w A S := h.toks.below h.below
theorem RdCtx.on {W : World} {r : Nat} {A : Option Addr} {S : Toks} {w w' : World} (h : RdCtx W r A S w) (hk : Kp r w w') (hr : r < w.heap.size) : RdCtx W r A S w' := ⟨h.toks, h.below.trans ((hk.below hr).mono h.le), h.le, h.big⟩

end Go.Proofs.YtpfoclpgcbjjoaaGreatDoor

/- The end of a call whose first result is a struct in memory: what its cells hold is what is handed back. A law over any program. -/
namespace Go.Proofs.YtpfoclpgcbjjoaaGreatDoor
section
variable {P : Program}
theorem run_loadVar_struct (w : World) (b : Nat) (ty : TypeId) (vs : List Value) (ds : Array Field) (hty : P.underlying ty = some (.struct ds)) (hi : (P.info? ty).map (·.size) = some vs.length)
    (hc : ∀ i v, vs[i]? = some v → w.cell? ⟨b, i, none⟩ = some v) : (loadVar ty ⟨b, 0, none⟩).run P w = .ok (.agg vs.toArray) w := by
  have hl : (loadCells ⟨b, 0, none⟩ vs.length).run P w = .ok vs.toArray w :=
    run_loadCells_list (P := P) w ⟨b, 0, none⟩ vs (fun j v hv => by
      have hadd : (⟨b, 0, none⟩ : Addr).add j = ⟨b, j, none⟩ := by unfold Addr.add; split <;> simp_all
      rw [hadd]; exact hc j v hv)
  cases hq : P.info? ty with
  | none => simp [hq] at hi
  | some i =>
    have hs : i.size = vs.length := by simpa [hq] using hi
    have hagg : (isAgg ty).run P w = .ok true w := by
      unfold isAgg
      rw [Sem.run_bind, run_underlying hty w]
      rfl
    simp [loadVar, Sem.run_bind, hagg, sizeOf, typeInfo, hq, hs, hl]

theorem ret_agg {fn : Func} {R : Ending → World → Prop} {a : Act} {w : World} {p u : Tmp} {ty : TypeId} {ds : Array Field} {vs : List Value} {b : Nat} {x : Value}
    (h : fn.results = #[.cell p ty, .tmp u]) (hp : a.tmps.getD p undef = .pointer (some ⟨b, 0, none⟩)) (hx : a.tmps.getD u undef = x)
    (hty : P.underlying ty = some (.struct ds)) (hi : (P.info? ty).map (·.size) = some vs.length) (hc : ∀ i v, vs[i]? = some v → w.cell? ⟨b, i, none⟩ = some v)
    (hd : a.defers = []) (hR : R (.returned (.tuple #[.agg vs.toArray, x])) w) : bodyPost P fn R .ret a w := by
  refine bodyPost_ret (v := .tuple #[.agg vs.toArray, x]) ?_ hd hR
  rw [results_cell_tmp h, hp, hx]
  simp [asAddr, Result.andThen, run_loadVar_struct w b ty vs ds hty hi hc, Sem.run_pure]

theorem six_cells {w : World} {b : Nat} {v0 v1 v2 v3 v4 v5 : Value} (h0 : w.cell? ⟨b, 0, none⟩ = some v0) (h1 : w.cell? ⟨b, 1, none⟩ = some v1) (h2 : w.cell? ⟨b, 2, none⟩ = some v2) (h3 : w.cell? ⟨b, 3, none⟩ = some v3) (h4 : w.cell? ⟨b, 4, none⟩ = some v4) (h5 : w.cell? ⟨b, 5, none⟩ = some v5) :
    ∀ i v, [v0, v1, v2, v3, v4, v5][i]? = some v → w.cell? ⟨b, i, none⟩ = some v := by
  intro i v h
  match i, h with
  | 0, h => simpa [h0] using h
  | 1, h => simpa [h1] using h
  | 2, h => simpa [h2] using h
  | 3, h => simpa [h3] using h
  | 4, h => simpa [h4] using h
  | 5, h => simpa [h5] using h
  | n + 6, h => simp at h
end
end Go.Proofs.YtpfoclpgcbjjoaaGreatDoor
