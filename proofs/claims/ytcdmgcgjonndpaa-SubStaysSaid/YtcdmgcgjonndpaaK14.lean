/-
  
-/
import Derived.Test.YtcdmgcgjonndpaaK13
import Derived.Test.YtcdmgcgjonndpaaK09
namespace Go.Proofs.Ytcdmgcgjonndpaa
open Go Go.RowKit Go.Shelf
open Go.Sort
open M
structure CmP (up : Bool) (a b : Ty) (k : Nat) (ns : List ByteArray) (xs : List Ty) : Prop where
  sub : ns.Sublist (a.names.take k)
  len : ns.length = xs.length
  is : ∀ (i : Nat) (s : ByteArray) (z : Ty), ns[i]? = some s → xs[i]? = some z → ∃ x y, AtN a s x ∧ AtN b s y ∧ IsBnd up x y z
  all : ∀ (q : Nat) (s : ByteArray) (x y : Ty), q < k → a.names[q]? = some s → AtN a s x → AtN b s y → s ∈ ns ∨ NoBnd up x y
theorem CmP.start (up : Bool) (a b : Ty) : CmP up a b 0 [] [] := ⟨by simp, rfl, fun i s z h => by simp at h, fun q s x y h => by omega⟩
theorem take_next {α : Type} {l : List α} {k : Nat} {s : α} (h : l[k]? = some s) : l.take (k + 1) = l.take k ++ [s] := by rw [List.take_add_one, h]; rfl
theorem CmP.skip {up : Bool} {a b : Ty} {k : Nat} {ns : List ByteArray} {xs : List Ty} {s : ByteArray} (h : CmP up a b k ns xs) (hs : a.names[k]? = some s) (hno : ∀ x y, AtN a s x → AtN b s y → NoBnd up x y) : CmP up a b (k + 1) ns xs := by
  refine ⟨by rw [take_next hs]; exact h.sub.trans (List.sublist_append_left _ _), h.len, h.is, fun q s' x y hq hs' hx hy => ?_⟩
  rcases Nat.lt_or_ge q k with c | c
  · exact h.all q s' x y c hs' hx hy
  · obtain rfl : q = k := by omega
    rw [hs] at hs'; cases hs'
    exact .inr (hno x y hx hy)
theorem CmP.more {up : Bool} {a b : Ty} {k : Nat} {ns : List ByteArray} {xs : List Ty} {s : ByteArray} {x y z : Ty} (h : CmP up a b k ns xs) (hs : a.names[k]? = some s) (hx : AtN a s x) (hy : AtN b s y) (hb : IsBnd up x y z) : CmP up a b (k + 1) (ns ++ [s]) (xs ++ [z]) := by
  refine ⟨by rw [take_next hs]; exact h.sub.append (List.Sublist.refl _), by simp [h.len], fun i s' z' h1 h2 => ?_, fun q s' x' y' hq hs' hx' hy' => ?_⟩
  · rcases Nat.lt_or_ge i ns.length with c | c
    · rw [List.getElem?_append_left c] at h1
      rw [List.getElem?_append_left (by rw [← h.len]; exact c)] at h2
      exact h.is i s' z' h1 h2
    · have hi := (List.getElem?_eq_some_iff.1 h1).1
      have : i = ns.length := by simp at hi; omega
      subst this
      rw [List.getElem?_append_right (Nat.le_refl _)] at h1
      rw [List.getElem?_append_right (by rw [h.len]; exact Nat.le_refl _), h.len] at h2
      simp at h1 h2
      subst h1; subst h2
      exact ⟨x, y, hx, hy, hb⟩
  · rcases Nat.lt_or_ge q k with c | c
    · rcases h.all q s' x' y' c hs' hx' hy' with h | h
      · exact .inl (List.mem_append_left _ h)
      · exact .inr h
    · obtain rfl : q = k := by omega
      rw [hs] at hs'; cases hs'
      exact .inl (by simp)
theorem CmP.good {up : Bool} {a b t : Ty} (ga : GoodT a) (hk : a.kind = 5 ∨ a.kind = 6) (et : t.kind = a.kind) (ht : Bare t) (h : CmP up a b a.names.length t.names t.subs) (h6 : a.kind = 6 → t.names ≠ []) : GoodT t := by
  have hsub : t.names.Sublist a.names := by have := h.sub; rwa [List.take_length] at this
  refine good_row (by rw [et]; exact hk) ht (ga.rise.sublist hsub) (fun s hs => by rw [et]; exact ga.named s (hsub.subset hs)) h.len.symm (fun e => ?_) (fun z hz => ?_)
  · have := h6 (et ▸ e)
    have := List.length_pos_iff.2 this
    have := h.len
    omega
  · obtain ⟨i, hi⟩ := List.getElem?_of_mem hz
    have hi' := (List.getElem?_eq_some_iff.1 hi).1
    obtain ⟨s, hs⟩ := at_some (l := t.names) (i := i) (by rw [h.len]; exact hi')
    obtain ⟨x, y, -, -, hb⟩ := h.is i s z hs hi
    exact hb.good
theorem CmP.bnd {up : Bool} {a b t : Ty} (hl : loses a.kind up) (e1 : a.kind = b.kind) (ga : GoodT a) (gb : GoodT b) (et : t.kind = a.kind) (ht : Bare t) (h : CmP up a b a.names.length t.names t.subs) (h6 : a.kind = 6 → t.names ≠ []) : IsBnd up a b t := by
  have hk : a.kind = 5 ∨ a.kind = 6 := by unfold loses at hl; omega
  refine bnd_common hl e1 et.symm ga gb (h.good ga hk et ht h6) (fun s z hz => ?_) (fun s x y hx hy => ?_)
  · obtain ⟨i, h1, h2⟩ := hz
    exact h.is i s z h1 h2
  · obtain ⟨q, h1, -⟩ := id hx
    rcases h.all q s x y (List.getElem?_eq_some_iff.1 h1).1 h1 hx hy with c | c
    · obtain ⟨i, hi⟩ := List.getElem?_of_mem c
      have hi' := (List.getElem?_eq_some_iff.1 hi).1
      obtain ⟨z, hz⟩ := at_some (l := t.subs) (i := i) (by rw [← h.len]; exact hi')
      exact .inl ⟨z, i, hi, hz⟩
    · exact .inr c
theorem CmP.none {up : Bool} {a b t : Ty} (hl : loses a.kind up) (h6 : a.kind = 6) (e1 : a.kind = b.kind) (h : CmP up a b a.names.length t.names t.subs) (h0 : t.names = []) : NoBnd up a b :=
  no_common hl h6 e1 fun s x y hx hy => by
    obtain ⟨q, h1, -⟩ := id hx
    rcases h.all q s x y (List.getElem?_eq_some_iff.1 h1).1 h1 hx hy with c | c
    · rw [h0] at c; cases c
    · exact c
theorem rowB_more {α : Type} {R : Reads α} {S S' : Nat → Prop} {lo d g cap c : Nat} {xs : List α} {A : Option Addr} {w1 w3 : World} {o : Obj} {l : List Value} {x : α} {C : List (List Value)} {old : Array Value} {T : TypeId} {k : Nat}
    (h : RowB R S lo xs A c w1) (hS' : ∀ b, S b ∨ (Value.slice A xs.length c).ownBlock = some b → S' b) (hSs : ∀ b, S b → b < w1.heap.size)
    (hC1 : C.length = xs.length) (hC4 : ∀ (i : Nat) (l : List Value) (x : α), C[i]? = some l → xs[i]? = some x → R.E (strike (fun b => S b ∨ (Value.slice A xs.length c).ownBlock = some b) w1) l x)
    (hE : R.E (strike S' w1) l x) (hown : w3.ownsRow lo R.T R.k (.slice (some ⟨g, 0, none⟩) (xs.length + 1) cap) (xs.length + 1) (C.flatten ++ l)) (hgrow : (w1.alloc o).grownBy w3 (Value.slice A xs.length c).ownBlock)
    (hat : (Value.slice A xs.length c).ownBlock = some g ∨ g = (w1.alloc o).heap.size) (hd : d < lo) (hSd : S d) (hbox : w1.heap[d]? = some (.cells old T (0, 0))) (hk : old[k]? = some (.slice A xs.length c)) :
    RowB R S lo (xs ++ [x]) (some ⟨g, 0, none⟩) cap (w3.setCell ⟨d, k, none⟩ (.slice (some ⟨g, 0, none⟩) (xs.length + 1) cap)) ∧
    (w3.setCell ⟨d, k, none⟩ (.slice (some ⟨g, 0, none⟩) (xs.length + 1) cap)).heap[d]? = some (.cells (old.setIfInBounds k (.slice (some ⟨g, 0, none⟩) (xs.length + 1) cap)) T (0, 0)) ∧
    (∀ b, (Value.slice A xs.length c).ownBlock ≠ some b → b ≠ d → b < w1.heap.size → (w3.setCell ⟨d, k, none⟩ (.slice (some ⟨g, 0, none⟩) (xs.length + 1) cap)).heap[b]? = w1.heap[b]?) ∧
    (∀ m, m ≤ d → Below m w1 (w3.setCell ⟨d, k, none⟩ (.slice (some ⟨g, 0, none⟩) (xs.length + 1) cap))) ∧
    w3.cell? ⟨d, k, none⟩ = some (.slice A xs.length c) ∧ w3.frozen? ⟨d, k, none⟩ = false ∧ w1.heap.size ≤ (w3.setCell ⟨d, k, none⟩ (.slice (some ⟨g, 0, none⟩) (xs.length + 1) cap)).heap.size := by
  obtain ⟨R3, old3, hs3⟩ := RowB.more hS' hSs hC1 hC4 hE hown hgrow hat
  have hlow : ∀ b, (Value.slice A xs.length c).ownBlock = some b → lo ≤ b := fun b e => (h.lt e).1
  have hd1 : d < w1.heap.size := (Array.getElem?_eq_some_iff.1 hbox).1
  have B3 := (old3 d (fun e => by have := hlow d e; omega) hd1).trans hbox
  have ot : ∀ b, b ≠ d → (w3.setCell ⟨d, k, none⟩ (.slice (some ⟨g, 0, none⟩) (xs.length + 1) cap)).heap[b]? = w3.heap[b]? := fun b hb => Below.heap_setCell _ _ _ _ (by show b ≠ d; exact hb)
  have of : ∀ b, (Value.slice A xs.length c).ownBlock ≠ some b → b ≠ d → b < w1.heap.size → (w3.setCell ⟨d, k, none⟩ (.slice (some ⟨g, 0, none⟩) (xs.length + 1) cap)).heap[b]? = w1.heap[b]? := fun b hb hne hlt => (ot b hne).trans (old3 b hb hlt)
  have hgo : lo ≤ g ∨ True := .inr trivial
  refine ⟨R3.keep (by simp) (fun b hb => ot b (fun e => ?_)) (fun b h1 h2 h3 => ⟨h1, ot b (fun e => h1 (e ▸ hSd))⟩), Joins.block_setCell (i := k) B3 _, of, fun m hm => ?_, ?_, Lib.frozen_of_heap B3 k, by simp; omega⟩
  · subst e
    have := (R3.lt hb).1
    omega
  · have hgw := hgrow
    exact ⟨hgw.os.trans rfl, hgw.tape.trans rfl, hgw.output.trans rfl, by simp; omega, fun j hj => of j (fun e => by have := hlow j e; omega) (by omega) (by omega)⟩
  · rw [Lib.cell_of_heap B3 k]; exact hk
theorem RowB.strs {S S' : Nat → Prop} {lo : Nat} {xs : List ByteArray} {A : Option Addr} {c : Nat} {w w' : World} (h : RowB stR S lo xs A c w) (ho : ∀ b, (Value.slice A xs.length c).ownBlock = some b → w'.heap[b]? = w.heap[b]?) : RowB stR S' lo xs A c w' := by
  obtain ⟨C, h1, h3, h4⟩ := h.cells
  exact ⟨C, h1, own_block h3 ho, fun i l x hl hx => h4 i l x hl hx⟩
structure CmI (w0 w : World) (kd : Int) (ns : List ByteArray) (xs : List Ty) (A5 : Option Addr) (c5 : Nat) (A6 : Option Addr) (c6 : Nat) (bx lo : Nat) (wr : World) : Prop where
  below : Below w.heap.size w wr
  size : lo ≤ wr.heap.size
  box : wr.heap[bx]? = some (.cells #[.int .i64 kd, .string ⟨#[]⟩, .int .i64 0, .string ⟨#[]⟩, .string ⟨#[]⟩, .slice A5 ns.length c5, .slice A6 xs.length c6] 25 (0, 0))
  names : RowB stR (fun k => k < lo) lo ns A5 c5 wr
  types : RowB tR (fun k => (w0.heap.size ≤ k ∧ k < lo) ∨ (Value.slice A5 ns.length c5).ownBlock = some k) lo xs A6 c6 wr
  apart : ∀ b, (Value.slice A5 ns.length c5).ownBlock = some b → (Value.slice A6 xs.length c6).ownBlock ≠ some b
theorem CmI.keep {w0 w : World} {kd : Int} {ns : List ByteArray} {xs : List Ty} {A5 : Option Addr} {c5 : Nat} {A6 : Option Addr} {c6 bx lo : Nat} {wr wr' : World} (h : CmI w0 w kd ns xs A5 c5 A6 c6 bx lo wr) (hbx : bx < lo) (hb : Below wr.heap.size wr wr') : CmI w0 w kd ns xs A5 c5 A6 c6 bx lo wr' :=
  ⟨below_over h.below hb, Nat.le_trans h.size hb.size, (hb.block _ (by have := h.size; omega)).trans h.box,
    h.names.keep hb.size (fun b hb' => hb.block _ (h.names.lt hb').2) (fun b h1 h2 h3 => ⟨h1, hb.block _ h3⟩),
    h.types.keep hb.size (fun b hb' => hb.block _ (h.types.lt hb').2) (fun b h1 h2 h3 => ⟨h1, hb.block _ h3⟩), h.apart⟩
theorem CmI.name {w0 w : World} {kd : Int} {ns : List ByteArray} {xs : List Ty} {A5 : Option Addr} {c5 : Nat} {A6 : Option Addr} {c6 bx lo g cap : Nat} {wr w3 : World} {o : Obj} {s : ByteArray} {C : List (List Value)} (h : CmI w0 w kd ns xs A5 c5 A6 c6 bx lo wr) (h0 : w0.heap.size ≤ bx) (hw : w.heap.size ≤ bx) (hbx : bx < lo) (hs : s.size ≤ 9223372036854775807)
    (hC1 : C.length = ns.length) (hC4 : ∀ (i : Nat) (l : List Value) (x : ByteArray), C[i]? = some l → ns[i]? = some x → stR.E (strike (fun b => b < lo ∨ (Value.slice A5 ns.length c5).ownBlock = some b) wr) l x)
    (hown : w3.ownsRow lo 9 1 (.slice (some ⟨g, 0, none⟩) (ns.length + 1) cap) (ns.length + 1) (C.flatten ++ [.string s])) (hgrow : (wr.alloc o).grownBy w3 (Value.slice A5 ns.length c5).ownBlock) (hat : (Value.slice A5 ns.length c5).ownBlock = some g ∨ g = (wr.alloc o).heap.size) :
    CmI w0 w kd (ns ++ [s]) xs (some ⟨g, 0, none⟩) cap A6 c6 bx lo (w3.setCell ⟨bx, 5, none⟩ (.slice (some ⟨g, 0, none⟩) (ns.length + 1) cap)) ∧
    (∀ b, (Value.slice A5 ns.length c5).ownBlock ≠ some b → b ≠ bx → b < wr.heap.size → (w3.setCell ⟨bx, 5, none⟩ (.slice (some ⟨g, 0, none⟩) (ns.length + 1) cap)).heap[b]? = wr.heap[b]?) ∧
    (∀ m, m ≤ bx → Below m wr (w3.setCell ⟨bx, 5, none⟩ (.slice (some ⟨g, 0, none⟩) (ns.length + 1) cap))) ∧
    w3.cell? ⟨bx, 5, none⟩ = some (.slice A5 ns.length c5) ∧ w3.frozen? ⟨bx, 5, none⟩ = false ∧ wr.heap.size ≤ (w3.setCell ⟨bx, 5, none⟩ (.slice (some ⟨g, 0, none⟩) (ns.length + 1) cap)).heap.size := by
  have hz := h.size
  obtain ⟨R9, Y9, old9, bel9, z9, e9, s9⟩ := rowB_more (R := stR) (S' := fun b => b < lo ∨ (Value.slice A5 ns.length c5).ownBlock = some b) (k := 5) h.names (fun b hb => hb) (fun b hb => by omega) hC1 hC4 (l := [.string s]) ⟨rfl, hs⟩ hown hgrow hat hbx hbx h.box rfl
  have hg : (Value.slice A5 ns.length c5).ownBlock = some g ∨ wr.heap.size < g := by
    rcases hat with e | e
    · exact .inl e
    · exact .inr (by rw [e]; simp)
  refine ⟨⟨h.below.trans (bel9 _ hw), by omega, by rw [List.length_append]; exact Y9, R9, ?_, ?_⟩, old9, bel9, z9, e9, s9⟩
  · refine h.types.keep s9 (fun b hb => old9 b (fun e => h.apart b e hb) (fun e => ?_) (h.types.lt hb).2) (fun b h1 h2 h3 => ⟨?_, old9 b (fun e => h1 (.inr e)) (fun e => h1 (.inl ⟨by omega, by omega⟩)) h3⟩)
    · have := (h.types.lt hb).1; omega
    · rintro (e | e)
      · exact h1 (.inl e)
      · simp [Value.ownBlock] at e
        subst e
        rcases hg with e | e
        · exact h1 (.inr e)
        · omega
  · intro b hb e
    simp [Value.ownBlock] at hb
    subst hb
    rcases hg with e' | e'
    · exact h.apart _ e' e
    · have := (h.types.lt e).2; omega
theorem CmI.type {w0 w : World} {kd : Int} {ns : List ByteArray} {xs : List Ty} {A5 : Option Addr} {c5 : Nat} {A6 : Option Addr} {c6 bx lo g cap B : Nat} {wr w3 : World} {o : Obj} {l : List Value} {t : Ty} {C : List (List Value)} (h : CmI w0 w kd ns xs A5 c5 A6 c6 bx lo wr) (h0 : w0.heap.size ≤ bx) (hw : w.heap.size ≤ bx) (hbx : bx < lo)
    (hS5 : ∀ b, (Value.slice A5 ns.length c5).ownBlock = some b → b < wr.heap.size)
    (hE : TyAt (strike (fun k => (w0.heap.size ≤ k ∧ k < B) ∨ (Value.slice A5 ns.length c5).ownBlock = some k) wr) l t) (hB : lo ≤ B) (hB6 : ∀ b, (Value.slice A6 xs.length c6).ownBlock = some b → b < B)
    (hC1 : C.length = xs.length) (hC4 : ∀ (i : Nat) (l : List Value) (x : Ty), C[i]? = some l → xs[i]? = some x → tR.E (strike (fun b => ((w0.heap.size ≤ b ∧ b < lo) ∨ (Value.slice A5 ns.length c5).ownBlock = some b) ∨ (Value.slice A6 xs.length c6).ownBlock = some b) wr) l x)
    (hown : w3.ownsRow lo 25 7 (.slice (some ⟨g, 0, none⟩) (xs.length + 1) cap) (xs.length + 1) (C.flatten ++ l)) (hgrow : (wr.alloc o).grownBy w3 (Value.slice A6 xs.length c6).ownBlock) (hat : (Value.slice A6 xs.length c6).ownBlock = some g ∨ g = (wr.alloc o).heap.size) :
    CmI w0 w kd ns (xs ++ [t]) A5 c5 (some ⟨g, 0, none⟩) cap bx lo (w3.setCell ⟨bx, 6, none⟩ (.slice (some ⟨g, 0, none⟩) (xs.length + 1) cap)) ∧
    (∀ m, m ≤ bx → Below m wr (w3.setCell ⟨bx, 6, none⟩ (.slice (some ⟨g, 0, none⟩) (xs.length + 1) cap))) ∧
    w3.cell? ⟨bx, 6, none⟩ = some (.slice A6 xs.length c6) ∧ w3.frozen? ⟨bx, 6, none⟩ = false := by
  have hz := h.size
  obtain ⟨R9, Y9, old9, bel9, z9, e9, s9⟩ := rowB_more (R := tR) (S' := fun k => (w0.heap.size ≤ k ∧ k < B) ∨ (Value.slice A5 ns.length c5).ownBlock = some k) (k := 6) h.types (fun b hb => by
    rcases hb with (hb | hb) | hb
    · exact .inl ⟨hb.1, by omega⟩
    · exact .inr hb
    · exact .inl ⟨by have := (h.types.lt hb).1; omega, hB6 b hb⟩) (fun b hb => by
    rcases hb with hb | hb
    · omega
    · exact hS5 b hb) hC1 hC4 (l := l) hE hown hgrow hat hbx (.inl ⟨h0, hbx⟩) h.box rfl
  have hg : (Value.slice A6 xs.length c6).ownBlock = some g ∨ wr.heap.size < g := by
    rcases hat with e | e
    · exact .inl e
    · exact .inr (by rw [e]; simp)
  refine ⟨⟨h.below.trans (bel9 _ hw), by omega, by rw [List.length_append]; exact Y9, ?_, R9, ?_⟩, bel9, z9, e9⟩
  · refine h.names.strs (fun b hb => old9 b (fun e => h.apart b hb e) (fun e => ?_) (h.names.lt hb).2)
    have := (h.names.lt hb).1; omega
  · intro b hb e
    simp [Value.ownBlock] at e
    subst e
    rcases hg with e' | e'
    · exact h.apart _ hb e'
    · have := (h.names.lt hb).2; omega
def CmOut (w0 : World) (up : Bool) (a b : Ty) (w : World) (e : Ending) (w' : World) : Prop :=
  ∃ (l : List Value) (t : Ty), e = .returned (.agg l.toArray) ∧ Below w.heap.size w w' ∧ t.kind = a.kind ∧ Bare t ∧ CmP up a b a.names.length t.names t.subs ∧ TyAt (strike (fun k => w0.heap.size ≤ k ∧ k < w.heap.size) w') l t
theorem CmI.typ {w0 w : World} {kd : Int} {ns : List ByteArray} {xs : List Ty} {A5 : Option Addr} {c5 : Nat} {A6 : Option Addr} {c6 bx lo r : Nat} {wr : World} (h : CmI w0 w kd ns xs A5 c5 A6 c6 bx lo wr) (hw : w.heap.size ≤ lo) (hr : w.heap.size ≤ r) (hrl : r < lo) (h0 : w0.heap.size ≤ w.heap.size) (hn : ns.length ≤ 9223372036854775807) (hx : xs.length ≤ 9223372036854775807) :
    TyAt (strike (fun k => w0.heap.size ≤ k ∧ k < w.heap.size) (wr.setRow r #[.int .i64 kd, .string ⟨#[]⟩, .int .i64 0, .string ⟨#[]⟩, .string ⟨#[]⟩, .slice A5 ns.length c5, .slice A6 xs.length c6])) [.int .i64 kd, .string ⟨#[]⟩, .int .i64 0, .string ⟨#[]⟩, .string ⟨#[]⟩, .slice A5 ns.length c5, .slice A6 xs.length c6] (.mk kd ⟨#[]⟩ 0 ⟨#[]⟩ ⟨#[]⟩ ns xs) := by
  have hcut : ∀ b, b < wr.heap.size → ¬ (w0.heap.size ≤ b ∧ b < lo) → ¬ (w0.heap.size ≤ b ∧ b < w.heap.size) ∧ (wr.setRow r #[.int .i64 kd, .string ⟨#[]⟩, .int .i64 0, .string ⟨#[]⟩, .string ⟨#[]⟩, .slice A5 ns.length c5, .slice A6 xs.length c6]).heap[b]? = wr.heap[b]? := fun b hb hS => ⟨fun e => hS ⟨e.1, by omega⟩, setRow_other _ _ _ _ (fun e => hS ⟨by omega, by omega⟩)⟩
  refine ty_made (t := .mk kd ⟨#[]⟩ 0 ⟨#[]⟩ ⟨#[]⟩ ns xs) (by show (⟨#[]⟩ : ByteArray).size ≤ 9223372036854775807; decide) (by show (⟨#[]⟩ : ByteArray).size ≤ 9223372036854775807; decide) (by show (⟨#[]⟩ : ByteArray).size ≤ 9223372036854775807; decide) hn hx h.types.cap ?_ ?_
  · have e1 := h.names.done (S' := fun k => w0.heap.size ≤ k ∧ k < lo) (fun k hk => ⟨hk.2, hk.2⟩)
    exact names_keep e1.names (by rw [size_setRow]; exact Nat.le_refl _) hcut
  · have e1 := h.types.done (S' := fun k => w0.heap.size ≤ k ∧ k < lo) (fun k hk => ⟨.inl hk, hk.2⟩)
    exact e1.move (by rw [size_setRow]; exact Nat.le_refl _) hcut
theorem CmI.done {w0 w : World} {up : Bool} {a b : Ty} {ns : List ByteArray} {xs : List Ty} {A5 : Option Addr} {c5 : Nat} {A6 : Option Addr} {c6 bx lo r : Nat} {wr : World} {kd : Int} (h : CmI w0 w kd ns xs A5 c5 A6 c6 bx lo wr) (hkd : kd = a.kind) (hp : CmP up a b a.names.length ns xs) (hw : w.heap.size ≤ lo) (hr : w.heap.size ≤ r) (hrl : r < lo) (h0 : w0.heap.size ≤ w.heap.size) (hz : a.names.length ≤ 1000000) :
    CmOut w0 up a b w (.returned (.agg #[.int .i64 kd, .string ⟨#[]⟩, .int .i64 0, .string ⟨#[]⟩, .string ⟨#[]⟩, .slice A5 ns.length c5, .slice A6 xs.length c6])) (wr.setRow r #[.int .i64 kd, .string ⟨#[]⟩, .int .i64 0, .string ⟨#[]⟩, .string ⟨#[]⟩, .slice A5 ns.length c5, .slice A6 xs.length c6]) := by
  have hlen := hp.len
  have hsl := hp.sub.length_le
  have hl2 : ns.length ≤ a.names.length := Nat.le_trans hsl (by rw [List.length_take]; exact Nat.min_le_right _ _)
  exact ⟨[.int .i64 kd, .string ⟨#[]⟩, .int .i64 0, .string ⟨#[]⟩, .string ⟨#[]⟩, .slice A5 ns.length c5, .slice A6 xs.length c6], .mk kd ⟨#[]⟩ 0 ⟨#[]⟩ ⟨#[]⟩ ns xs, rfl, setRow_below h.below hr _, hkd, ⟨rfl, rfl, rfl, rfl⟩, hp, h.typ hw hr hrl h0 (by omega) (by omega)⟩
def UnN (up : Bool) (a b : Ty) (s : ByteArray) (z : Ty) : Prop := (∃ x y, AtN a s x ∧ AtN b s y ∧ IsBnd up x y z) ∨ (AtN a s z ∧ ∀ y, ¬ AtN b s y) ∨ (AtN b s z ∧ ∀ x, ¬ AtN a s x)
theorem un_good {up : Bool} {a b : Ty} {s : ByteArray} {z : Ty} (ga : GoodT a) (gb : GoodT b) (h : UnN up a b s z) : GoodT z := by
  rcases h with ⟨x, y, -, -, h⟩ | ⟨h, -⟩ | ⟨h, -⟩
  · exact h.good
  · exact ga.sub h.sub
  · exact gb.sub h.sub
theorem un_bnd {up : Bool} {a b t : Ty} (hl : wins a.kind up) (e1 : a.kind = b.kind) (ga : GoodT a) (gb : GoodT b) (et : t.kind = a.kind) (ht : Bare t) (hn : t.names = uniN (a.names ++ b.names)) (hlen : t.subs.length = t.names.length) (h : ∀ (i : Nat) (s : ByteArray) (z : Ty), t.names[i]? = some s → t.subs[i]? = some z → UnN up a b s z) : IsBnd up a b t := by
  have hk : a.kind = 5 ∨ a.kind = 6 := by unfold wins at hl; omega
  have hmem : ∀ s, s ∈ t.names ↔ s ∈ a.names ∨ s ∈ b.names := fun s => by rw [hn, uniN_mem, List.mem_append]
  have hat : ∀ s, s ∈ t.names → ∃ z, AtN t s z := fun s hs => by
    obtain ⟨i, hi⟩ := List.getElem?_of_mem hs
    have hi' := (List.getElem?_eq_some_iff.1 hi).1
    obtain ⟨z, hz⟩ := at_some (l := t.subs) (i := i) (by omega)
    exact ⟨z, i, hi, hz⟩
  have gt : GoodT t := by
    refine good_row (by rw [et]; exact hk) ht (by rw [hn]; exact uniN_rise _) (fun s hs => ?_) hlen (fun e => ?_) (fun z hz => ?_)
    · rw [et]
      rcases (hmem s).1 hs with c | c
      · exact ga.named s c
      · rw [e1]; exact gb.named s c
    · have h6 := (ga.row hk).2.2 (et ▸ e)
      have hl := (ga.row hk).2.1
      have hs : a.names[0]? = some (a.names[0]'(by omega)) := List.getElem?_eq_getElem _
      have := (hmem _).2 (.inl (List.mem_of_getElem? hs))
      have := List.length_pos_of_mem this
      omega
    · obtain ⟨i, hi⟩ := List.getElem?_of_mem hz
      have hi' := (List.getElem?_eq_some_iff.1 hi).1
      obtain ⟨s, hs⟩ := at_some (l := t.names) (i := i) (by omega)
      exact un_good ga gb (h i s z hs hi)
  refine bnd_union hl e1 et.symm ga gb gt (fun s z hz => ?_) (fun s x hx => ?_) (fun s x hx => ?_)
  · obtain ⟨i, h1, h2⟩ := hz
    exact h i s z h1 h2
  · exact hat s ((hmem s).2 (.inl hx.name))
  · exact hat s ((hmem s).2 (.inr hx.name))
end Go.Proofs.Ytcdmgcgjonndpaa
