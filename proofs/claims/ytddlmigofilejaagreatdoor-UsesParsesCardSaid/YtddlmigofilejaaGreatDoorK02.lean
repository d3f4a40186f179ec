/-
  Several texts in one.
-/
import Derived.Test.YtddlmigofilejaaGreatDoorK01
import Derived.Laws.Tables
import Derived.Deep.MidRow
namespace Go.Proofs.YtddlmigofilejaaGreatDoor
open Go.RowKit
section
variable {P : Program}
theorem results_one {fn : Func} {p : Tmp} {ty : TypeId} (h : fn.results = #[.cell p ty]) (tmps : Array Value) (w : World) :
    (results fn tmps).run P w = ((asAddr (tmps.getD p undef)).run P w).andThen fun a w₁ => (loadVar ty a).run P w₁ := by
  simp only [results, h];simp [Sem.run_bind, Result.andThen]
theorem ret_agg1 {fn : Func} {R : Ending -> World -> Prop} {a : Act} {w : World} {p : Tmp} {ty : TypeId} {ds : Array Field} {vs : List Value} {b : Nat}
    (h : fn.results = #[.cell p ty]) (hp : a.tmps.getD p undef = .pointer (some ⟨b, 0, none⟩))
    (hty : P.underlying ty = some (.struct ds)) (hi : (P.info? ty).map (·.size) = some vs.length) (hc : ∀ i v, vs[i]? = some v -> w.cell? ⟨b, i, none⟩ = some v)
    (hd : a.defers = []) (hR : R (.returned (.agg vs.toArray)) w) : bodyPost P fn R .ret a w := by
  refine bodyPost_ret (v := .agg vs.toArray) ?_ hd hR;rw [results_one h, hp];simp [asAddr, Result.andThen, run_loadVar_struct w b ty vs ds hty hi hc]
end
theorem wpList_putRow {P : Program} {ops : Array Oper} {rest : List Oper} {a : Act} {w : World} {Q : Exit -> Act -> World -> Prop} {d : Option Tmp} {T : TypeId} {p : String} {af : Array Edge} {x y : Operand} (ty : TypeId)
    (g : Nat) (cells : Array Value) (t : TypeId) (old : Array Value) (hg : w.heap[g]? = some (.cells old t (0, 0))) (hi : (P.info? ty).map (·.size) = some cells.size)
    (hold : old.size = cells.size) (h1 : cells.all (·.oneCell') = true) (hx : a.eval x = .pointer (some ⟨g, 0, none⟩)) (hy : a.eval y = .agg cells)
    (h : wpList P ops Q rest (a.put d undef) (w.setRow g cells)) : wpList P ops Q ({ dst := d, op := .store ty x y, type := T, pos := p, after := af, guard := none } :: rest) a w :=
  wpList_store_row rfl ty x y rfl g cells hx hy t old hg hi hold h1 h
theorem wpList_putMid {P : Program} {ops : Array Oper} {rest : List Oper} {a : Act} {w : World} {Q : Exit -> Act -> World -> Prop} {d : Option Tmp} {T : TypeId} {p : String} {af : Array Edge} {x y : Operand} (ty : TypeId)
    (b o : Nat) (cells : Array Value) (ht : w.there b o cells.size) (hi : (P.info? ty).map (·.size) = some cells.size)
    (h1 : cells.all (·.oneCell') = true) (hx : a.eval x = .pointer (some ⟨b, o, none⟩)) (hy : a.eval y = .agg cells)
    (h : wpList P ops Q rest (a.put d undef) (w.setCells b o cells.toList)) : wpList P ops Q ({ dst := d, op := .store ty x y, type := T, pos := p, after := af, guard := none } :: rest) a w :=
  wpList_store_mid rfl ty x y rfl b o cells hx hy ht hi h1 h
theorem wp_putRow {P : Program} {a : Act} {w : World} {K : Act -> World -> Prop} {Q : Exit -> Act -> World -> Prop} {d : Option Tmp} {T : TypeId} {p : String} {af : Array Edge} {x y : Operand} (ty : TypeId)
    (g : Nat) (cells : Array Value) (t : TypeId) (old : Array Value) (hg : w.heap[g]? = some (.cells old t (0, 0))) (hi : (P.info? ty).map (·.size) = some cells.size)
    (hold : old.size = cells.size) (h1 : cells.all (·.oneCell') = true) (hx : a.eval x = .pointer (some ⟨g, 0, none⟩)) (hy : a.eval y = .agg cells)
    (h : K (a.put d undef) (w.setRow g cells)) : Oper.wp P { dst := d, op := .store ty x y, type := T, pos := p, after := af, guard := none } a w K Q :=
  wp_store_row ty x y rfl g cells hx hy t old hg hi hold h1 h
end Go.Proofs.YtddlmigofilejaaGreatDoor
namespace Go.Proofs.YtddlmigofilejaaGreatDoor
open Go.RowKit
open Go.Sort
open M
theorem Kp.blk {r : Nat} {a b : World} (h : Kp r a b) {j : Nat} (hj : j < a.heap.size) (hne : j ≠ r) : b.heap[j]? = a.heap[j]? := h.block j hj (by simpa using hne)
theorem Kp.grow {r : Nat} {w a b : World} {ob : Option Nat} (h : Kp r w a) (g : a.grownBy b ob) (ho : ∀ k, ob = some k -> w.heap.size <= k) : Kp r w b :=
  ⟨g.os.trans h.os, g.tape.trans h.tape, g.output.trans h.output, Nat.le_trans h.size g.size, fun j hj hne => (g.block j (Nat.lt_of_lt_of_le hj h.size) (fun e => by have := ho j e.symm; omega)).trans (h.block j hj hne)⟩
theorem Kp.putNew {r : Nat} {w a : World} (h : Kp r w a) (p : Addr) (hp : w.heap.size <= p.block) (v : Value) : Kp r w (a.setCell p v) :=
  ⟨h.os, h.tape, h.output, by have := h.size; simpa using this, fun j hj hne => by
    rw [Below.heap_setCell _ _ _ _ (by omega)];exact h.block j hj hne⟩
theorem Rd.other {r : Nat} {A : Option Addr} {n cn i c b : Nat} {w w' : World} (h : Rd r A n cn i c b w) (e : w'.heap[r]? = w.heap[r]?) : Rd r A n cn i c b w' := e.trans h
theorem TyAt.move {S S' : Nat -> Prop} {w w' : World} {l : List Value} {t : Ty} (h : TyAt (strike S w) l t) (hz : w.heap.size <= w'.heap.size) (hS : ∀ b, b < w.heap.size -> ¬ S b -> ¬ S' b /\ w'.heap[b]? = w.heap[b]?) : TyAt (strike S' w') l t :=
  h.cells (by rw [strike_size, strike_size]; exact hz) fun b o x hx => by
    obtain ⟨h1, h2⟩ := strike_cell.1 hx;obtain ⟨h3, h4⟩ := hS b (World.block_lt_of_cell? _ _ h2) h1;exact strike_cell.2 ⟨h3, by rw [World.cell?_of_block (w := w) (a := ⟨b, o, none⟩) h4]; exact h2⟩
theorem TyAt.free {S : Nat -> Prop} {w : World} {l : List Value} {t : Ty} (h : TyAt (strike S w) l t) : TyAt w l t :=
  h.cells (by rw [strike_size]; exact Nat.le_refl _) fun b o x hx => (strike_cell.1 hx).2
theorem TyAt.leaf (w : World) (k : Int) (p : ByteArray) (m : Int) (d n : ByteArray) (hp : p.size <= 9223372036854775807) (hd : d.size <= 9223372036854775807) (hn : n.size <= 9223372036854775807) :
    TyAt w [.int .i64 k, .string p, .int .i64 m, .string d, .string n, .slice none 0 0, .slice none 0 0] (.mk k p m d n [] []) :=
  .mk k p m d n [] [] none 0 none 0 (fun _ => [.nilIface, .nilIface, .nilIface, .nilIface, .nilIface, .nilIface, .nilIface]) hp hd hn (by simp) (by simp) (by simp) (fun i s h => by simp at h) (fun _ => rfl) (fun i t h => by simp at h) (fun i t h => by simp at h)
theorem TyAt.zero (w : World) : TyAt w [.int .i64 0, .string ⟨#[]⟩, .int .i64 0, .string ⟨#[]⟩, .string ⟨#[]⟩, .slice none 0 0, .slice none 0 0] noT := TyAt.leaf w 0 ⟨#[]⟩ 0 ⟨#[]⟩ ⟨#[]⟩ (by decide) (by decide) (by decide)
theorem TyAt.one {w : World} (k : Int) {g : Nat} {l : List Value} {s : Ty} {T : TypeId} {fr : Nat × Nat} {S : Nat -> Prop} (hl : l.length = 7) (hT : TyAt (strike S w) l s) (hg : w.heap[g]? = some (.cells l.toArray T fr)) (hS : ¬ S g) :
    TyAt (strike S w) [.int .i64 k, .string ⟨#[]⟩, .int .i64 0, .string ⟨#[]⟩, .string ⟨#[]⟩, .slice none 0 0, .slice (some ⟨g, 0, none⟩) 1 1] (.mk k ⟨#[]⟩ 0 ⟨#[]⟩ ⟨#[]⟩ [] [s]) := by
  refine .mk k ⟨#[]⟩ 0 ⟨#[]⟩ ⟨#[]⟩ [] [s] none 0 (some ⟨g, 0, none⟩) 1 (fun _ => l) (by decide) (by decide) (by decide) (by simp) (by simp) (by simp) (fun i s h => by simp at h) (fun _ => hl) (fun i t h => ?_) (fun i t h => ?_)
  · obtain rfl : i = 0 := by have := (List.getElem?_eq_some_iff.1 h).1; simp at this; omega
    refine ⟨g, 0, rfl, by rw [strike_size]; exact (Array.getElem?_eq_some_iff.1 hg).1, fun j v hv => strike_cell.2 ⟨hS, ?_⟩⟩;rw [cZ hg, <- hv, <- List.getElem?_toArray];congr 1; omega
  · obtain rfl : i = 0 := by have := (List.getElem?_eq_some_iff.1 h).1; simp at this; omega
    simp at h; subst h; exact hT
theorem flat7_at : ∀ (C : List (List Value)), (∀ l, l ∈ C -> l.length = 7) -> ∀ (i q : Nat) (l : List Value), C[i]? = some l -> q < 7 -> C.flatten[i * 7 + q]? = l[q]?
  | [], _, i, q, l, h, _ => by simp at h
  | a :: r, hC, i, q, l, h, hq => by
    have ha : a.length = 7 := hC a List.mem_cons_self;rw [List.flatten_cons];cases i with
    | zero =>
      simp at h; subst h
      rw [List.getElem?_append_left (by omega)];congr 1; omega
    | succ i =>
      rw [List.getElem?_append_right (by omega), ha, show (i + 1) * 7 + q - 7 = i * 7 + q by omega];exact flat7_at r (fun l hl => hC l (List.mem_cons_of_mem _ hl)) i q l (by simpa using h) hq
theorem flat7_set : ∀ (C : List (List Value)), (∀ l, l ∈ C -> l.length = 7) -> ∀ (i : Nat), i < C.length -> ∀ v0 v1 v2 v3 v4 v5 v6 : Value,
    (C.set i [v0, v1, v2, v3, v4, v5, v6]).flatten = ((((((C.flatten.set (i * 7) v0).set (i * 7 + 1) v1).set (i * 7 + 2) v2).set (i * 7 + 3) v3).set (i * 7 + 4) v4).set (i * 7 + 5) v5).set (i * 7 + 6) v6
  | [], _, i, hi, _, _, _, _, _, _, _ => by simp at hi
  | a :: r, hC, i, hi, v0, v1, v2, v3, v4, v5, v6 => by
    have ha : a.length = 7 := hC a List.mem_cons_self;obtain ⟨a0, a1, a2, a3, a4, a5, a6, rfl⟩ := list7 a ha;cases i with
    | zero => simp
    | succ i =>
      have ih := flat7_set r (fun l hl => hC l (List.mem_cons_of_mem _ hl)) i (by simpa using hi) v0 v1 v2 v3 v4 v5 v6;rw [List.set_cons_succ, List.flatten_cons, ih, List.flatten_cons];have e0 : (i + 1) * 7 = (i * 7) + 1 + 1 + 1 + 1 + 1 + 1 + 1 := by omega
      simp [e0]
structure GrR (lo : Nat) (ns : List ByteArray) (n5 : Nat) (ss : List Ty) (n6 : Nat) (v5 v6 : Value) (w : World) : Prop where
  len5 : ns.length = n5
  len6 : ss.length = n6
  names : w.ownsRow lo 9 1 v5 n5 (ns.map Value.string)
  szs : ∀ s, s ∈ ns -> s.size <= 9223372036854775807
  subs : ∃ C : List (List Value), C.length = n6 /\ (∀ l, l ∈ C -> l.length = 7) /\ w.ownsRow lo 48 7 v6 n6 C.flatten /\
    ∀ (i : Nat) (l : List Value) (t : Ty), C[i]? = some l -> ss[i]? = some t -> TyAt (strike (fun b => b < lo \/ v5.ownBlock = some b \/ v6.ownBlock = some b) w) l t
  apart : ∀ b, v5.ownBlock = some b -> v6.ownBlock ≠ some b
def GrT (lo : Nat) (v5 v6 : Value) (w : World) (l : List Value) (t : Ty) : Prop := TyAt (strike (fun b => b < lo \/ v5.ownBlock = some b \/ v6.ownBlock = some b) w) l t
theorem own_from {w w' : World} {B : Nat} {e : TypeId} {z : Nat} {v : Value} {n : Nat} {xs : List Value} (h : w.ownsRow B e z v n xs) (hb : ∀ b, B <= b -> b < w.heap.size -> w'.heap[b]? = w.heap[b]?) : w'.ownsRow B e z v n xs := by
  refine ⟨h.1, ?_⟩;rcases h.2 with h | ⟨g, cap, cur, hv, hB, hg, rest⟩
  · exact .inl h
  · exact .inr ⟨g, cap, cur, hv, hB, (hb g hB (Array.getElem?_eq_some_iff.1 hg).1).trans hg, rest⟩
theorem GrR.keep {lo : Nat} {ns : List ByteArray} {n5 : Nat} {ss : List Ty} {n6 : Nat} {v5 v6 : Value} {w w' : World} (h : GrR lo ns n5 ss n6 v5 v6 w) (hz : w.heap.size <= w'.heap.size) (hb : ∀ b, lo <= b -> b < w.heap.size -> w'.heap[b]? = w.heap[b]?) : GrR lo ns n5 ss n6 v5 v6 w' := by
  obtain ⟨C, h1, h2, h3, h4⟩ := h.subs
  exact ⟨h.len5, h.len6, own_from h.names hb, h.szs, ⟨C, h1, h2, own_from h3 hb, fun i l t hl ht => (h4 i l t hl ht).move hz fun b hlt hS => ⟨hS, hb b (by
    rcases Nat.lt_or_ge b lo with h | h
    · exact absurd (.inl h) hS
    · exact h) hlt⟩⟩, h.apart⟩
theorem GrT.keep {lo : Nat} {v5 v6 : Value} {w w' : World} {l : List Value} {t : Ty} (h : GrT lo v5 v6 w l t) (hz : w.heap.size <= w'.heap.size) (hb : ∀ b, lo <= b -> b < w.heap.size -> w'.heap[b]? = w.heap[b]?) : GrT lo v5 v6 w' l t :=
  h.move hz fun b hlt hS => ⟨hS, hb b (by
    rcases Nat.lt_or_ge b lo with h | h
    · exact absurd (.inl h) hS
    · exact h) hlt⟩
theorem GrR.start (lo : Nat) (w : World) : GrR lo [] 0 [] 0 (.slice none 0 0) (.slice none 0 0) w :=
  ⟨rfl, rfl, World.ownsRow_nil _ _ _ _, fun s h => by simp at h, ⟨[], rfl, fun l h => by simp at h, World.ownsRow_nil _ _ _ _, fun i l t h => by simp at h⟩, fun b h => by simp [Value.ownBlock] at h⟩
theorem GrR.fresh {lo : Nat} {ns : List ByteArray} {n5 : Nat} {ss : List Ty} {n6 : Nat} {v5 v6 : Value} {w w1 : World} (h : GrR lo ns n5 ss n6 v5 v6 w) (hlo : lo <= w.heap.size) {l : List Value} {t : Ty} (hT : TyAt (strike (· < w.heap.size) w1) l t) : GrT lo v5 v6 w1 l t := by
  obtain ⟨C, -, -, h3, -⟩ := h.subs;refine hT.move (Nat.le_refl _) fun b hlt hS => ⟨?_, rfl⟩
  rintro (e | e | e)
  · omega
  · have := (h.names.lt b e).2; omega
  · have := (h3.lt b e).2; omega
theorem GrR.addName {lo : Nat} {ns : List ByteArray} {n5 : Nat} {ss : List Ty} {n6 : Nat} {v5 v6 : Value} {w w2 : World} {o : Obj} {s : ByteArray} {g cap m : Nat} (h : GrR lo ns n5 ss n6 v5 v6 w)
    (hown : w2.ownsRow lo 9 1 (.slice (some ⟨g, 0, none⟩) m cap) m (ns.map Value.string ++ [.string s])) (hm : m = n5 + 1) (hgrow : (w.alloc o).grownBy w2 v5.ownBlock)
    (hat : v5.ownBlock = some g \/ g = (w.alloc o).heap.size) (hs : s.size <= 9223372036854775807) :
    GrR lo (ns ++ [s]) m ss n6 (.slice (some ⟨g, 0, none⟩) m cap) v6 w2 /\ ∀ l t, GrT lo v5 v6 w l t -> GrT lo (.slice (some ⟨g, 0, none⟩) m cap) v6 w2 l t := by
  have hsz : (w.alloc o).heap.size = w.heap.size + 1 := by simp
  have hsz2 := hgrow.size;obtain ⟨C, h1, h2, h3, h4⟩ := h.subs
  have hold : ∀ b, b < w.heap.size -> v5.ownBlock ≠ some b -> w2.heap[b]? = w.heap[b]? := fun b hb hne => by
    rw [hgrow.block b (by omega) (fun e => hne e.symm)];exact Lib.alloc_old w o b hb
  have mv : ∀ l t, GrT lo v5 v6 w l t -> GrT lo (.slice (some ⟨g, 0, none⟩) m cap) v6 w2 l t := fun l t hT => by
    refine TyAt.move hT (by omega) fun b hb hS => ⟨?_, hold b hb (fun e => hS (.inr (.inl e)))⟩
    rintro (e | e | e)
    · exact hS (.inl e)
    · simp [Value.ownBlock] at e
      subst e;rcases hat with e | e
      · exact hS (.inr (.inl e))
      · omega
    · exact hS (.inr (.inr e))
  refine ⟨⟨by rw [List.length_append, h.len5, hm]; rfl, h.len6, by rw [List.map_append]; exact hown, fun x hx => ?_, ⟨C, h1, h2, ?_, fun i l t hl ht => mv l t (h4 i l t hl ht)⟩, fun b hb => ?_⟩, mv⟩
  · rcases List.mem_append.1 hx with hx | hx
    · exact h.szs x hx
    · rw [List.mem_singleton.1 hx]; exact hs
  · refine ⟨h3.1, ?_⟩
    rcases h3.2 with e | ⟨g6, cap6, cur6, hv, hB, hg6, rest⟩
    · exact .inl e
    · refine .inr ⟨g6, cap6, cur6, hv, hB, (hold g6 (Array.getElem?_eq_some_iff.1 hg6).1 fun e => ?_).trans hg6, rest⟩
      exact h.apart g6 e (by rw [hv]; rfl)
  · simp [Value.ownBlock] at hb
    subst hb;rcases hat with e | e
    · exact h.apart g e
    · intro e2
      have := (h3.lt g e2).2
      omega
theorem GrR.addSub {lo : Nat} {ns : List ByteArray} {n5 : Nat} {ss : List Ty} {n6 : Nat} {v5 v6 : Value} {w w2 : World} {o : Obj} {l : List Value} {t : Ty} {C : List (List Value)} {g cap m : Nat} (h : GrR lo ns n5 ss n6 v5 v6 w)
    (hC1 : C.length = n6) (hC2 : ∀ l, l ∈ C -> l.length = 7) (hC4 : ∀ (i : Nat) (l : List Value) (t : Ty), C[i]? = some l -> ss[i]? = some t -> GrT lo v5 v6 w l t) (hl : l.length = 7) (hT : GrT lo v5 v6 w l t)
    (hown : w2.ownsRow lo 48 7 (.slice (some ⟨g, 0, none⟩) m cap) m (C.flatten ++ l)) (hm : m = n6 + 1) (hgrow : (w.alloc o).grownBy w2 v6.ownBlock)
    (hat : v6.ownBlock = some g \/ g = (w.alloc o).heap.size) :
    GrR lo ns n5 (ss ++ [t]) m v5 (.slice (some ⟨g, 0, none⟩) m cap) w2 := by
  have hsz : (w.alloc o).heap.size = w.heap.size + 1 := by simp
  have hsz2 := hgrow.size
  have hold : ∀ b, b < w.heap.size -> v6.ownBlock ≠ some b -> w2.heap[b]? = w.heap[b]? := fun b hb hne => by
    rw [hgrow.block b (by omega) (fun e => hne e.symm)];exact Lib.alloc_old w o b hb
  have mv : ∀ l t, GrT lo v5 v6 w l t -> TyAt (strike (fun b => b < lo \/ v5.ownBlock = some b \/ (Value.slice (some ⟨g, 0, none⟩) m cap).ownBlock = some b) w2) l t := fun l t hT => by
    refine TyAt.move hT (by omega) fun b hb hS => ⟨?_, hold b hb (fun e => hS (.inr (.inr e)))⟩
    rintro (e | e | e)
    · exact hS (.inl e)
    · exact hS (.inr (.inl e))
    · simp [Value.ownBlock] at e
      subst e;rcases hat with e | e
      · exact hS (.inr (.inr e))
      · omega
  have hgl : v5.ownBlock ≠ some g := fun e => by
    rcases hat with e2 | e2
    · exact h.apart g e e2
    · have := (h.names.lt g e).2; omega
  refine ⟨h.len5, by rw [List.length_append, h.len6, hm]; rfl, ?_, h.szs, ⟨C ++ [l], by simp [hC1, hm], fun x hx => ?_, by simpa using hown, fun i x u hx hu => ?_⟩, fun b hb e => ?_⟩
  · refine ⟨h.names.1, ?_⟩
    rcases h.names.2 with e | ⟨g5, cap5, cur5, hv, hB, hg5, rest⟩
    · exact .inl e
    · refine .inr ⟨g5, cap5, cur5, hv, hB, (hold g5 (Array.getElem?_eq_some_iff.1 hg5).1 fun e => ?_).trans hg5, rest⟩
      exact h.apart g5 (by rw [hv]; rfl) e
  · rcases List.mem_append.1 hx with hx | hx
    · exact hC2 x hx
    · rw [List.mem_singleton.1 hx]; exact hl
  · have hlen := h.len6
    rcases Nat.lt_or_ge i n6 with hi | hi
    · rw [List.getElem?_append_left (by omega)] at hx hu
      exact mv x u (hC4 i x u hx hu)
    · have hi' := (List.getElem?_eq_some_iff.1 hx).1
      have : i = n6 := by simp [hC1] at hi'; omega
      subst this;rw [List.getElem?_append_right (by omega)] at hx hu;simp [hC1] at hx;simp [hlen] at hu;rw [<- hx, <- hu];exact mv l t hT
  · simp [Value.ownBlock] at e
    subst e;exact hgl hb
theorem GrR.done {lo : Nat} {ns : List ByteArray} {n5 : Nat} {ss : List Ty} {n6 : Nat} {A5 A6 : Option Addr} {c5 c6 : Nat} {w : World} (h : GrR lo ns n5 ss n6 (.slice A5 n5 c5) (.slice A6 n6 c6) w) (k : Int) {m : Nat} (hm : m <= lo) (h5 : n5 <= 9223372036854775807) (h6 : n6 <= 9223372036854775807) :
    TyAt (strike (· < m) w) [.int .i64 k, .string ⟨#[]⟩, .int .i64 0, .string ⟨#[]⟩, .string ⟨#[]⟩, .slice A5 n5 c5, .slice A6 n6 c6] (.mk k ⟨#[]⟩ 0 ⟨#[]⟩ ⟨#[]⟩ ns ss) := by
  obtain ⟨C, hC, hC2, hown, hCs⟩ := h.subs;obtain ⟨-, A, c, e, hN⟩ := own_names h.names (fun i s hi => h.szs s (List.mem_of_getElem? hi));simp at e;obtain ⟨rfl, rfl⟩ := e;have e5 := h.len5;have e6 := h.len6;subst e5 e6
  have hcap : ss.length <= c6 := by
    rcases hown.2 with ⟨e, h0⟩ | ⟨g, cap, cur, e, hB, hg, hnc, rest⟩
    · omega
    · simp at e; omega
  refine .mk k ⟨#[]⟩ 0 ⟨#[]⟩ ⟨#[]⟩ ns ss A5 c5 A6 c6 (fun i => (C[i]?).getD [.nilIface, .nilIface, .nilIface, .nilIface, .nilIface, .nilIface, .nilIface]) (by decide) (by decide) (by decide) h5 h6 hcap (hN _ (fun b hb => by omega)) (fun i => ?_) (fun i t ht => ?_) (fun i t ht => ?_)
  · rcases Nat.lt_or_ge i C.length with hi | hi
    · rw [List.getElem?_eq_getElem hi]; exact hC2 _ (List.getElem_mem hi)
    · rw [List.getElem?_eq_none hi]; rfl
  · have hi : i < C.length := by rw [hC]; exact (List.getElem?_eq_some_iff.1 ht).1
    rcases hown.2 with ⟨e, h0⟩ | ⟨g, cap, cur, e, hB, hg, hnc, hcm, hcs, htake⟩
    · omega
    · simp at e
      obtain ⟨rfl, rfl⟩ := e;refine ⟨g, 0, rfl, by rw [strike_size]; exact (Array.getElem?_eq_some_iff.1 hg).1, fun j v hv => strike_cell.2 ⟨by omega, ?_⟩⟩
      have hj : j < 7 := by
        have := (List.getElem?_eq_some_iff.1 hv).1
        rw [List.getElem?_eq_getElem hi] at this;have h7 := hC2 _ (List.getElem_mem hi);simp at this; omega
      have e1 := flat7_at C hC2 i j _ (List.getElem?_eq_getElem hi) hj;rw [cZ hg, <- Array.getElem?_toList];have e2 : (cur.toList.take (ss.length * 7))[i * 7 + j]? = C[i][j]? := by rw [htake, e1]
      rw [List.getElem?_take] at e2;rw [List.getElem?_eq_getElem hi] at hv;split at e2
      · rw [show 0 + i * 7 + j = i * 7 + j by omega, e2]; exact hv
      · rename_i hn; omega
  · have hi : i < C.length := by rw [hC]; exact (List.getElem?_eq_some_iff.1 ht).1
    have hx : C[i]? = some C[i] := List.getElem?_eq_getElem hi;have := hCs i C[i] t hx ht
    rw [hx];exact TyAt.move this (Nat.le_refl _) fun b hb hS => ⟨fun e => hS (.inl (by omega)), rfl⟩
def badR {α : Type} (b i : Nat) (x : Res α) : Res α := if b = 0 then x else .err b i
theorem badR_0 {α : Type} (i : Nat) (x : Res α) : badR 0 i x = x := rfl
theorem badR_ne {α : Type} {b : Nat} (i : Nat) (x : Res α) (h : b ≠ 0) : badR b i x = .err b i := if_neg h
theorem badR_bad {α : Type} {b i : Nat} {x y : Res α} (h : b ≠ 0) : badR b i x = badR b i y := by rw [badR_ne _ _ h, badR_ne _ _ h]
theorem badR_ok {α : Type} {b i j k : Nat} {x : Res α} {t : α} (h : badR b i x = .ok t j k) : b = 0 /\ x = .ok t j k := by
  by_cases hb : b = 0
  · subst hb; exact ⟨rfl, h⟩
  · rw [badR_ne _ _ hb] at h; cases h
def RdRes (r : Nat) (A : Option Addr) (n cn : Nat) (res : Res Ty) (t : Ty) (w : World) : Prop := ∃ i c b, res = badR b i (.ok t i c) /\ c <= 500 /\ Rd r A n cn i c b w
theorem RdRes.other {r : Nat} {A : Option Addr} {n cn : Nat} {res : Res Ty} {t : Ty} {w w' : World} (h : RdRes r A n cn res t w) (e : w'.heap[r]? = w.heap[r]?) : RdRes r A n cn res t w' := by
  obtain ⟨i, c, b, h1, h2, h3⟩ := h;exact ⟨i, c, b, h1, h2, h3.other e⟩
theorem RdRes.bad {r : Nat} {A : Option Addr} {n cn b j c : Nat} {t : Ty} {w : World} (hb : b ≠ 0) (hc : c <= 500) (h : Rd r A n cn j c b w) : RdRes r A n cn (.err b j) t w := ⟨j, c, b, (badR_ne _ _ hb).symm, hc, h⟩
def TyOut (w : World) (r : Nat) (A : Option Addr) (n cn : Nat) (res : Res Ty) (e : Ending) (w' : World) : Prop :=
  ∃ (l : List Value) (t : Ty), e = .returned (.agg l.toArray) /\ TyAt (strike (· < w.heap.size) w') l t /\ Kp r w w' /\ RdRes r A n cn res t w'
theorem cell7 {w : World} {b : Nat} {v0 v1 v2 v3 v4 v5 v6 : Value} {T : TypeId} {fr : Nat × Nat} (h : w.heap[b]? = some (.cells #[v0, v1, v2, v3, v4, v5, v6] T fr)) : ∀ i v, ([v0, v1, v2, v3, v4, v5, v6] : List Value)[i]? = some v -> w.cell? ⟨b, i, none⟩ = some v := fun i v hv => by
  rw [cZ h, <- hv, <- List.getElem?_toArray]
theorem TyOut.seal {w wk : World} {r b m : Nat} {A : Option Addr} {n cn : Nat} {res : Res Ty} {t : Ty} {old : Array Value} {v0 v1 v2 v3 v4 v5 v6 : Value} {T : TypeId}
    (hb : w.heap.size <= b) (hres : wk.heap[b]? = some (.cells old T (0, 0))) (hK : Kp r w wk) (hT : TyAt (strike (· < m) wk) [v0, v1, v2, v3, v4, v5, v6] t) (hbm : b < m) (hr : r < w.heap.size) (hR : RdRes r A n cn res t wk) :
    (∀ i v, ([v0, v1, v2, v3, v4, v5, v6] : List Value)[i]? = some v -> (wk.setRow b #[v0, v1, v2, v3, v4, v5, v6]).cell? ⟨b, i, none⟩ = some v) /\
    TyOut w r A n cn res (.returned (.agg #[v0, v1, v2, v3, v4, v5, v6])) (wk.setRow b #[v0, v1, v2, v3, v4, v5, v6]) := by
  refine ⟨cell7 (setRow_heap wk b old _ T _ hres), [v0, v1, v2, v3, v4, v5, v6], t, rfl, ?_, ?_, ?_⟩
  · exact hT.move (by simp) fun b' hlt hS => ⟨by omega, setRow_other wk b b' _ (by omega)⟩
  · exact ⟨hK.os, hK.tape, hK.output, by have := hK.size; simpa using this, fun j hj hne => (setRow_other wk b j _ (by omega)).trans (hK.block j hj hne)⟩
  · exact hR.other (setRow_other wk b r _ (by omega))
theorem tyOne {k m : Int} {p d n : ByteArray} {A5 A6 : Option Addr} {n5 c5 n6 c6 : Nat} : (#[.int .i64 k, .string p, .int .i64 m, .string d, .string n, .slice A5 n5 c5, .slice A6 n6 c6] : Array Value).all (·.oneCell') = true := Array.all_eq_true_iff_forall_mem.2 (fun v hv => by simp at hv; rcases hv with rfl | rfl | rfl | rfl | rfl | rfl | rfl <;> rfl)
theorem tySize : (Tryz.prog.info? 48).map (·.size) = some 7 := by kernel_rfl
end Go.Proofs.YtddlmigofilejaaGreatDoor
