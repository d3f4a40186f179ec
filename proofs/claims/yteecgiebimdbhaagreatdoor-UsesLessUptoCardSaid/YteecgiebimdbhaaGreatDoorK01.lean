/-
  Several texts in one.
-/
import Derived.Test.YteecgiebimdbhaaGreatDoorK00
import Derived.Laws.ResultCell
import Derived.Laws.Rows
import Derived.Laws.Tables
import Derived.Deep.MidRow
import Derived.Deep.RegionLaw
import Derived.Deep.RegionHeld
open List (getElem_toArray getElem_cons_succ getElem_cons_zero set_cons_zero set_cons_succ setIfInBounds_toArray)
set_option maxRecDepth 100000
set_option maxHeartbeats 4000000
namespace Go.Proofs.YteecgiebimdbhaaGreatDoor
section
variable {P : Program}
theorem run_loadVar_struct (w : World) (b : Nat) (ty : TypeId) (vs : List Value) (ds : Array Field) (hty : P.underlying ty = some (.struct ds)) (hi : (P.info? ty).map (·.size) = some vs.length)
    (hc : ∀ i v, vs[i]? = some v -> w.cell? ⟨b, i, none⟩ = some v) : (loadVar ty ⟨b, 0, none⟩).run P w = .ok (.agg vs.toArray) w := by
  have hl : (loadCells ⟨b, 0, none⟩ vs.length).run P w = .ok vs.toArray w :=
    run_loadCells_list (P := P) w ⟨b, 0, none⟩ vs (fun j v hv => by
      have hadd : (⟨b, 0, none⟩ : Addr).add j = ⟨b, j, none⟩ := by unfold Addr.add; split <;> simp_all
      rw [hadd]; exact hc j v hv)
  cases hq : P.info? ty with
  | none => simp [hq] at hi
  | some i =>
    have hs : i.size = vs.length := by simpa [hq] using hi
    have hagg : (isAgg ty).run P w = .ok true w := by
      unfold isAgg
      rw [Sem.run_bind, run_underlying hty w];rfl
    simp [loadVar, Sem.run_bind, hagg, sizeOf, typeInfo, hq, hs, hl]
theorem ret_agg {fn : Func} {R : Ending -> World -> Prop} {a : Act} {w : World} {p u : Tmp} {ty : TypeId} {ds : Array Field} {vs : List Value} {b : Nat} {x : Value}
    (h : fn.results = #[.cell p ty, .tmp u]) (hp : a.tmps.getD p undef = .pointer (some ⟨b, 0, none⟩)) (hx : a.tmps.getD u undef = x)
    (hty : P.underlying ty = some (.struct ds)) (hi : (P.info? ty).map (·.size) = some vs.length) (hc : ∀ i v, vs[i]? = some v -> w.cell? ⟨b, i, none⟩ = some v)
    (hd : a.defers = []) (hR : R (.returned (.tuple #[.agg vs.toArray, x])) w) : bodyPost P fn R .ret a w := by
  refine bodyPost_ret (v := .tuple #[.agg vs.toArray, x]) ?_ hd hR;rw [results_cell_tmp h, hp, hx];simp [asAddr, Result.andThen, run_loadVar_struct w b ty vs ds hty hi hc, Sem.run_pure]
end
end Go.Proofs.YteecgiebimdbhaaGreatDoor
namespace Go.Proofs.YteecgiebimdbhaaGreatDoor
open Go.RowKit
section
variable {P : Program}
theorem results_one {fn : Func} {p : Tmp} {ty : TypeId} (h : fn.results = #[.cell p ty]) (tmps : Array Value) (w : World) :
    (results fn tmps).run P w = ((asAddr (tmps.getD p undef)).run P w).andThen fun a w₁ => (loadVar ty a).run P w₁ := by
  simp only [results, h];simp [Sem.run_bind, Result.andThen]
theorem ret_agg1 {fn : Func} {R : Ending -> World -> Prop} {a : Act} {w : World} {p : Tmp} {ty : TypeId} {ds : Array Field} {vs : List Value} {b : Nat}
    (h : fn.results = #[.cell p ty]) (hp : a.tmps.getD p undef = .pointer (some ⟨b, 0, none⟩))
    (hty : P.underlying ty = some (.struct ds)) (hi : (P.info? ty).map (·.size) = some vs.length) (hc : ∀ i v, vs[i]? = some v -> w.cell? ⟨b, i, none⟩ = some v)
    (hd : a.defers = []) (hR : R (.returned (.agg vs.toArray)) w) : bodyPost P fn R .ret a w := by
  refine bodyPost_ret (v := .agg vs.toArray) ?_ hd hR;rw [results_one h, hp];simp [asAddr, Result.andThen, run_loadVar_struct w b ty vs ds hty hi hc]
end
theorem wpList_putRow {P : Program} {ops : Array Oper} {rest : List Oper} {a : Act} {w : World} {Q : Exit -> Act -> World -> Prop} {d : Option Tmp} {T : TypeId} {p : String} {af : Array Edge} {x y : Operand} (ty : TypeId)
    (g : Nat) (cells : Array Value) (t : TypeId) (old : Array Value) (hg : w.heap[g]? = some (.cells old t (0, 0))) (hi : (P.info? ty).map (·.size) = some cells.size)
    (hold : old.size = cells.size) (h1 : cells.all (·.oneCell') = true) (hx : a.eval x = .pointer (some ⟨g, 0, none⟩)) (hy : a.eval y = .agg cells)
    (h : wpList P ops Q rest (a.put d undef) (w.setRow g cells)) : wpList P ops Q ({ dst := d, op := .store ty x y, type := T, pos := p, after := af, guard := none } :: rest) a w :=
  wpList_store_row rfl ty x y rfl g cells hx hy t old hg hi hold h1 h
theorem wpList_putMid {P : Program} {ops : Array Oper} {rest : List Oper} {a : Act} {w : World} {Q : Exit -> Act -> World -> Prop} {d : Option Tmp} {T : TypeId} {p : String} {af : Array Edge} {x y : Operand} (ty : TypeId)
    (b o : Nat) (cells : Array Value) (ht : w.there b o cells.size) (hi : (P.info? ty).map (·.size) = some cells.size)
    (h1 : cells.all (·.oneCell') = true) (hx : a.eval x = .pointer (some ⟨b, o, none⟩)) (hy : a.eval y = .agg cells)
    (h : wpList P ops Q rest (a.put d undef) (w.setCells b o cells.toList)) : wpList P ops Q ({ dst := d, op := .store ty x y, type := T, pos := p, after := af, guard := none } :: rest) a w :=
  wpList_store_mid rfl ty x y rfl b o cells hx hy ht hi h1 h
end Go.Proofs.YteecgiebimdbhaaGreatDoor
namespace Go.Proofs.YteecgiebimdbhaaGreatDoor
open Go.RowKit
open Go.Sort
open M
theorem Kp.blk {r : Nat} {a b : World} (h : Kp r a b) {j : Nat} (hj : j < a.heap.size) (hne : j ≠ r) : b.heap[j]? = a.heap[j]? := h.block j hj (by simpa using hne)
theorem Kp.grow {r : Nat} {w a b : World} {ob : Option Nat} (h : Kp r w a) (g : a.grownBy b ob) (ho : ∀ k, ob = some k -> w.heap.size <= k) : Kp r w b :=
  ⟨g.os.trans h.os, g.tape.trans h.tape, g.output.trans h.output, Nat.le_trans h.size g.size, fun j hj hne => (g.block j (Nat.lt_of_lt_of_le hj h.size) (fun e => by have := ho j e.symm; omega)).trans (h.block j hj hne)⟩
theorem Kp.putNew {r : Nat} {w a : World} (h : Kp r w a) (p : Addr) (hp : w.heap.size <= p.block) (v : Value) : Kp r w (a.setCell p v) :=
  ⟨h.os, h.tape, h.output, by have := h.size; simpa using this, fun j hj hne => by
    rw [Below.heap_setCell _ _ _ _ (by omega)];exact h.block j hj hne⟩
theorem TyAt.move {S S' : Nat -> Prop} {w w' : World} {l : List Value} {t : Ty} (h : TyAt (strike S w) l t) (hz : w.heap.size <= w'.heap.size) (hS : ∀ b, b < w.heap.size -> ¬ S b -> ¬ S' b /\ w'.heap[b]? = w.heap[b]?) : TyAt (strike S' w') l t :=
  h.cells (by rw [strike_size, strike_size]; exact hz) fun b o x hx => by
    obtain ⟨h1, h2⟩ := strike_cell.1 hx;obtain ⟨h3, h4⟩ := hS b (World.block_lt_of_cell? _ _ h2) h1;exact strike_cell.2 ⟨h3, by rw [World.cell?_of_block (w := w) (a := ⟨b, o, none⟩) h4]; exact h2⟩
theorem TyAt.free {S : Nat -> Prop} {w : World} {l : List Value} {t : Ty} (h : TyAt (strike S w) l t) : TyAt w l t :=
  h.cells (by rw [strike_size]; exact Nat.le_refl _) fun b o x hx => (strike_cell.1 hx).2
theorem TyAt.leaf (w : World) (k : Int) (p : ByteArray) (m : Int) (d n : ByteArray) (hp : p.size <= 9223372036854775807) (hd : d.size <= 9223372036854775807) (hn : n.size <= 9223372036854775807) :
    TyAt w [.int .i64 k, .string p, .int .i64 m, .string d, .string n, .slice none 0 0, .slice none 0 0] (.mk k p m d n [] []) :=
  .mk k p m d n [] [] none 0 none 0 (fun _ => [.nilIface, .nilIface, .nilIface, .nilIface, .nilIface, .nilIface, .nilIface]) hp hd hn (by simp) (by simp) (by simp) (fun i s h => by simp at h) (fun _ => rfl) (fun i t h => by simp at h) (fun i t h => by simp at h)
theorem TyAt.zero (w : World) : TyAt w [.int .i64 0, .string ⟨#[]⟩, .int .i64 0, .string ⟨#[]⟩, .string ⟨#[]⟩, .slice none 0 0, .slice none 0 0] noT := TyAt.leaf w 0 ⟨#[]⟩ 0 ⟨#[]⟩ ⟨#[]⟩ (by decide) (by decide) (by decide)
structure GrR (lo : Nat) (ns : List ByteArray) (n5 : Nat) (ss : List Ty) (n6 : Nat) (v5 v6 : Value) (w : World) : Prop where
  len5 : ns.length = n5
  len6 : ss.length = n6
  names : w.ownsRow lo 9 1 v5 n5 (ns.map Value.string)
  szs : ∀ s, s ∈ ns -> s.size <= 9223372036854775807
  subs : ∃ C : List (List Value), C.length = n6 /\ (∀ l, l ∈ C -> l.length = 7) /\ w.ownsRow lo 55 7 v6 n6 C.flatten /\
    ∀ (i : Nat) (l : List Value) (t : Ty), C[i]? = some l -> ss[i]? = some t -> TyAt (strike (fun b => b < lo \/ v5.ownBlock = some b \/ v6.ownBlock = some b) w) l t
  apart : ∀ b, v5.ownBlock = some b -> v6.ownBlock ≠ some b
theorem own_from {w w' : World} {B : Nat} {e : TypeId} {z : Nat} {v : Value} {n : Nat} {xs : List Value} (h : w.ownsRow B e z v n xs) (hb : ∀ b, B <= b -> b < w.heap.size -> w'.heap[b]? = w.heap[b]?) : w'.ownsRow B e z v n xs := by
  refine ⟨h.1, ?_⟩;rcases h.2 with h | ⟨g, cap, cur, hv, hB, hg, rest⟩
  · exact .inl h
  · exact .inr ⟨g, cap, cur, hv, hB, (hb g hB (Array.getElem?_eq_some_iff.1 hg).1).trans hg, rest⟩
def badR {α : Type} (b i : Nat) (x : Res α) : Res α := if b = 0 then x else .err b i
theorem badR_0 {α : Type} (i : Nat) (x : Res α) : badR 0 i x = x := rfl
theorem badR_ne {α : Type} {b : Nat} (i : Nat) (x : Res α) (h : b ≠ 0) : badR b i x = .err b i := if_neg h
theorem cell7 {w : World} {b : Nat} {v0 v1 v2 v3 v4 v5 v6 : Value} {T : TypeId} {fr : Nat × Nat} (h : w.heap[b]? = some (.cells #[v0, v1, v2, v3, v4, v5, v6] T fr)) : ∀ i v, ([v0, v1, v2, v3, v4, v5, v6] : List Value)[i]? = some v -> w.cell? ⟨b, i, none⟩ = some v := fun i v hv => by
  rw [cZ h, <- hv, <- List.getElem?_toArray]
theorem tyOne {k m : Int} {p d n : ByteArray} {A5 A6 : Option Addr} {n5 c5 n6 c6 : Nat} : (#[.int .i64 k, .string p, .int .i64 m, .string d, .string n, .slice A5 n5 c5, .slice A6 n6 c6] : Array Value).all (·.oneCell') = true := Array.all_eq_true_iff_forall_mem.2 (fun v hv => by simp at hv; rcases hv with rfl | rfl | rfl | rfl | rfl | rfl | rfl <;> rfl)
theorem tySize : (Tryz.prog.info? 55).map (·.size) = some 7 := by kernel_rfl
def TokBox (k : Nat) (x : Int) (y : Int) (s : ByteArray) (w : World) : Prop := w.heap[k]? = some (.cells #[.int .i64 x, .int .i64 y, .string s] 119 (0, 0))
theorem TokBox.on {k : Nat} {x y : Int} {s : ByteArray} {w w' : World} (h : TokBox k x y s w) (hb : Below w.heap.size w w') : TokBox k x y s w' := (hb.block k (Array.getElem?_eq_some_iff.1 h).1).trans h
end Go.Proofs.YteecgiebimdbhaaGreatDoor
namespace Go.Proofs.YteecgiebimdbhaaGreatDoor
open Go Go.RowKit
section
variable {P : Program} {ops : Array Oper} {Q : Exit -> Act -> World -> Prop} {md : Region.Mode} {S : World -> Prop} {off : Nat -> Bool}
def AnyX (P : Program) (md : Region.Mode) (ops : Array Oper) (Q : Exit -> Act -> World -> Prop) (S : World -> Prop) (off : Nat -> Bool) : Nat -> Array Bool -> Act -> World -> Prop
  | 0, listed, a, w => Region.ready md ops listed = [] /\ Q .normal a w
  | k + 1, listed, a, w => (Region.ready md ops listed = [] -> Q .normal a w) /\
    ∀ i, i ∈ Region.ready md ops listed -> wpOp P ops Q i (fun a' w' => (off i = false -> S w -> S w') /\ AnyX P md ops Q S off k (listed.setIfInBounds i true) a' w') a w
theorem AnyX.any : ∀ (k : Nat) {listed : Array Bool} {a : Act} {w : World}, AnyX P md ops Q S off k listed a w -> wpAny P md ops Q k listed a w
  | 0, _, _, _, h => h
  | k + 1, _, _, _, h => ⟨h.1, fun i hi => wpOp_mono (fun _ _ hx => AnyX.any k hx.2) (h.2 i hi)⟩
def Shuts (md : Region.Mode) (ops : Array Oper) (listed : Array Bool) : Prop := ∀ j o, ops[j]? = some o -> listed.getD j false = true -> ∀ e, e ∈ o.after -> Region.binds md e = true -> listed.getD e.on false = true
def shutsB (md : Region.Mode) (ops : Array Oper) (listed : Array Bool) : Bool := (List.range ops.size).all fun j => !(listed.getD j false) || ((ops[j]?).map fun o => o.after.all fun e => !Region.binds md e || listed.getD e.on false).getD true
theorem shuts_of {listed : Array Bool} (h : shutsB md ops listed = true) : Shuts md ops listed := fun j o ho hl e he hb => by
  have h1 := (List.all_eq_true.1 h) j (List.mem_range.2 (Array.getElem?_eq_some_iff.1 ho).1);rw [ho, hl] at h1;simp only [Bool.not_true, Bool.false_or, Option.map_some, Option.getD_some] at h1;have h2 := (Array.all_eq_true_iff_forall_mem.1 h1) e he;rw [hb] at h2;simpa using h2
theorem Shuts.step {listed : Array Bool} {i : Nat} (h : Shuts md ops listed) (hi : i ∈ Region.ready md ops listed) : Shuts md ops (listed.setIfInBounds i true) := fun j o ho hl e he hb => by
  obtain ⟨-, oi, hoi, hall⟩ := mem_ready.1 hi;by_cases hij : i = j
  · subst hij
    rw [hoi] at ho;obtain rfl := Option.some.inj ho;exact getD_set_true (hall e he hb)
  · rw [getD_set_ne false hij] at hl
    exact getD_set_true (h j o ho hl e he hb)
inductive Waits (md : Region.Mode) (ops : Array Oper) (i : Nat) : Nat -> Prop
  | one {j : Nat} {o : Oper} {e : Edge} : ops[j]? = some o -> e ∈ o.after -> Region.binds md e = true -> e.on = i -> Waits md ops i j
  | far {j : Nat} {o : Oper} {e : Edge} : ops[j]? = some o -> e ∈ o.after -> Region.binds md e = true -> Waits md ops i e.on -> Waits md ops i j
def waitsB (md : Region.Mode) (ops : Array Oper) (i : Nat) : Nat -> Nat -> Bool
  | 0, _ => false
  | k + 1, j => ((ops[j]?).map fun o => o.after.any fun e => Region.binds md e && (e.on == i || waitsB md ops i k e.on)).getD false
theorem waits_of {i : Nat} : ∀ (k j : Nat), waitsB md ops i k j = true -> Waits md ops i j
  | 0, _, h => by cases h
  | k + 1, j, h => by
    unfold waitsB at h
    cases ho : ops[j]? with
    | none => rw [ho] at h; cases h
    | some o =>
      rw [ho] at h;simp only [Option.map_some, Option.getD_some] at h;obtain ⟨e, he, h1⟩ := Array.any_eq_true'.1 h;simp only [Bool.and_eq_true, Bool.or_eq_true, beq_iff_eq] at h1;rcases h1.2 with h2 | h2
      · exact .one ho he h1.1 h2
      · exact .far ho he h1.1 (waits_of k e.on h2)
def allWaitB (md : Region.Mode) (ops : Array Oper) (off : Nat -> Bool) (i : Nat) : Bool := (List.range ops.size).all fun j => !(off j) || waitsB md ops i ops.size j
theorem allWait_of {i : Nat} (h : allWaitB md ops off i = true) {j : Nat} {o : Oper} (ho : ops[j]? = some o) (hj : off j = true) : Waits md ops i j := by
  have h1 := (List.all_eq_true.1 h) j (List.mem_range.2 (Array.getElem?_eq_some_iff.1 ho).1);rw [hj] at h1;exact waits_of _ _ (by simpa using h1)
theorem Waits.listed {listed : Array Bool} {i j : Nat} (h : Waits md ops i j) (hs : Shuts md ops listed) : ∀ {o : Oper}, ops[j]? = some o -> (∀ e, e ∈ o.after -> Region.binds md e = true -> listed.getD e.on false = true) -> listed.getD i false = true := by
  induction h with
  | one ho he hb hon =>
    intro o ho' hall;rw [ho] at ho'; obtain rfl := Option.some.inj ho'
    rw [<- hon]; exact hall _ he hb
  | @far j o e ho he hb hw ih =>
    intro o' ho' hall;rw [ho] at ho'; obtain rfl := Option.some.inj ho'
    have hl := hall _ he hb;cases ho2 : ops[e.on]? with
    | none =>
      cases hw with
      | one h0 => rw [ho2] at h0; cases h0
      | far h0 => rw [ho2] at h0; cases h0
    | some o2 => exact ih ho2 (hs _ _ ho2 hl)
theorem getD_not {listed : Array Bool} {i : Nat} (h : listed.getD i true = false) : listed.getD i false = false := by
  rcases Nat.lt_or_ge i listed.size with h2 | h2
  · simp [h2] at h ⊢; exact h
  · simp [Array.getElem?_eq_none h2] at h
theorem AnyX.first {S' : World -> Prop} {i : Nat} {oi : Oper} {v : Value} (hi : ops[i]? = some oi) (hsel : ∀ (j : Nat) (o : Oper) cs b, ops[j]? = some o -> o.op ≠ .select cs b)
    (hw : (∀ w, S' w) \/ (S' = S /\ ∀ (j : Nat) (o : Oper), ops[j]? = some o -> off j = true -> Waits md ops i j))
    (hQ : ∀ c a w, Q (.panic c) (a.put oi.dst v) w -> Q (.panic c) a w) : ∀ (k : Nat) (listed : Array Bool) (a : Act) (w : World), Shuts md ops listed ->
      (∀ j oj, ops[j]? = some oj -> j ≠ i -> listed.getD j true = false -> (∀ e ∈ oj.after, Region.binds md e = true -> e.on ≠ i) -> oi.apart ops oj = true) ->
      i ∈ Region.ready md ops listed -> YieldsIf P ops S' oi v a -> S' w -> AnyX P md ops Q S off k (listed.setIfInBounds i true) (a.put oi.dst v) w -> AnyX P md ops Q S off (k + 1) listed a w
  | k, listed, a, w, hsh, hap, hr, hy, hS, H => by
    refine ⟨fun h0 => (by rw [h0] at hr; cases hr), fun j hj => ?_⟩;by_cases e : j = i
    · subst e
      exact hy.wpOp hi hS ⟨fun _ h => h, H⟩
    obtain ⟨hjun, oj, hoj, hall⟩ := mem_ready.1 hj;have hun := getD_not (mem_ready.1 hr).1
    have hno : ∀ x ∈ oj.after, Region.binds md x = true -> x.on ≠ i := fun x hx hb heq => by
      have h1 := hall x hx hb;rw [heq, hun] at h1;cases h1
    have hkeep : ∀ w', (off j = false -> S w -> S w') -> S' w' := fun w' h1 => by
      rcases hw with h2 | ⟨h2, h3⟩
      · exact h2 w'
      · subst h2
        refine h1 ?_ hS;cases h4 : off j with
        | false => rfl
        | true =>
          have := (h3 j oj hoj h4).listed hsh hoj hall
          rw [hun] at this;cases this
    cases k with
    | zero =>
      have := ready_mono hj e
      rw [H.1] at this;cases this
    | succ k =>
      have h2 := wpOp_putIf hoj (hap j oj hoj e hjun hno) (fun cs b => hsel i oi cs b hi) (fun cs b => hsel j oj cs b hoj) hQ hy (H.2 j (ready_mono hj e));refine wpOp_mono (fun a' w' h3 => ⟨h3.2.1, AnyX.first hi hsel hw hQ k _ a' w' (hsh.step hj) (fun q oq hq hqi hqu hqn => hap q oq hq hqi ?_ hqn) (ready_mono hr (Ne.symm e)) h3.1 (hkeep w' h3.2.1) ?_⟩) h2
      · by_cases hjq : j = q
        · subst hjq; exact hjun
        · rw [getD_set_ne true hjq] at hqu; exact hqu
      · rw [Array.setIfInBounds_comm _ _ e]
        exact h3.2.2
theorem AnyX.take {i : Nat} {oi : Oper} {v : Value} {k : Nat} {listed : Array Bool} {a : Act} {w : World} (hi : ops[i]? = some oi) (hs : Region.noSelect ops = true) (hf : Region.free md ops listed i = true)
    (hr : (Region.ready md ops listed).contains i = true) (hw : allWaitB md ops off i = true) (hsh : shutsB md ops listed = true) (hQ : ∀ c a w, Q (.panic c) (a.put oi.dst v) w -> Q (.panic c) a w) (hS : S w) (hy : YieldsIf P ops S oi v a)
    (h : AnyX P md ops Q S off k (listed.setIfInBounds i true) (a.put oi.dst v) w) : AnyX P md ops Q S off (k + 1) listed a w :=
  AnyX.first hi (Region.noSelect_spec hs) (.inr ⟨rfl, fun _ _ ho hj => allWait_of hw ho hj⟩) hQ k listed a w (shuts_of hsh) (Region.free_spec hi hf) (by simpa using hr) hy hS h
theorem AnyX.move {i : Nat} {oi : Oper} {v : Value} {k : Nat} {listed : Array Bool} {a : Act} {w : World} (hi : ops[i]? = some oi) (hs : Region.noSelect ops = true) (hf : Region.free md ops listed i = true)
    (hr : (Region.ready md ops listed).contains i = true) (hsh : shutsB md ops listed = true) (hQ : ∀ c a w, Q (.panic c) (a.put oi.dst v) w -> Q (.panic c) a w) (hy : YieldsIf P ops (fun _ => True) oi v a)
    (h : AnyX P md ops Q S off k (listed.setIfInBounds i true) (a.put oi.dst v) w) : AnyX P md ops Q S off (k + 1) listed a w :=
  AnyX.first (S' := fun _ => True) hi (Region.noSelect_spec hs) (.inl fun _ => trivial) hQ k listed a w (shuts_of hsh) (Region.free_spec hi hf) (by simpa using hr) hy trivial h
theorem AnyX.mv {i : Nat} {oi : Oper} {v : Value} {k : Nat} {listed : Array Bool} {a : Act} {w : World} (hi : ops[i]? = some oi) (hQ : ∀ c a w, Q (.panic c) (a.put oi.dst v) w -> Q (.panic c) a w) (hy : YieldsIf P ops (fun _ => True) oi v a) (h : AnyX P md ops Q S off k (listed.setIfInBounds i true) (a.put oi.dst v) w)
    (hs : Region.noSelect ops = true := by kernel_rfl) (hf : Region.free md ops listed i = true := by kernel_rfl) (hr : (Region.ready md ops listed).contains i = true := by kernel_rfl) (hsh : shutsB md ops listed = true := by kernel_rfl) : AnyX P md ops Q S off (k + 1) listed a w := AnyX.move hi hs hf hr hsh hQ hy h
theorem AnyX.tk {i : Nat} {oi : Oper} {v : Value} {k : Nat} {listed : Array Bool} {a : Act} {w : World} (hi : ops[i]? = some oi) (hQ : ∀ c a w, Q (.panic c) (a.put oi.dst v) w -> Q (.panic c) a w) (hS : S w) (hy : YieldsIf P ops S oi v a) (h : AnyX P md ops Q S off k (listed.setIfInBounds i true) (a.put oi.dst v) w)
    (hs : Region.noSelect ops = true := by kernel_rfl) (hf : Region.free md ops listed i = true := by kernel_rfl) (hr : (Region.ready md ops listed).contains i = true := by kernel_rfl) (hw : allWaitB md ops off i = true := by kernel_rfl) (hsh : shutsB md ops listed = true := by kernel_rfl) : AnyX P md ops Q S off (k + 1) listed a w := AnyX.take hi hs hf hr hw hsh hQ hS hy h
theorem AnyX.go (i : Nat) {o : Oper} {k : Nat} {listed : Array Bool} {a : Act} {w : World} (hr : Region.ready md ops listed = [i]) (ho : ops[i]? = some o) (hg : o.guard = none)
    (h : ∀ K : Act -> World -> Prop, Hid (∀ a' w', (off i = false -> S w -> S w') -> AnyX P md ops Q S off k (listed.setIfInBounds i true) a' w' -> K a' w') -> Oper.wp P o a w K Q) : AnyX P md ops Q S off (k + 1) listed a w :=
  ⟨fun h0 => (by rw [hr] at h0; cases h0), fun j hj => by
    rw [hr] at hj;obtain rfl := List.mem_singleton.1 hj;refine wpOp_step ho fun K hK => ?_
    rw [if_pos (by simp [Region.wanted, hg])];exact h K (hZ fun a w hS hW => hK a w ⟨hS, hW⟩)⟩
theorem AnyX.done {listed : Array Bool} {a : Act} {w : World} (hr : Region.ready md ops listed = []) (h : Q .normal a w) : ∀ k, AnyX P md ops Q S off k listed a w
  | 0 => ⟨hr, h⟩
  | _ + 1 => ⟨fun _ => h, fun i hi => by rw [hr] at hi; cases hi⟩
theorem AnyX.start (S : World -> Prop) (off : Nat -> Bool) {id : Nat} {a : Act} {w : World} (hm : P.follows .mixedOrders = true) (h : AnyX P .any ops Q S off ops.size (Array.replicate ops.size false) a w.drew) : (Code.region id ops true).wp P Q a w :=
  wp_region_any hm (AnyX.any _ h)
end
end Go.Proofs.YteecgiebimdbhaaGreatDoor
namespace Go.Proofs.YteecgiebimdbhaaGreatDoor
open Go.RowKit
open Go.Sort
open M
def CGd (q : Nat) (A : Option Addr) (n cn i : Nat) (w : World) : Prop := w.heap[q]? = some (.cells #[.slice A n cn, .int .i64 i, .nilIface] 114 (0, 0))
def CBd (q : Nat) (A : Option Addr) (n cn b j : Nat) (w : World) : Prop :=
  ∃ (x : Int) (g : Nat), w.heap[q]? = some (.cells #[.slice A n cn, .int .i64 x, .iface 89 (.pointer (some ⟨g, 0, none⟩))] 114 (0, 0)) /\
    w.heap[g]? = some (.cells #[.int .i64 j, .iface 32 (.int .i64 b)] 94 (0, 0))
def CSt (q : Nat) (A : Option Addr) (n cn i b : Nat) (w : World) : Prop := (b = 0 /\ CGd q A n cn i w) \/ (b ≠ 0 /\ CBd q A n cn b i w)
theorem CGd.lt {q : Nat} {A : Option Addr} {n cn i : Nat} {w : World} (h : CGd q A n cn i w) : q < w.heap.size := (Array.getElem?_eq_some_iff.1 h).1
theorem CBd.lt {q : Nat} {A : Option Addr} {n cn b j : Nat} {w : World} (h : CBd q A n cn b j w) : q < w.heap.size := by
  obtain ⟨x, g, h, -⟩ := h;exact (Array.getElem?_eq_some_iff.1 h).1
theorem CSt.lt {q : Nat} {A : Option Addr} {n cn i b : Nat} {w : World} (h : CSt q A n cn i b w) : q < w.heap.size := by
  rcases h with ⟨-, h⟩ | ⟨-, h⟩
  · exact h.lt
  · exact h.lt
theorem CSt.typ {q : Nat} {A : Option Addr} {n cn i b : Nat} {w : World} (h : CSt q A n cn i b w) : ∃ vs : Array Value, w.heap[q]? = some (.cells vs 114 (0, 0)) := by
  rcases h with ⟨-, h⟩ | ⟨-, x, g, h, -⟩
  · exact ⟨_, h⟩
  · exact ⟨_, h⟩
theorem two_types {w : World} {a b : Nat} {va vb : Array Value} {Ta Tb : TypeId} {fa fb : Nat × Nat} (ha : w.heap[a]? = some (.cells va Ta fa)) (hb : w.heap[b]? = some (.cells vb Tb fb)) (hT : Ta ≠ Tb) : a ≠ b := fun e => by
  subst e;rw [ha] at hb;simp only [Option.some.injEq, Obj.cells.injEq] at hb;exact hT hb.2.1
theorem CSt.keep {q : Nat} {A : Option Addr} {n cn i b : Nat} {w w' : World} (h : CSt q A n cn i b w) (e : w'.heap[q]? = w.heap[q]?) (eg : ∀ (g : Nat) (vs : Array Value) (fr : Nat × Nat), w.heap[g]? = some (Obj.cells vs 94 fr) -> w'.heap[g]? = w.heap[g]?) : CSt q A n cn i b w' := by
  rcases h with ⟨h0, h⟩ | ⟨h0, x, g, h1, h2⟩
  · exact .inl ⟨h0, e.trans h⟩
  · exact .inr ⟨h0, x, g, e.trans h1, (eg g _ _ h2).trans h2⟩
theorem CSt.below {q : Nat} {A : Option Addr} {n cn i b : Nat} {w w' : World} (h : CSt q A n cn i b w) (hb : Below w.heap.size w w') : CSt q A n cn i b w' := h.keep (hb.block q h.lt) fun g _ _ hg => hb.block g (Array.getElem?_eq_some_iff.1 hg).1
theorem CSt.good {q : Nat} {A : Option Addr} {n cn i : Nat} {w : World} (h : CSt q A n cn i 0 w) : CGd q A n cn i w := by
  rcases h with ⟨-, h⟩ | ⟨h, -⟩
  · exact h
  · exact absurd rfl h
theorem CSt.bad {q : Nat} {A : Option Addr} {n cn i b : Nat} {w : World} (h : CSt q A n cn i b w) (hb : b ≠ 0) : CBd q A n cn b i w := by
  rcases h with ⟨h0, -⟩ | ⟨-, h⟩
  · exact absurd h0 hb
  · exact h
def tokV (k y : Int) (s : ByteArray) : Value := .agg #[.int .i64 k, .int .i64 y, .string s]
def smallK (k : Int) (s : ByteArray) : Bool := (k == 1) && smallB s.data.toList
def greatK (k : Int) (s : ByteArray) : Bool := (k == 2) && greatB s.data.toList
theorem isSmall_any (k y : Int) (s : ByteArray) (w : World) (hs : s.size <= 9223372036854775807) : Calls Tryz.prog 110 #[tokV k y s] w fun e w' => e = .returned (.bool (smallK k s)) /\ Below w.heap.size w w' := by
  unfold tokV
  have SM := hZ (fun w => small_any s w hs);rcases hid_or (k == 1) with a1 | a1
  · have b1 := a1.out
    have R : Hid (smallK k s = false) := hZ (by unfold smallK; rw [b1]; rfl);rw [R.out];go_enter Tryz.func110, Tryz.ntmps110
    go_wp2_with fail
    go_ret;exact ⟨rfl, below_new (Below.refl _ _) _⟩
  · have b1 := a1.out
    have R : Hid (smallK k s = smallB s.data.toList) := hZ (by unfold smallK; rw [b1]; rfl);rw [R.out];go_enter Tryz.func110, Tryz.ntmps110
    go_wp2_with fail
    refine (SM.out _).mono ?_; rintro e w1 ⟨rfl, rfl⟩
    go_wp2_with fail
    go_ret;exact ⟨rfl, below_new (Below.refl _ _) _⟩
theorem isGreat_any (k y : Int) (s : ByteArray) (w : World) (hs : s.size <= 9223372036854775807) : Calls Tryz.prog 112 #[tokV k y s] w fun e w' => e = .returned (.bool (greatK k s)) /\ Below w.heap.size w w' := by
  unfold tokV
  have SM := hZ (fun w => great_any s w hs);rcases hid_or (k == 2) with a1 | a1
  · have b1 := a1.out
    have R : Hid (greatK k s = false) := hZ (by unfold greatK; rw [b1]; rfl);rw [R.out];go_enter Tryz.func112, Tryz.ntmps112
    go_wp2_with fail
    go_ret;exact ⟨rfl, below_new (Below.refl _ _) _⟩
  · have b1 := a1.out
    have R : Hid (greatK k s = greatB s.data.toList) := hZ (by unfold greatK; rw [b1]; rfl);rw [R.out];go_enter Tryz.func112, Tryz.ntmps112
    go_wp2_with fail
    refine (SM.out _).mono ?_; rintro e w1 ⟨rfl, rfl⟩
    go_wp2_with fail
    go_ret;exact ⟨rfl, below_new (Below.refl _ _) _⟩
def signK (l : List UInt8) : Int := if l = [123] then 5 else if l = [91] then 6 else if l = [40] then 7 else if l = [60] then 9 else 0
def begunK (k : Int) (s : ByteArray) : Int := if smallK k s = true \/ greatK k s = true then 8 else if k = 2 then baseT s.data.toList else if k = 4 then signK s.data.toList else 0
theorem ofWord_any (s : ByteArray) (w : World) : Calls Tryz.prog 233 #[.string s] w fun e w' => e = .returned (.int .i64 (baseT s.data.toList)) /\ w = w' := by
  have E := hZ (show s.toList = s.data.toList from Lib.toList_data s);go_enter Tryz.func233, Tryz.ntmps233
  go_wp2
  all_goals go_ret
  all_goals refine ⟨ret_int' ?_, rfl⟩
  all_goals (rw [<- E.out]; clear E; simp_all [baseT])
theorem ofSign_any (s : ByteArray) (w : World) : Calls Tryz.prog 234 #[.string s] w fun e w' => e = .returned (.int .i64 (signK s.data.toList)) /\ w = w' := by
  have E := hZ (show s.toList = s.data.toList from Lib.toList_data s);go_enter Tryz.func234, Tryz.ntmps234
  go_wp2
  all_goals go_ret
  all_goals refine ⟨ret_int' ?_, rfl⟩
  all_goals (rw [<- E.out]; clear E; simp_all [signK])
theorem begun_any (k y : Int) (s : ByteArray) (w : World) (hs : s.size <= 9223372036854775807) : Calls Tryz.prog 193 #[tokV k y s] w fun e w' => e = .returned (.int .i64 (begunK k s)) /\ Below w.heap.size w w' := by
  obtain ⟨W1, hW1⟩ : ∃ W1, W1 = w.alloc (.cells #[.int .i64 k, .int .i64 y, .string s] 119) := ⟨_, rfl⟩;have B1 : Below w.heap.size w W1 := by rw [hW1]; exact below_new (Below.refl _ _) _
  have T1 : TokBox w.heap.size k y s W1 := by rw [hW1]; exact heap_alloc_new w _
  have SM := hZ (isSmall_any k y s W1 hs);have HW1 := hZ hW1;have t0 : W1.cell? ⟨w.heap.size, 0, none⟩ = some (.int .i64 k) := cZ T1 0;have t1 : W1.cell? ⟨w.heap.size, 1, none⟩ = some (.int .i64 y) := cZ T1 1;have t2 : W1.cell? ⟨w.heap.size, 2, none⟩ = some (.string s) := cZ T1 2;have HT1 := hZ T1;have HB1 := hZ B1;have hl1 : w.heap.size < W1.heap.size := (Array.getElem?_eq_some_iff.1 T1).1;clear hW1 B1 T1;unfold tokV
  unfold tokV at SM
  go_enter Tryz.func193, Tryz.ntmps193
  go_upto_region 1 with fail
  rw [<- HW1.out];go_wp2_with fail
  refine SM.out.mono ?_; rintro e w2 ⟨rfl, hb2⟩
  obtain ⟨q1, hq1⟩ : ∃ q1, smallK k s = q1 := ⟨_, rfl⟩;rw [hq1];have HQ1 := hZ hq1;have HB2 := hZ (below_over HB1.out hb2);have HT2 := hZ (HT1.out.on hb2);clear hq1 hb2 SM t0 t1 t2 HT1;cases q1 with
  | true =>
    have R : Hid (begunK k s = 8) := hZ (by unfold begunK; rw [if_pos (.inl HQ1.out)]);go_wp2_with fail
    go_ret;exact ⟨by rw [R.out]; rfl, HB2.out⟩
  | false =>
    have GM := hZ (isGreat_any k y s w2 hs);have t0 : w2.cell? ⟨w.heap.size, 0, none⟩ = some (.int .i64 k) := cZ HT2.out 0;have t1 : w2.cell? ⟨w.heap.size, 1, none⟩ = some (.int .i64 y) := cZ HT2.out 1;have t2 : w2.cell? ⟨w.heap.size, 2, none⟩ = some (.string s) := cZ HT2.out 2;unfold tokV at GM
    go_wp2_with fail
    refine GM.out.mono ?_; rintro e w3 ⟨rfl, hb3⟩
    obtain ⟨q2, hq2⟩ : ∃ q2, greatK k s = q2 := ⟨_, rfl⟩;rw [hq2];have HQ2 := hZ hq2;have HB3 := hZ (below_over HB2.out hb3);have HT3 := hZ (HT2.out.on hb3);clear hq2 hb3 GM t0 t1 t2 HT2
    have R0 : Hid (q2 = false -> begunK k s = if k = 2 then baseT s.data.toList else if k = 4 then signK s.data.toList else 0) := hZ (fun e => by
      unfold begunK
      rw [if_neg (by rw [HQ1.out, HQ2.out, e]; decide)])
    cases q2 with
    | true =>
      have R : Hid (begunK k s = 8) := hZ (by unfold begunK; rw [if_pos (.inr HQ2.out)]);go_wp2_with fail
      go_ret;exact ⟨by rw [R.out]; rfl, HB3.out⟩
    | false =>
      have t0 : w3.cell? ⟨w.heap.size, 0, none⟩ = some (.int .i64 k) := cZ HT3.out 0;have t2 : w3.cell? ⟨w.heap.size, 2, none⟩ = some (.string s) := cZ HT3.out 2;rcases hid_or (k == 2) with a2 | a2
      rotate_left
      · have b2 := a2.out
        have R : Hid (begunK k s = baseT s.data.toList) := hZ (by rw [R0.out rfl, if_pos (by simpa using b2)]);go_wp2_with fail
        refine (ofWord_any _ _).mono ?_; rintro e w4 ⟨rfl, rfl⟩
        go_wp2_with fail
        go_ret;exact ⟨by rw [R.out]; rfl, HB3.out⟩
      have b2 := a2.out;rcases hid_or (k == 4) with a4 | a4
      rotate_left
      · have b4 := a4.out
        have R : Hid (begunK k s = signK s.data.toList) := hZ (by rw [R0.out rfl, if_neg (by simpa using b2), if_pos (by simpa using b4)]);go_wp2_with fail
        refine (ofSign_any _ _).mono ?_; rintro e w4 ⟨rfl, rfl⟩
        go_wp2_with fail
        go_ret;exact ⟨by rw [R.out]; rfl, HB3.out⟩
      · have b4 := a4.out
        have R : Hid (begunK k s = 0) := hZ (by rw [R0.out rfl, if_neg (by simpa using b2), if_neg (by simpa using b4)]);go_wp2_with fail
        go_ret;exact ⟨by rw [R.out]; rfl, HB3.out⟩
structure CdCtx (W : World) (r : Nat) (A : Option Addr) (S : Toks) (w : World) : Prop where
 toks : TokAt W A S
 below : Below W.heap.size W w
 le : W.heap.size <= r
 big : S.n <= 9223372036854775806
 small : ∀ i, i < S.n -> (S.T i).size <= 281474976710656
theorem CdCtx.on {W : World} {r : Nat} {A : Option Addr} {S : Toks} {w w' : World} (h : CdCtx W r A S w) (hk : Kp r w w') (hr : r < w.heap.size) : CdCtx W r A S w' := ⟨h.toks, h.below.trans ((hk.below hr).mono h.le), h.le, h.big, h.small⟩
def kAt (S : Toks) (b i : Nat) : Int := if b = 0 /\ i < S.n then S.K i else 0
def tAt (S : Toks) (b i : Nat) : ByteArray := if b = 0 /\ i < S.n then S.T i else ⟨#[]⟩
theorem tAt_size {W : World} {r : Nat} {A : Option Addr} {S : Toks} {w : World} (hc : CdCtx W r A S w) (b i : Nat) : (tAt S b i).size <= 281474976710656 := by
 unfold tAt
 split
 ·rename_i h
  exact hc.small i h.2
 ·decide
theorem tokSize : (Tryz.prog.info? 119).map (·.size) = some 3 := by kernel_rfl
theorem tokOne {k y : Int} {s : ByteArray} : (#[.int .i64 k, .int .i64 y, .string s] : Array Value).all (·.oneCell') = true := Array.all_eq_true_iff_forall_mem.2 (fun v hv => by simp at hv; rcases hv with rfl | rfl | rfl <;> rfl)
theorem cell3 {w : World} {b : Nat} {v0 v1 v2 : Value} {T : TypeId} {fr : Nat × Nat} (h : w.heap[b]? = some (.cells #[v0, v1, v2] T fr)) : ∀ i v, ([v0, v1, v2] : List Value)[i]? = some v -> w.cell? ⟨b, i, none⟩ = some v := fun i v hv => by
 rw [cZ h, <- hv, <- List.getElem?_toArray]
theorem done_any {q : Nat} {A : Option Addr} {n cn i b : Nat} {w : World} (h : CSt q A n cn i b w) (hn : n <= 9223372036854775806) :
  Calls Tryz.prog 68 #[.pointer (some ⟨q, 0, none⟩)] w fun e w' => e = .returned (.bool (!(decide (b = 0) && decide (i < n)))) /\ Below w.heap.size w w' := by
 rcases h with ⟨rfl, G⟩ | ⟨hb, x, g, G, -⟩
 ·have c0 := cZ G 0
  have c1 := cZ G 1;have c2 := cZ G 2;simp at c0 c1 c2;by_cases hlt : i < n
  ·have R : Hid ((!(decide (0 = 0) && decide (i < n))) = false) := hZ (by simp [hlt])
   rw [R.out];have hlt2 : ¬ n <= i := by omega
   clear G;go_enter Tryz.func68, Tryz.ntmps68
   go_upto_region 1 with fail
   go_quiet (fail)
   go_wp2_with fail
   go_ret;exact ⟨rfl, below_drewN (Below.refl _ _) _⟩
  ·have R : Hid ((!(decide (0 = 0) && decide (i < n))) = true) := hZ (by simp; omega)
   rw [R.out];have hle : n <= i := by omega
   clear G;go_enter Tryz.func68, Tryz.ntmps68
   go_upto_region 1 with fail
   go_quiet (fail)
   go_wp2_with fail
   go_ret;exact ⟨rfl, below_drewN (Below.refl _ _) _⟩
 ·have R : Hid ((!(decide (b = 0) && decide (i < n))) = true) := hZ (by simp [hb])
  rw [R.out];have c2 := cZ G 2;simp at c2;clear G;go_enter Tryz.func68, Tryz.ntmps68
  go_upto_region 1 with fail
  go_quiet (fail)
  go_wp2_with fail
  go_ret;exact ⟨rfl, below_drewN (Below.refl _ _) _⟩
theorem next_any {W : World} {q : Nat} {A : Option Addr} {S : Toks} {cn i b : Nat} {w : World} (hc : CdCtx W q A S w) (h : CSt q A S.n cn i b w) :
  Calls Tryz.prog 153 #[.pointer (some ⟨q, 0, none⟩)] w fun e w' => ∃ y, e = .returned (tokV (kAt S b i) y (tAt S b i)) /\ Below w.heap.size w w' := by
 have hbig := hc.big
 have hr := h.lt
 obtain ⟨W1, hW1⟩ : ∃ W1, W1 = w.alloc (.cells #[.int .i64 0, .int .i64 0, .string ⟨#[]⟩] 119) := ⟨_, rfl⟩
 have B1 : Below w.heap.size w W1 := by rw [hW1]; exact below_new (Below.refl _ _) _
 have X1 : W1.heap[w.heap.size]? = some (.cells #[.int .i64 0, .int .i64 0, .string ⟨#[]⟩] 119 (0, 0)) := by rw [hW1]; exact heap_alloc_new w _
 have HW1 := hZ hW1
 have HB1 := hZ B1
 have HX1 := hZ X1
 have C1 := h.below B1
 have DN := done_any C1 hbig
 have HC1 := hZ C1
 have hl1 : w.heap.size < W1.heap.size := (Array.getElem?_eq_some_iff.1 X1).1
 unfold tokV
 by_cases hok : b = 0 /\ i < S.n
 ·obtain ⟨rfl, hlt⟩ := hok
  have RK : Hid (kAt S 0 i = S.K i) := hZ (if_pos ⟨rfl, hlt⟩);have RT : Hid (tAt S 0 i = S.T i) := hZ (if_pos ⟨rfl, hlt⟩);rw [RK.out, RT.out];rw [show (!(decide (0 = 0) && decide (i < S.n))) = false by simp [hlt]] at DN;have HDN := hZ DN;obtain ⟨g, o, y, rfl, hg, k0, k1, k2, hz⟩ := hc.toks i hlt;have hgr : g < q := Nat.lt_of_lt_of_le hg hc.le;have HM := hZ (⟨(hc.below.cell (p := ⟨g, _, none⟩) hg).trans k0, (hc.below.cell (p := ⟨g, _, none⟩) hg).trans k1, (hc.below.cell (p := ⟨g, _, none⟩) hg).trans k2⟩ : w.cell? ⟨g, o + i * 3, none⟩ = some (.int .i64 (S.K i)) /\ w.cell? ⟨g, o + i * 3 + 1, none⟩ = some (.int .i64 y) /\ w.cell? ⟨g, o + i * 3 + 2, none⟩ = some (.string (S.T i)));clear h hW1 B1 X1 k0 k1 k2 hc hg RK RT DN C1;go_enter Tryz.func153, Tryz.ntmps153
  go_upto_region 1 with fail
  rw [<- HW1.out];go_wp2_with fail
  refine HDN.out.mono ?_; rintro e w2 ⟨rfl, B2⟩
  have G := (HC1.out.below B2).good;have c0' := cZ G 0
  have c1' := cZ G 1
  simp at c0' c1';have B02 := below_over HB1.out B2;obtain ⟨m0, m1, m2⟩ := HM.out;obtain ⟨hcB, hfB⟩ := bcell B02;have m0' : w2.cell? ⟨g, o + i * 3, none⟩ = some (.int .i64 (S.K i)) := (hcB g _ (by omega)).trans m0
  have m1' : w2.cell? ⟨g, o + i * 3 + 1, none⟩ = some (.int .i64 y) := (hcB g _ (by omega)).trans m1
  have m2' : w2.cell? ⟨g, o + i * 3 + 2, none⟩ = some (.string (S.T i)) := (hcB g _ (by omega)).trans m2
  have HX2 := hZ ((B2.block w.heap.size hl1).trans HX1.out);have HB2 := hZ B02;have hl2 : w.heap.size < w2.heap.size := (Array.getElem?_eq_some_iff.1 HX2.out).1;have hlt2 : ¬ S.n <= i := by omega
  clear B2 hcB hfB m0 m1 m2 G B02 HDN;go_wp2_with fail
  refine AnyX.start (fun wx => wx.cell? ⟨q, 0, none⟩ = some (.slice (some ⟨g, o, none⟩) S.n cn) /\ wx.cell? ⟨q, 1, none⟩ = some (.int .i64 i) /\ wx.cell? ⟨g, o + i * 3, none⟩ = some (.int .i64 (S.K i)) /\ wx.cell? ⟨g, o + i * 3 + 1, none⟩ = some (.int .i64 y) /\ wx.cell? ⟨g, o + i * 3 + 2, none⟩ = some (.string (S.T i))) (fun k => k == 10) (by kernel_rfl) ?_;have hH0 : w2.drew.cell? ⟨q, 0, none⟩ = some (.slice (some ⟨g, o, none⟩) S.n cn) /\ w2.drew.cell? ⟨q, 1, none⟩ = some (.int .i64 i) /\ w2.drew.cell? ⟨g, o + i * 3, none⟩ = some (.int .i64 (S.K i)) /\ w2.drew.cell? ⟨g, o + i * 3 + 1, none⟩ = some (.int .i64 y) /\ w2.drew.cell? ⟨g, o + i * 3 + 2, none⟩ = some (.string (S.T i)) := ⟨c0', c1', m0', m1', m2'⟩;refine AnyX.mv (i := 0) (v := ?_) rfl (fun _ _ _ h => h) (Or.inl ⟨by rfl, ?_⟩) ?_;rotate_left
  ·(intro wS _; go_simp; try with_reducible rfl)
  simp only [getElem_toArray, getElem_cons_succ, getElem_cons_zero];simp only [Act.put, setIfInBounds_toArray, set_cons_zero, set_cons_succ];refine AnyX.mv (i := 1) (v := ?_) rfl (fun _ _ _ h => h) (Or.inl ⟨by rfl, ?_⟩) ?_;rotate_left
  ·(intro wS _; go_simp; try with_reducible rfl)
  simp only [getElem_toArray, getElem_cons_succ, getElem_cons_zero];simp only [Act.put, setIfInBounds_toArray, set_cons_zero, set_cons_succ];refine AnyX.mv (i := 2) (v := ?_) rfl (fun _ _ _ h => h) (Or.inl ⟨by rfl, ?_⟩) ?_;rotate_left
  ·(intro wS _; go_simp; try with_reducible rfl)
  simp only [getElem_toArray, getElem_cons_succ, getElem_cons_zero];simp only [Act.put, setIfInBounds_toArray, set_cons_zero, set_cons_succ];refine AnyX.tk (i := 3) (v := ?_) rfl (fun _ _ _ h => h) hH0 (Or.inl ⟨by rfl, ?_⟩) ?_;rotate_left
  ·(intro wS hS; (try obtain ⟨hS1, hS2, hS3, hS4, hS5⟩ := hS); go_simp; try with_reducible rfl)
  simp only [getElem_toArray, getElem_cons_succ, getElem_cons_zero];simp only [Act.put, setIfInBounds_toArray, set_cons_zero, set_cons_succ];refine AnyX.mv (i := 4) (v := ?_) rfl (fun _ _ _ h => h) (Or.inl ⟨by rfl, ?_⟩) ?_;rotate_left
  ·(intro wS _; go_simp; try with_reducible rfl)
  simp only [getElem_toArray, getElem_cons_succ, getElem_cons_zero];simp only [Act.put, setIfInBounds_toArray, set_cons_zero, set_cons_succ];refine AnyX.mv (i := 5) (v := ?_) rfl (fun _ _ _ h => h) (Or.inl ⟨by rfl, ?_⟩) ?_;rotate_left
  ·(intro wS _; go_simp; try with_reducible rfl)
  simp only [getElem_toArray, getElem_cons_succ, getElem_cons_zero];simp only [Act.put, setIfInBounds_toArray, set_cons_zero, set_cons_succ];refine AnyX.mv (i := 6) (v := ?_) rfl (fun _ _ _ h => h) (Or.inl ⟨by rfl, ?_⟩) ?_;rotate_left
  ·(intro wS _; go_simp; try with_reducible rfl)
  simp only [getElem_toArray, getElem_cons_succ, getElem_cons_zero];simp only [Act.put, setIfInBounds_toArray, set_cons_zero, set_cons_succ];refine AnyX.tk (i := 7) (v := ?_) rfl (fun _ _ _ h => h) hH0 (Or.inl ⟨by rfl, ?_⟩) ?_;rotate_left
  ·(intro wS hS; (try obtain ⟨hS1, hS2, hS3, hS4, hS5⟩ := hS); go_simp; try with_reducible rfl)
  simp only [getElem_toArray, getElem_cons_succ, getElem_cons_zero];simp only [Act.put, setIfInBounds_toArray, set_cons_zero, set_cons_succ];refine AnyX.mv (i := 8) (v := ?_) rfl (fun _ _ _ h => h) (Or.inl ⟨by rfl, ?_⟩) ?_;rotate_left
  ·(intro wS _; go_simp; try with_reducible rfl)
  simp only [getElem_toArray, getElem_cons_succ, getElem_cons_zero];simp only [Act.put, setIfInBounds_toArray, set_cons_zero, set_cons_succ];refine AnyX.tk (i := 9) (v := ?_) rfl (fun _ _ _ h => h) hH0 (Or.inl ⟨by rfl, ?_⟩) ?_;rotate_left
  ·(intro wS hS; (try obtain ⟨hS1, hS2, hS3, hS4, hS5⟩ := hS); go_simp; try with_reducible rfl)
  simp only [getElem_toArray, getElem_cons_succ, getElem_cons_zero];simp only [Act.put, setIfInBounds_toArray, set_cons_zero, set_cons_succ];refine AnyX.go 10 (by kernel_rfl) rfl rfl (fun K hK => ?_);simp only [getElem_toArray, getElem_cons_succ, getElem_cons_zero];refine wp_store_row 119 (.tmp 2) (.tmp 15) rfl w.heap.size #[.int .i64 (S.K i), .int .i64 y, .string (S.T i)] rfl rfl _ _ HX2.out tokSize rfl tokOne ?_;refine hK.out _ _ (fun hoff _ => absurd hoff (by decide)) ?_;clear hK;(try simp only [Act.put, setIfInBounds_toArray, set_cons_zero, set_cons_succ]);refine AnyX.done (by kernel_rfl) ?_ _;go_wp2_with fail
  exact ret_agg1 (fn := Tryz.f153) (vs := [.int .i64 (S.K i), .int .i64 y, .string (S.T i)]) (b := w.heap.size) rfl rfl Tryz.underlying119 (by kernel_rfl) (cell3 (setRow_heap w2.drew w.heap.size _ _ _ _ HX2.out)) rfl ⟨y, rfl, HB2.out.trans ⟨rfl, rfl, rfl, by simp, fun j hj => setRow_other w2.drew w.heap.size j _ (by omega)⟩⟩
 ·have RK : Hid (kAt S b i = 0) := hZ (if_neg hok)
  have RT : Hid (tAt S b i = ⟨#[]⟩) := hZ (if_neg hok);rw [RK.out, RT.out]
  rw [show (!(decide (b = 0) && decide (i < S.n))) = true by
   by_cases hb : b = 0
   ·simp [hb]; have : ¬ i < S.n := fun e => hok ⟨hb, e⟩; omega
   ·simp [hb]] at DN
  have HDN := hZ DN;clear h hW1 B1 X1 hc RK RT DN C1 hok;go_enter Tryz.func153, Tryz.ntmps153
  go_upto_region 1 with fail
  rw [<- HW1.out];go_wp2_with fail
  refine HDN.out.mono ?_; rintro e w2 ⟨rfl, B2⟩
  have HX2 := hZ ((B2.block w.heap.size hl1).trans HX1.out);have HB2 := hZ (below_over HB1.out B2);have X2 := HX2.out;clear B2 HDN;go_upto_region 2 with fail
  go_wp2_with (first | ((with_reducible refine wpList_putRow 119 w.heap.size #[.int .i64 0, .int .i64 0, .string ⟨#[]⟩] _ _ X2 ?_ ?_ ?_ ?_ ?_ ?_); exact tokSize; rfl; exact tokOne; rfl; rfl))
  exact ret_agg1 (fn := Tryz.f153) (vs := [.int .i64 0, .int .i64 0, .string ⟨#[]⟩]) (b := w.heap.size) rfl rfl Tryz.underlying119 (by kernel_rfl) (cell3 (setRow_heap w2 w.heap.size _ _ _ _ HX2.out)) rfl ⟨0, rfl, HB2.out.trans ⟨rfl, rfl, rfl, by simp, fun j hj => setRow_other w2 w.heap.size j _ (by omega)⟩⟩
def mustB (b : Nat) (so : Bool) (code : Nat) : Nat := if b = 0 /\ so = false then code else b
theorem mustB_yes (b code : Nat) : mustB b true code = b := if_neg (fun x => by cases x.2)
theorem mustB_no (code : Nat) : mustB 0 false code = code := rfl
theorem mustB_bad {b : Nat} (so : Bool) (code : Nat) (h : b ≠ 0) : mustB b so code = b := if_neg (fun x => h x.1)
theorem mustB_0 {b : Nat} {so : Bool} {code : Nat} (hco : code ≠ 0) (h : mustB b so code = 0) : b = 0 := by
 by_cases hb : b = 0
 ·exact hb
 ·rw [mustB_bad _ _ hb] at h; exact absurd h hb
theorem must_any {q : Nat} {A : Option Addr} {n cn i b : Nat} {w : World} (h : CSt q A n cn i b w) (so : Bool) (code : Nat) (hco : code ≠ 0) :
  Calls Tryz.prog 106 #[.pointer (some ⟨q, 0, none⟩), .bool so, .int .i64 code] w fun e w' => e = .returned (.tuple #[]) /\ CSt q A n cn i (mustB b so code) w' /\ Kp q w w' := by
 have hr := h.lt
 have HH := hZ h
 cases so with
 | true =>
  have R : Hid (mustB b true code = b) := hZ (mustB_yes b code);clear h;go_enter Tryz.func106, Tryz.ntmps106
  go_wp2_with fail
  go_end0
  exact ⟨rfl, by rw [R.out]; exact HH.out, Kp.refl _ _⟩
 | false =>
  rcases h with ⟨rfl, G⟩ | ⟨hb, x, g, G, -⟩
  ·have R : Hid (mustB 0 false code = code) := hZ rfl
   have c1 := cZ G 1;have c2 := cZ G 2;have f2 := Lib.frozen_of_heap G 2;simp at c1 c2;obtain ⟨w2, hw2⟩ : ∃ w2, w2 = (w.setCell ⟨q, 2, none⟩ (.iface 89 (.pointer (some ⟨w.heap.size, 0, none⟩)))).alloc (.cells #[.int .i64 i, .iface 32 (.int .i64 code)] 94) := ⟨_, rfl⟩
   have FIN : Hid (CSt q A n cn i code w2 /\ Kp q w w2) := hZ (by
    have G2 := Joins.block_setCell (i := 2) G (.iface 89 (.pointer (some ⟨w.heap.size, 0, none⟩)));have hsz : (w.setCell ⟨q, 2, none⟩ (.iface 89 (.pointer (some ⟨w.heap.size, 0, none⟩)))).heap.size = w.heap.size := by simp
    rw [hw2];refine ⟨.inr ⟨hco, i, w.heap.size, (Lib.alloc_old _ _ q (by rw [hsz]; exact hr)).trans (by simpa using G2), ?_⟩, ((Kp.refl q w).put 2 _).alloc _⟩;have := heap_alloc_new (w.setCell ⟨q, 2, none⟩ (.iface 89 (.pointer (some ⟨w.heap.size, 0, none⟩)))) (.cells #[.int .i64 i, .iface 32 (.int .i64 code)] 94)
    rw [hsz] at this;exact this)
   have HW2 := hZ hw2;clear hw2 G HH;go_enter Tryz.func106, Tryz.ntmps106
   go_wp2_with fail
   rw [<- HW2.out];go_end0
   exact ⟨rfl, by rw [R.out]; exact FIN.out.1, FIN.out.2⟩
  ·have R : Hid (mustB b false code = b) := hZ (mustB_bad false code hb)
   have c2 := cZ G 2;simp at c2;clear G;go_enter Tryz.func106, Tryz.ntmps106
   go_wp2_with fail
   go_end0
   exact ⟨rfl, by rw [R.out]; exact HH.out, Kp.refl _ _⟩
def upI (b i : Nat) : Nat := if b = 0 then i + 1 else i
theorem upI_0 (i : Nat) : upI 0 i = i + 1 := rfl
theorem upI_ne {b : Nat} (i : Nat) (h : b ≠ 0) : upI b i = i := if_neg h
theorem CSt.up {q : Nat} {A : Option Addr} {n cn i b : Nat} {w : World} (h : CSt q A n cn i b w) (hi : b = 0 -> i < n) (hn : n <= 9223372036854775806) :
  ∃ x : Int, w.cell? ⟨q, 1, none⟩ = some (.int .i64 x) /\ w.frozen? ⟨q, 1, none⟩ = false /\ CSt q A n cn (upI b i) b (w.setCell ⟨q, 1, none⟩ (.int .i64 (wrap64 (x + 1)))) := by
 have hr := h.lt
 rcases h with ⟨rfl, G⟩ | ⟨hb, x, g, G, Gg⟩
 ·refine ⟨i, by have := cZ G 1; simpa using this, Lib.frozen_of_heap G 1, .inl ⟨rfl, ?_⟩⟩
  have := hi rfl
  have e : wrap64 ((i : Int) + 1) = ((i + 1 : Nat) : Int) := by unfold wrap64; omega
  have h2 := Joins.block_setCell (i := 1) G (.int .i64 (wrap64 ((i : Int) + 1)));rw [upI_0];unfold CGd
  rw [e] at h2 ⊢;simpa using h2
 ·refine ⟨x, by have := cZ G 1; simpa using this, Lib.frozen_of_heap G 1, .inr ⟨hb, ?_⟩⟩
  have h2 := Joins.block_setCell (i := 1) G (.int .i64 (wrap64 (x + 1)));have hgq : g ≠ q := two_types Gg G (by decide);rw [upI_ne _ hb];refine ⟨_, g, by simpa using h2, ?_⟩;rw [Below.heap_setCell _ _ _ _ (by show g ≠ q; exact hgq)];exact Gg
theorem cpass_any {q : Nat} {A : Option Addr} {n cn i b : Nat} {w : World} (h : CSt q A n cn i b w) (hi : b = 0 -> i < n) (hn : n <= 9223372036854775806) :
  Calls Tryz.prog 107 #[.pointer (some ⟨q, 0, none⟩)] w fun e w' => e = .returned (.tuple #[]) /\ CSt q A n cn (upI b i) b w' /\ Kp q w w' := by
 obtain ⟨x, r1, f1, h2⟩ := h.up hi hn
 obtain ⟨w2, hw2⟩ : ∃ w2, w2 = w.setCell ⟨q, 1, none⟩ (.int .i64 (wrap64 (x + 1))) := ⟨_, rfl⟩
 rw [<- hw2] at h2
 have FIN : Hid (CSt q A n cn (upI b i) b w2 /\ Kp q w w2) := hZ ⟨h2, by rw [hw2]; exact (Kp.refl q w).put 1 _⟩
 have HW2 := hZ hw2
 clear h h2 hw2 hi hn
 go_enter Tryz.func107, Tryz.ntmps107
 go_wp2_with fail
 rw [<- HW2.out]
 go_end0
 exact ⟨rfl, FIN.out.1, FIN.out.2⟩
theorem cerr_no {q : Nat} {A : Option Addr} {n cn i : Nat} {w : World} (h : CSt q A n cn i 0 w) :
  Calls Tryz.prog 156 #[.pointer (some ⟨q, 0, none⟩)] w fun e w' => e = .returned .nilIface /\ w = w' := by
 have c2 := cZ h.good 2
 simp at c2
 clear h
 go_enter Tryz.func156, Tryz.ntmps156
 go_wp2_with fail
 go_ret
 exact ⟨rfl, rfl⟩
theorem cerr_yes {q : Nat} {A : Option Addr} {n cn i b : Nat} {w : World} (h : CSt q A n cn i b w) (hb : b ≠ 0) :
  Calls Tryz.prog 156 #[.pointer (some ⟨q, 0, none⟩)] w fun e w' => ∃ g, e = .returned (.iface 89 (.pointer (some ⟨g, 0, none⟩))) /\ w = w' /\ w.heap[g]? = some (.cells #[.int .i64 i, .iface 32 (.int .i64 b)] 94 (0, 0)) := by
 obtain ⟨x, g, G, Gg⟩ := h.bad hb
 have c2 := cZ G 2
 simp at c2
 have HG := hZ Gg
 clear h G Gg
 go_enter Tryz.func156, Tryz.ntmps156
 go_wp2_with fail
 go_ret
 exact ⟨g, rfl, rfl, HG.out⟩
theorem cat_any {q : Nat} {A : Option Addr} {n cn i : Nat} {w : World} (h : CSt q A n cn i 0 w) :
  Calls Tryz.prog 157 #[.pointer (some ⟨q, 0, none⟩)] w fun e w' => e = .returned (.int .i64 i) /\ w = w' := by
 have c1 := cZ h.good 1
 simp at c1
 clear h
 go_enter Tryz.func157, Tryz.ntmps157
 go_wp2_with fail
 go_ret
 exact ⟨rfl, rfl⟩
def standB (S : Toks) (b i : Nat) (kd : Int) (l : List UInt8) : Bool := (kAt S b i == kd) && ((tAt S b i).data.toList == l)
theorem stands_any {W : World} {q : Nat} {A : Option Addr} {S : Toks} {cn i b : Nat} {w : World} (hc : CdCtx W q A S w) (h : CSt q A S.n cn i b w) (kd : Int) (s : ByteArray) :
  Calls Tryz.prog 150 #[.pointer (some ⟨q, 0, none⟩), .int .i64 kd, .string s] w fun e w' => e = .returned (.bool (standB S b i kd s.data.toList)) /\ Below w.heap.size w w' := by
 have hbig := hc.big
 have NX := hZ (next_any hc h)
 have E1 := hZ (show (tAt S b i).toList = (tAt S b i).data.toList from Lib.toList_data _)
 have E2 := hZ (show s.toList = s.data.toList from Lib.toList_data _)
 have HSB : Hid (standB S b i kd s.data.toList = ((kAt S b i == kd) && ((tAt S b i).data.toList == s.data.toList))) := hZ rfl
 clear h hc
 go_enter Tryz.func150, Tryz.ntmps150
 go_wp2_with fail
 refine NX.out.mono ?_; rintro e w1 ⟨y, rfl, hb1⟩
 unfold tokV
 obtain ⟨w2, hw2⟩ : ∃ w2, w2 = w1.alloc (.cells #[.int .i64 (kAt S b i), .int .i64 y, .string (tAt S b i)] 119) := ⟨_, rfl⟩
 have B2 : Below w1.heap.size w1 w2 := by rw [hw2]; exact below_new (Below.refl _ _) _
 have T2 : TokBox w1.heap.size (kAt S b i) y (tAt S b i) w2 := by rw [hw2]; exact heap_alloc_new w1 _
 have B02 := hZ (below_over hb1 B2)
 have t0 : w2.cell? ⟨w1.heap.size, 0, none⟩ = some (.int .i64 (kAt S b i)) := cZ T2 0
 have t2 : w2.cell? ⟨w1.heap.size, 2, none⟩ = some (.string (tAt S b i)) := cZ T2 2
 have HW2 := hZ hw2
 clear hw2 B2 T2 hb1 NX
 generalize hk : kAt S b i = k at HSB HW2 t0 ⊢
 generalize ht : tAt S b i = t at HSB HW2 t2 E1 ⊢
 clear hk ht
 go_upto_region 2 with fail
 rw [<- HW2.out]
 rcases hid_or (k == kd) with a4 | a4
 ·have b4 := a4.out
  have R : Hid (standB S b i kd s.data.toList = false) := hZ (by rw [HSB.out, b4]; rfl);go_wp2_with fail
  go_ret;exact ⟨by rw [R.out]; rfl, B02.out⟩
 have b4 := a4.out
 rcases hid_or (t.toList == s.toList) with a5 | a5
 ·have b5 := a5.out
  have R : Hid (standB S b i kd s.data.toList = false) := hZ (by rw [HSB.out, b4, <- E1.out, <- E2.out, b5]; rfl);go_wp2_with fail
  go_ret;exact ⟨by rw [R.out]; rfl, B02.out⟩
 ·have b5 := a5.out
  have R : Hid (standB S b i kd s.data.toList = true) := hZ (by rw [HSB.out, b4, <- E1.out, <- E2.out, b5]; rfl);go_wp2_with fail
  go_ret;exact ⟨by rw [R.out]; rfl, B02.out⟩
theorem sign_at {S : Toks} {b i : Nat} (l : List UInt8) : ((kAt S b i == 4) && ((tAt S b i).data.toList == l)) = (decide (b = 0) && S.sign i l) := by
 unfold kAt tAt Toks.sign
 by_cases h : b = 0 /\ i < S.n
 ·rw [if_pos h, if_pos h]; simp [h.1, h.2]
 ·rw [if_neg h]
  by_cases hb : b = 0
  ·have : ¬ i < S.n := fun e => h ⟨hb, e⟩
   simp [hb, this]
  ·simp [hb]
theorem psB_0 {b : Nat} {s : Bool} (h : psB b s = 0) : b = 0 := by
 by_cases hb : b = 0
 ·exact hb
 ·rw [psB_bad _ hb] at h; exact absurd h hb
theorem skip_any {W : World} {q : Nat} {A : Option Addr} {S : Toks} {cn i b : Nat} {w : World} (hc : CdCtx W q A S w) (h : CSt q A S.n cn i b w) (s : ByteArray) :
  Calls Tryz.prog 154 #[.pointer (some ⟨q, 0, none⟩), .string s] w fun e w' => e = .returned (.bool (decide (b = 0) && S.sign i s.data.toList)) /\ CSt q A S.n cn (psI b (S.sign i s.data.toList) i) b w' /\ Kp q w w' := by
 have hbig := hc.big
 have ST := stands_any hc h 4 s
 unfold standB at ST
 rw [sign_at] at ST
 have HST := hZ ST
 have HH := hZ h
 have PS : Hid (∀ w1, CSt q A S.n cn i b w1 -> b = 0 -> S.sign i s.data.toList = true -> Calls Tryz.prog 107 #[.pointer (some ⟨q, 0, none⟩)] w1 fun e w' => e = .returned (.tuple #[]) /\ CSt q A S.n cn (upI b i) b w' /\ Kp q w1 w') :=
  hZ (fun w1 h1 hb hs => cpass_any h1 (fun _ => sign_lt hs) hbig)
 clear h hc ST
 go_enter Tryz.func154, Tryz.ntmps154
 go_wp2_with fail
 refine HST.out.mono ?_; rintro e w1 ⟨rfl, hb1⟩
 have H1 := hZ (HH.out.below hb1)
 have K1 := hZ (Kp.of_below (r := q) hb1)
 obtain ⟨v, hv⟩ : ∃ v, (decide (b = 0) && S.sign i s.data.toList) = v := ⟨_, rfl⟩
 have HV := hZ hv
 rw [hv]
 clear hv HST hb1 HH
 cases v with
 | false =>
  have RI : Hid (psI b (S.sign i s.data.toList) i = i) := hZ (by
   unfold psI; rw [if_neg]; rintro ⟨e1, e2⟩
   have := HV.out; rw [e1, e2] at this; cases this)
  go_wp2_with fail
  go_ret;exact ⟨by rw [HV.out]; rfl, by rw [RI.out]; exact H1.out, K1.out⟩
 | true =>
  have hb0 : b = 0 /\ S.sign i s.data.toList = true := by have := HV.out; simpa using this
  have RI : Hid (psI b (S.sign i s.data.toList) i = upI b i) := hZ (by rw [hb0.1, hb0.2]; rfl);have CP := hZ (PS.out w1 H1.out hb0.1 hb0.2);clear hb0 PS;go_wp2_with fail
  refine CP.out.mono ?_; rintro e w2 ⟨rfl, h2, k2⟩
  have H2 := hZ h2;have K2 := hZ (K1.out.trans k2);clear h2 k2 CP;go_wp2_with fail
  go_ret;exact ⟨by rw [HV.out]; rfl, by rw [RI.out]; exact H2.out, K2.out⟩
theorem csign_any {W : World} {q : Nat} {A : Option Addr} {S : Toks} {cn i b : Nat} {w : World} (hc : CdCtx W q A S w) (h : CSt q A S.n cn i b w) (s : ByteArray) :
  Calls Tryz.prog 111 #[.pointer (some ⟨q, 0, none⟩), .string s] w fun e w' => e = .returned (.tuple #[]) /\ CSt q A S.n cn (psI b (S.sign i s.data.toList) i) (psB b (S.sign i s.data.toList)) w' /\ Kp q w w' := by
 have SK := hZ (skip_any hc h s)
 clear hc h
 go_enter Tryz.func111, Tryz.ntmps111
 go_wp2_with fail
 refine SK.out.mono ?_; rintro e w1 ⟨rfl, h1, k1⟩
 have MU := hZ (must_any h1 (decide (b = 0) && S.sign i s.data.toList) 2 (by decide))
 have HK1 := hZ k1
 have RB : Hid (mustB b (decide (b = 0) && S.sign i s.data.toList) 2 = psB b (S.sign i s.data.toList)) := hZ (by
  unfold mustB psB
  by_cases hb : b = 0
  ·subst hb
   cases S.sign i s.data.toList <;> rfl
  ·rw [if_neg (fun x => hb x.1), if_neg (fun x => hb x.1)])
 clear h1 k1 SK
 go_wp2_with fail
 refine MU.out.mono ?_; rintro e w2 ⟨rfl, h2, k2⟩
 go_wp2_with fail
 go_end0
 exact ⟨rfl, by rw [<- RB.out]; exact h2, HK1.out.trans k2⟩
end Go.Proofs.YteecgiebimdbhaaGreatDoor
