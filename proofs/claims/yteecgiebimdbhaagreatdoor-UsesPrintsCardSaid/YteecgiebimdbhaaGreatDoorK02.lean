/-
  Several texts in one.
-/
import Derived.Test.YteecgiebimdbhaaGreatDoorK01
import Derived.Deep.QuietTactic
import Derived.BigQuiet
import Derived.Lib.QuietBelow
import Derived.Deep.DeepCutAuto
import Derived.Deep.CutBlock
import Derived.Laws.ResultCell
import Derived.Laws.Rows
import Derived.Laws.Tables
import Derived.Deep.MidRow
import Derived.Deep.RegionLaw
import Derived.Deep.RegionHeld
namespace Go.Proofs.YteecgiebimdbhaaGreatDoor
open Go.RowKit
open Go.Sort
open M
def TokAt (w : World) (A : Option Addr) (S : Toks) : Prop :=
  ∀ i, i < S.n -> ∃ (g o : Nat) (y : Int), A = some ⟨g, o, none⟩ /\ g < w.heap.size /\ w.cell? ⟨g, o + i * 3, none⟩ = some (.int .i64 (S.K i)) /\ w.cell? ⟨g, o + i * 3 + 1, none⟩ = some (.int .i64 y) /\ w.cell? ⟨g, o + i * 3 + 2, none⟩ = some (.string (S.T i)) /\ (S.T i).size <= 9223372036854775807
theorem TokAt.below {w w' : World} {A : Option Addr} {S : Toks} (h : TokAt w A S) (hb : Below w.heap.size w w') : TokAt w' A S := by
  intro i hi;obtain ⟨g, o, y, hA, hg, h0, h1, h2, h3⟩ := h i hi;exact ⟨g, o, y, hA, Nat.lt_of_lt_of_le hg hb.size, (hb.cell (p := ⟨g, _, none⟩) hg).trans h0, (hb.cell (p := ⟨g, _, none⟩) hg).trans h1, (hb.cell (p := ⟨g, _, none⟩) hg).trans h2, h3⟩
def Rd (r : Nat) (A : Option Addr) (n cn : Nat) (i c b : Nat) (w : World) : Prop := w.heap[r]? = some (.cells #[.slice A n cn, .int .i64 i, .int .i64 c, .int .i64 b] 169 (0, 0))
def Kp (r : Nat) (w w' : World) : Prop := w.grownBy w' (some r)
theorem Kp.refl (r : Nat) (w : World) : Kp r w w := ⟨rfl, rfl, rfl, Nat.le_refl _, fun _ _ _ => rfl⟩
theorem Kp.trans {r : Nat} {a b c : World} (h : Kp r a b) (k : Kp r b c) : Kp r a c :=
  ⟨k.os.trans h.os, k.tape.trans h.tape, k.output.trans h.output, Nat.le_trans h.size k.size, fun j hj hne => (k.block j (Nat.lt_of_lt_of_le hj h.size) hne).trans (h.block j hj hne)⟩
theorem Kp.of_below {r : Nat} {w w' : World} (h : Below w.heap.size w w') : Kp r w w' := ⟨h.os, h.tape, h.output, h.size, fun j hj _ => h.block j hj⟩
theorem Kp.below {r : Nat} {w w' : World} (h : Kp r w w') (hr : r < w.heap.size) : Below r w w' := ⟨h.os, h.tape, h.output, h.size, fun j hj => h.block j (by omega) (by simp; omega)⟩
theorem Kp.put {r : Nat} {w w' : World} (h : Kp r w w') (i : Nat) (v : Value) : Kp r w (w'.setCell ⟨r, i, none⟩ v) :=
  ⟨h.os, h.tape, h.output, by have := h.size; simpa using this, fun j hj hne => by
    rw [Below.heap_setCell _ _ _ _ (by show j ≠ r; exact fun e => hne (by rw [e]))];exact h.block j hj hne⟩
theorem Kp.alloc {r : Nat} {w w' : World} (h : Kp r w w') (o : Obj) : Kp r w (w'.alloc o) := h.trans (Kp.of_below (below_new (Below.refl _ _) o))
def psI (b : Nat) (q : Bool) (i : Nat) : Nat := if b = 0 /\ q = true then i + 1 else i
def psB (b : Nat) (q : Bool) : Nat := if b = 0 /\ q = false then 2 else b
theorem psI_yes (i : Nat) : psI 0 true i = i + 1 := rfl
theorem psI_no (b i : Nat) : psI b false i = i := if_neg (fun x => by cases x.2)
theorem psI_bad {b : Nat} (q : Bool) (i : Nat) (h : b ≠ 0) : psI b q i = i := if_neg (fun x => h x.1)
theorem psB_yes (b : Nat) : psB b true = b := if_neg (fun x => by cases x.2)
theorem psB_no : psB 0 false = 2 := rfl
theorem psB_bad {b : Nat} (q : Bool) (h : b ≠ 0) : psB b q = b := if_neg (fun x => h x.1)
section
variable {P : Program}
theorem run_loadVar_struct (w : World) (b : Nat) (ty : TypeId) (vs : List Value) (ds : Array Field) (hty : P.underlying ty = some (.struct ds)) (hi : (P.info? ty).map (·.size) = some vs.length)
    (hc : ∀ i v, vs[i]? = some v -> w.cell? ⟨b, i, none⟩ = some v) : (loadVar ty ⟨b, 0, none⟩).run P w = .ok (.agg vs.toArray) w := by
  have hl : (loadCells ⟨b, 0, none⟩ vs.length).run P w = .ok vs.toArray w :=
    run_loadCells_list (P := P) w ⟨b, 0, none⟩ vs (fun j v hv => by
      have hadd : (⟨b, 0, none⟩ : Addr).add j = ⟨b, j, none⟩ := by unfold Addr.add; split <;> simp_all
      rw [hadd]; exact hc j v hv)
  cases hq : P.info? ty with
  | none => simp [hq] at hi
  | some i =>
    have hs : i.size = vs.length := by simpa [hq] using hi
    have hagg : (isAgg ty).run P w = .ok true w := by
      unfold isAgg
      rw [Sem.run_bind, run_underlying hty w];rfl
    simp [loadVar, Sem.run_bind, hagg, sizeOf, typeInfo, hq, hs, hl]
theorem ret_agg {fn : Func} {R : Ending -> World -> Prop} {a : Act} {w : World} {p u : Tmp} {ty : TypeId} {ds : Array Field} {vs : List Value} {b : Nat} {x : Value}
    (h : fn.results = #[.cell p ty, .tmp u]) (hp : a.tmps.getD p undef = .pointer (some ⟨b, 0, none⟩)) (hx : a.tmps.getD u undef = x)
    (hty : P.underlying ty = some (.struct ds)) (hi : (P.info? ty).map (·.size) = some vs.length) (hc : ∀ i v, vs[i]? = some v -> w.cell? ⟨b, i, none⟩ = some v)
    (hd : a.defers = []) (hR : R (.returned (.tuple #[.agg vs.toArray, x])) w) : bodyPost P fn R .ret a w := by
  refine bodyPost_ret (v := .tuple #[.agg vs.toArray, x]) ?_ hd hR;rw [results_cell_tmp h, hp, hx];simp [asAddr, Result.andThen, run_loadVar_struct w b ty vs ds hty hi hc, Sem.run_pure]
end
section
variable {P : Program}
theorem results_one {fn : Func} {p : Tmp} {ty : TypeId} (h : fn.results = #[.cell p ty]) (tmps : Array Value) (w : World) :
    (results fn tmps).run P w = ((asAddr (tmps.getD p undef)).run P w).andThen fun a w₁ => (loadVar ty a).run P w₁ := by
  simp only [results, h];simp [Sem.run_bind, Result.andThen]
theorem ret_agg1 {fn : Func} {R : Ending -> World -> Prop} {a : Act} {w : World} {p : Tmp} {ty : TypeId} {ds : Array Field} {vs : List Value} {b : Nat}
    (h : fn.results = #[.cell p ty]) (hp : a.tmps.getD p undef = .pointer (some ⟨b, 0, none⟩))
    (hty : P.underlying ty = some (.struct ds)) (hi : (P.info? ty).map (·.size) = some vs.length) (hc : ∀ i v, vs[i]? = some v -> w.cell? ⟨b, i, none⟩ = some v)
    (hd : a.defers = []) (hR : R (.returned (.agg vs.toArray)) w) : bodyPost P fn R .ret a w := by
  refine bodyPost_ret (v := .agg vs.toArray) ?_ hd hR;rw [results_one h, hp];simp [asAddr, Result.andThen, run_loadVar_struct w b ty vs ds hty hi hc]
end
theorem wpList_putRow {P : Program} {ops : Array Oper} {rest : List Oper} {a : Act} {w : World} {Q : Exit -> Act -> World -> Prop} {d : Option Tmp} {T : TypeId} {p : String} {af : Array Edge} {x y : Operand} (ty : TypeId)
    (g : Nat) (cells : Array Value) (t : TypeId) (old : Array Value) (hg : w.heap[g]? = some (.cells old t (0, 0))) (hi : (P.info? ty).map (·.size) = some cells.size)
    (hold : old.size = cells.size) (h1 : cells.all (·.oneCell') = true) (hx : a.eval x = .pointer (some ⟨g, 0, none⟩)) (hy : a.eval y = .agg cells)
    (h : wpList P ops Q rest (a.put d undef) (w.setRow g cells)) : wpList P ops Q ({ dst := d, op := .store ty x y, type := T, pos := p, after := af, guard := none } :: rest) a w :=
  wpList_store_row rfl ty x y rfl g cells hx hy t old hg hi hold h1 h
theorem wpList_putMid {P : Program} {ops : Array Oper} {rest : List Oper} {a : Act} {w : World} {Q : Exit -> Act -> World -> Prop} {d : Option Tmp} {T : TypeId} {p : String} {af : Array Edge} {x y : Operand} (ty : TypeId)
    (b o : Nat) (cells : Array Value) (ht : w.there b o cells.size) (hi : (P.info? ty).map (·.size) = some cells.size)
    (h1 : cells.all (·.oneCell') = true) (hx : a.eval x = .pointer (some ⟨b, o, none⟩)) (hy : a.eval y = .agg cells)
    (h : wpList P ops Q rest (a.put d undef) (w.setCells b o cells.toList)) : wpList P ops Q ({ dst := d, op := .store ty x y, type := T, pos := p, after := af, guard := none } :: rest) a w :=
  wpList_store_mid rfl ty x y rfl b o cells hx hy ht hi h1 h
theorem Kp.blk {r : Nat} {a b : World} (h : Kp r a b) {j : Nat} (hj : j < a.heap.size) (hne : j ≠ r) : b.heap[j]? = a.heap[j]? := h.block j hj (by simpa using hne)
theorem Kp.grow {r : Nat} {w a b : World} {ob : Option Nat} (h : Kp r w a) (g : a.grownBy b ob) (ho : ∀ k, ob = some k -> w.heap.size <= k) : Kp r w b :=
  ⟨g.os.trans h.os, g.tape.trans h.tape, g.output.trans h.output, Nat.le_trans h.size g.size, fun j hj hne => (g.block j (Nat.lt_of_lt_of_le hj h.size) (fun e => by have := ho j e.symm; omega)).trans (h.block j hj hne)⟩
theorem Kp.putNew {r : Nat} {w a : World} (h : Kp r w a) (p : Addr) (hp : w.heap.size <= p.block) (v : Value) : Kp r w (a.setCell p v) :=
  ⟨h.os, h.tape, h.output, by have := h.size; simpa using this, fun j hj hne => by
    rw [Below.heap_setCell _ _ _ _ (by omega)];exact h.block j hj hne⟩
theorem TyAt.move {S S' : Nat -> Prop} {w w' : World} {l : List Value} {t : Ty} (h : TyAt (strike S w) l t) (hz : w.heap.size <= w'.heap.size) (hS : ∀ b, b < w.heap.size -> ¬ S b -> ¬ S' b /\ w'.heap[b]? = w.heap[b]?) : TyAt (strike S' w') l t :=
  h.cells (by rw [strike_size, strike_size]; exact hz) fun b o x hx => by
    obtain ⟨h1, h2⟩ := strike_cell.1 hx;obtain ⟨h3, h4⟩ := hS b (World.block_lt_of_cell? _ _ h2) h1;exact strike_cell.2 ⟨h3, by rw [World.cell?_of_block (w := w) (a := ⟨b, o, none⟩) h4]; exact h2⟩
theorem TyAt.free {S : Nat -> Prop} {w : World} {l : List Value} {t : Ty} (h : TyAt (strike S w) l t) : TyAt w l t :=
  h.cells (by rw [strike_size]; exact Nat.le_refl _) fun b o x hx => (strike_cell.1 hx).2
theorem TyAt.leaf (w : World) (k : Int) (p : ByteArray) (m : Int) (d n : ByteArray) (hp : p.size <= 9223372036854775807) (hd : d.size <= 9223372036854775807) (hn : n.size <= 9223372036854775807) :
    TyAt w [.int .i64 k, .string p, .int .i64 m, .string d, .string n, .slice none 0 0, .slice none 0 0] (.mk k p m d n [] []) :=
  .mk k p m d n [] [] none 0 none 0 (fun _ => [.nilIface, .nilIface, .nilIface, .nilIface, .nilIface, .nilIface, .nilIface]) hp hd hn (by simp) (by simp) (by simp) (fun i s h => by simp at h) (fun _ => rfl) (fun i t h => by simp at h) (fun i t h => by simp at h)
theorem TyAt.zero (w : World) : TyAt w [.int .i64 0, .string ⟨#[]⟩, .int .i64 0, .string ⟨#[]⟩, .string ⟨#[]⟩, .slice none 0 0, .slice none 0 0] noT := TyAt.leaf w 0 ⟨#[]⟩ 0 ⟨#[]⟩ ⟨#[]⟩ (by decide) (by decide) (by decide)
structure GrR (lo : Nat) (ns : List ByteArray) (n5 : Nat) (ss : List Ty) (n6 : Nat) (v5 v6 : Value) (w : World) : Prop where
  len5 : ns.length = n5
  len6 : ss.length = n6
  names : w.ownsRow lo 9 1 v5 n5 (ns.map Value.string)
  szs : ∀ s, s ∈ ns -> s.size <= 9223372036854775807
  subs : ∃ C : List (List Value), C.length = n6 /\ (∀ l, l ∈ C -> l.length = 7) /\ w.ownsRow lo 55 7 v6 n6 C.flatten /\
    ∀ (i : Nat) (l : List Value) (t : Ty), C[i]? = some l -> ss[i]? = some t -> TyAt (strike (fun b => b < lo \/ v5.ownBlock = some b \/ v6.ownBlock = some b) w) l t
  apart : ∀ b, v5.ownBlock = some b -> v6.ownBlock ≠ some b
theorem own_from {w w' : World} {B : Nat} {e : TypeId} {z : Nat} {v : Value} {n : Nat} {xs : List Value} (h : w.ownsRow B e z v n xs) (hb : ∀ b, B <= b -> b < w.heap.size -> w'.heap[b]? = w.heap[b]?) : w'.ownsRow B e z v n xs := by
  refine ⟨h.1, ?_⟩;rcases h.2 with h | ⟨g, cap, cur, hv, hB, hg, rest⟩
  · exact .inl h
  · exact .inr ⟨g, cap, cur, hv, hB, (hb g hB (Array.getElem?_eq_some_iff.1 hg).1).trans hg, rest⟩
def badR {α : Type} (b i : Nat) (x : Res α) : Res α := if b = 0 then x else .err b i
theorem badR_0 {α : Type} (i : Nat) (x : Res α) : badR 0 i x = x := rfl
theorem badR_ne {α : Type} {b : Nat} (i : Nat) (x : Res α) (h : b ≠ 0) : badR b i x = .err b i := if_neg h
theorem cell7 {w : World} {b : Nat} {v0 v1 v2 v3 v4 v5 v6 : Value} {T : TypeId} {fr : Nat × Nat} (h : w.heap[b]? = some (.cells #[v0, v1, v2, v3, v4, v5, v6] T fr)) : ∀ i v, ([v0, v1, v2, v3, v4, v5, v6] : List Value)[i]? = some v -> w.cell? ⟨b, i, none⟩ = some v := fun i v hv => by
  rw [cZ h, <- hv, <- List.getElem?_toArray]
theorem tyOne {k m : Int} {p d n : ByteArray} {A5 A6 : Option Addr} {n5 c5 n6 c6 : Nat} : (#[.int .i64 k, .string p, .int .i64 m, .string d, .string n, .slice A5 n5 c5, .slice A6 n6 c6] : Array Value).all (·.oneCell') = true := Array.all_eq_true_iff_forall_mem.2 (fun v hv => by simp at hv; rcases hv with rfl | rfl | rfl | rfl | rfl | rfl | rfl <;> rfl)
theorem tySize : (Tryz.prog.info? 55).map (·.size) = some 7 := by kernel_rfl
def TokBox (k : Nat) (x : Int) (y : Int) (s : ByteArray) (w : World) : Prop := w.heap[k]? = some (.cells #[.int .i64 x, .int .i64 y, .string s] 119 (0, 0))
theorem TokBox.on {k : Nat} {x y : Int} {s : ByteArray} {w w' : World} (h : TokBox k x y s w) (hb : Below w.heap.size w w') : TokBox k x y s w' := (hb.block k (Array.getElem?_eq_some_iff.1 h).1).trans h
namespace M
theorem digs_snoc (c : UInt8) : ∀ (l : List UInt8) (a : Int), digs (l ++ [c]) a = 10 * digs l a + ((c.toNat : Int) - 48)
  | [], _ => rfl
  | _ :: r, _ => digs_snoc c r _
theorem majorOk_iff (l : List UInt8) : majorOk l = true ↔ 1 <= l.length /\ l.length <= 9 /\ (∀ j, j < l.length -> digC (bt l j) = true) /\ 48 < bt l 0 := by
  unfold majorOk
  simp only [Bool.and_eq_true, decide_eq_true_eq];rw [all_iff];exact ⟨fun h => ⟨h.1.1.1, h.1.1.2, h.1.2, h.2⟩, fun h => ⟨⟨⟨h.1, h.2.1⟩, h.2.2.1⟩, h.2.2.2⟩⟩
end M
theorem sign_res {α : Type} (q : Bool) (b i : Nat) (x : Nat -> Res α) : badR (psB b q) (psI b q i) (x (psI b q i)) = badR b i (if q = false then .err 2 i else x (i + 1)) := by
  by_cases hb : b = 0
  · subst hb
    cases q
    · rw [psB_no, psI_no]; rfl
    · rw [psB_yes, psI_yes]; rfl
  · rw [psB_bad _ hb, psI_bad _ _ hb, badR_ne _ _ hb, badR_ne _ _ hb]
def partsR (S : Toks) (k : Int) (z : List UInt8) (f d i c : Nat) : Res Ty := if k = 5 /\ S.sign i z = true then .ok (leafK 5) (i + 1) c else pParts S k z f d i c [] []
def fnR (S : Toks) (f d i c : Nat) : Res Ty := if S.sign i [41] = true then pEnd S f d (i + 1) c [] else pSubs S f d i c []
def listR (S : Toks) (f d i c : Nat) : Res Ty :=
  if S.sign (i + 1) [40] = false then .err 2 (i + 1)
  else match pT S f (d + 1) (i + 2) (c + 1) with
   | .err b j => .err b j
   | .ok s j c' => if S.sign j [41] = false then .err 2 j else .ok (Ty.mk 4 ⟨#[]⟩ 0 ⟨#[]⟩ ⟨#[]⟩ [] [s]) (j + 1) c'
def restR (S : Toks) (f d i c : Nat) : Res Ty :=
  if S.K i = 1 then pLocal S (S.T i) (i + 1) (c + 1)
  else if S.K i = 2 then
    (if baseT (S.T i).data.toList = 4 then
      listR S f d i c
     else if 0 < baseT (S.T i).data.toList then .ok (leafK (baseT (S.T i).data.toList)) (i + 1) (c + 1)
     else .ok (localT ⟨#[]⟩ (S.T i)) (i + 1) (c + 1))
  else if (S.T i).data.toList = [123] then partsR S 5 [125] f d (i + 1) (c + 1)
  else if (S.T i).data.toList = [91] then partsR S 6 [93] f d (i + 1) (c + 1)
  else if (S.T i).data.toList = [60] then pOpen S (i + 1) (c + 1)
  else fnR S f d (i + 1) (c + 1)
theorem pT_eq (S : Toks) (f d i c : Nat) : pT S (f + 1) d i c = if S.begins i = false then .err 2 i else if 32 < d \/ 500 <= c then .err 3 i else restR S f d i c := by
  conv => lhs; unfold pT
  unfold restR listR partsR fnR
  simp;rfl
end Go.Proofs.YteecgiebimdbhaaGreatDoor
namespace Go.Proofs.YteecgiebimdbhaaGreatDoor
open Go Go.RowKit
section
variable {P : Program} {ops : Array Oper} {Q : Exit -> Act -> World -> Prop} {md : Region.Mode} {S : World -> Prop} {off : Nat -> Bool}
def AnyX (P : Program) (md : Region.Mode) (ops : Array Oper) (Q : Exit -> Act -> World -> Prop) (S : World -> Prop) (off : Nat -> Bool) : Nat -> Array Bool -> Act -> World -> Prop
  | 0, listed, a, w => Region.ready md ops listed = [] /\ Q .normal a w
  | k + 1, listed, a, w => (Region.ready md ops listed = [] -> Q .normal a w) /\
    ∀ i, i ∈ Region.ready md ops listed -> wpOp P ops Q i (fun a' w' => (off i = false -> S w -> S w') /\ AnyX P md ops Q S off k (listed.setIfInBounds i true) a' w') a w
theorem AnyX.any : ∀ (k : Nat) {listed : Array Bool} {a : Act} {w : World}, AnyX P md ops Q S off k listed a w -> wpAny P md ops Q k listed a w
  | 0, _, _, _, h => h
  | k + 1, _, _, _, h => ⟨h.1, fun i hi => wpOp_mono (fun _ _ hx => AnyX.any k hx.2) (h.2 i hi)⟩
def Shuts (md : Region.Mode) (ops : Array Oper) (listed : Array Bool) : Prop := ∀ j o, ops[j]? = some o -> listed.getD j false = true -> ∀ e, e ∈ o.after -> Region.binds md e = true -> listed.getD e.on false = true
def shutsB (md : Region.Mode) (ops : Array Oper) (listed : Array Bool) : Bool := (List.range ops.size).all fun j => !(listed.getD j false) || ((ops[j]?).map fun o => o.after.all fun e => !Region.binds md e || listed.getD e.on false).getD true
theorem shuts_of {listed : Array Bool} (h : shutsB md ops listed = true) : Shuts md ops listed := fun j o ho hl e he hb => by
  have h1 := (List.all_eq_true.1 h) j (List.mem_range.2 (Array.getElem?_eq_some_iff.1 ho).1);rw [ho, hl] at h1;simp only [Bool.not_true, Bool.false_or, Option.map_some, Option.getD_some] at h1;have h2 := (Array.all_eq_true_iff_forall_mem.1 h1) e he;rw [hb] at h2;simpa using h2
theorem Shuts.step {listed : Array Bool} {i : Nat} (h : Shuts md ops listed) (hi : i ∈ Region.ready md ops listed) : Shuts md ops (listed.setIfInBounds i true) := fun j o ho hl e he hb => by
  obtain ⟨-, oi, hoi, hall⟩ := mem_ready.1 hi;by_cases hij : i = j
  · subst hij
    rw [hoi] at ho;obtain rfl := Option.some.inj ho;exact getD_set_true (hall e he hb)
  · rw [getD_set_ne false hij] at hl
    exact getD_set_true (h j o ho hl e he hb)
inductive Waits (md : Region.Mode) (ops : Array Oper) (i : Nat) : Nat -> Prop
  | one {j : Nat} {o : Oper} {e : Edge} : ops[j]? = some o -> e ∈ o.after -> Region.binds md e = true -> e.on = i -> Waits md ops i j
  | far {j : Nat} {o : Oper} {e : Edge} : ops[j]? = some o -> e ∈ o.after -> Region.binds md e = true -> Waits md ops i e.on -> Waits md ops i j
def waitsB (md : Region.Mode) (ops : Array Oper) (i : Nat) : Nat -> Nat -> Bool
  | 0, _ => false
  | k + 1, j => ((ops[j]?).map fun o => o.after.any fun e => Region.binds md e && (e.on == i || waitsB md ops i k e.on)).getD false
theorem waits_of {i : Nat} : ∀ (k j : Nat), waitsB md ops i k j = true -> Waits md ops i j
  | 0, _, h => by cases h
  | k + 1, j, h => by
    unfold waitsB at h
    cases ho : ops[j]? with
    | none => rw [ho] at h; cases h
    | some o =>
      rw [ho] at h;simp only [Option.map_some, Option.getD_some] at h;obtain ⟨e, he, h1⟩ := Array.any_eq_true'.1 h;simp only [Bool.and_eq_true, Bool.or_eq_true, beq_iff_eq] at h1;rcases h1.2 with h2 | h2
      · exact .one ho he h1.1 h2
      · exact .far ho he h1.1 (waits_of k e.on h2)
def allWaitB (md : Region.Mode) (ops : Array Oper) (off : Nat -> Bool) (i : Nat) : Bool := (List.range ops.size).all fun j => !(off j) || waitsB md ops i ops.size j
theorem allWait_of {i : Nat} (h : allWaitB md ops off i = true) {j : Nat} {o : Oper} (ho : ops[j]? = some o) (hj : off j = true) : Waits md ops i j := by
  have h1 := (List.all_eq_true.1 h) j (List.mem_range.2 (Array.getElem?_eq_some_iff.1 ho).1);rw [hj] at h1;exact waits_of _ _ (by simpa using h1)
theorem Waits.listed {listed : Array Bool} {i j : Nat} (h : Waits md ops i j) (hs : Shuts md ops listed) : ∀ {o : Oper}, ops[j]? = some o -> (∀ e, e ∈ o.after -> Region.binds md e = true -> listed.getD e.on false = true) -> listed.getD i false = true := by
  induction h with
  | one ho he hb hon =>
    intro o ho' hall;rw [ho] at ho'; obtain rfl := Option.some.inj ho'
    rw [<- hon]; exact hall _ he hb
  | @far j o e ho he hb hw ih =>
    intro o' ho' hall;rw [ho] at ho'; obtain rfl := Option.some.inj ho'
    have hl := hall _ he hb;cases ho2 : ops[e.on]? with
    | none =>
      cases hw with
      | one h0 => rw [ho2] at h0; cases h0
      | far h0 => rw [ho2] at h0; cases h0
    | some o2 => exact ih ho2 (hs _ _ ho2 hl)
theorem getD_not {listed : Array Bool} {i : Nat} (h : listed.getD i true = false) : listed.getD i false = false := by
  rcases Nat.lt_or_ge i listed.size with h2 | h2
  · simp [h2] at h ⊢; exact h
  · simp [Array.getElem?_eq_none h2] at h
theorem AnyX.first {S' : World -> Prop} {i : Nat} {oi : Oper} {v : Value} (hi : ops[i]? = some oi) (hsel : ∀ (j : Nat) (o : Oper) cs b, ops[j]? = some o -> o.op ≠ .select cs b)
    (hw : (∀ w, S' w) \/ (S' = S /\ ∀ (j : Nat) (o : Oper), ops[j]? = some o -> off j = true -> Waits md ops i j))
    (hQ : ∀ c a w, Q (.panic c) (a.put oi.dst v) w -> Q (.panic c) a w) : ∀ (k : Nat) (listed : Array Bool) (a : Act) (w : World), Shuts md ops listed ->
      (∀ j oj, ops[j]? = some oj -> j ≠ i -> listed.getD j true = false -> (∀ e ∈ oj.after, Region.binds md e = true -> e.on ≠ i) -> oi.apart ops oj = true) ->
      i ∈ Region.ready md ops listed -> YieldsIf P ops S' oi v a -> S' w -> AnyX P md ops Q S off k (listed.setIfInBounds i true) (a.put oi.dst v) w -> AnyX P md ops Q S off (k + 1) listed a w
  | k, listed, a, w, hsh, hap, hr, hy, hS, H => by
    refine ⟨fun h0 => (by rw [h0] at hr; cases hr), fun j hj => ?_⟩;by_cases e : j = i
    · subst e
      exact hy.wpOp hi hS ⟨fun _ h => h, H⟩
    obtain ⟨hjun, oj, hoj, hall⟩ := mem_ready.1 hj;have hun := getD_not (mem_ready.1 hr).1
    have hno : ∀ x ∈ oj.after, Region.binds md x = true -> x.on ≠ i := fun x hx hb heq => by
      have h1 := hall x hx hb;rw [heq, hun] at h1;cases h1
    have hkeep : ∀ w', (off j = false -> S w -> S w') -> S' w' := fun w' h1 => by
      rcases hw with h2 | ⟨h2, h3⟩
      · exact h2 w'
      · subst h2
        refine h1 ?_ hS;cases h4 : off j with
        | false => rfl
        | true =>
          have := (h3 j oj hoj h4).listed hsh hoj hall
          rw [hun] at this;cases this
    cases k with
    | zero =>
      have := ready_mono hj e
      rw [H.1] at this;cases this
    | succ k =>
      have h2 := wpOp_putIf hoj (hap j oj hoj e hjun hno) (fun cs b => hsel i oi cs b hi) (fun cs b => hsel j oj cs b hoj) hQ hy (H.2 j (ready_mono hj e));refine wpOp_mono (fun a' w' h3 => ⟨h3.2.1, AnyX.first hi hsel hw hQ k _ a' w' (hsh.step hj) (fun q oq hq hqi hqu hqn => hap q oq hq hqi ?_ hqn) (ready_mono hr (Ne.symm e)) h3.1 (hkeep w' h3.2.1) ?_⟩) h2
      · by_cases hjq : j = q
        · subst hjq; exact hjun
        · rw [getD_set_ne true hjq] at hqu; exact hqu
      · rw [Array.setIfInBounds_comm _ _ e]
        exact h3.2.2
theorem AnyX.take {i : Nat} {oi : Oper} {v : Value} {k : Nat} {listed : Array Bool} {a : Act} {w : World} (hi : ops[i]? = some oi) (hs : Region.noSelect ops = true) (hf : Region.free md ops listed i = true)
    (hr : (Region.ready md ops listed).contains i = true) (hw : allWaitB md ops off i = true) (hsh : shutsB md ops listed = true) (hQ : ∀ c a w, Q (.panic c) (a.put oi.dst v) w -> Q (.panic c) a w) (hS : S w) (hy : YieldsIf P ops S oi v a)
    (h : AnyX P md ops Q S off k (listed.setIfInBounds i true) (a.put oi.dst v) w) : AnyX P md ops Q S off (k + 1) listed a w :=
  AnyX.first hi (Region.noSelect_spec hs) (.inr ⟨rfl, fun _ _ ho hj => allWait_of hw ho hj⟩) hQ k listed a w (shuts_of hsh) (Region.free_spec hi hf) (by simpa using hr) hy hS h
theorem AnyX.move {i : Nat} {oi : Oper} {v : Value} {k : Nat} {listed : Array Bool} {a : Act} {w : World} (hi : ops[i]? = some oi) (hs : Region.noSelect ops = true) (hf : Region.free md ops listed i = true)
    (hr : (Region.ready md ops listed).contains i = true) (hsh : shutsB md ops listed = true) (hQ : ∀ c a w, Q (.panic c) (a.put oi.dst v) w -> Q (.panic c) a w) (hy : YieldsIf P ops (fun _ => True) oi v a)
    (h : AnyX P md ops Q S off k (listed.setIfInBounds i true) (a.put oi.dst v) w) : AnyX P md ops Q S off (k + 1) listed a w :=
  AnyX.first (S' := fun _ => True) hi (Region.noSelect_spec hs) (.inl fun _ => trivial) hQ k listed a w (shuts_of hsh) (Region.free_spec hi hf) (by simpa using hr) hy trivial h
theorem AnyX.mv {i : Nat} {oi : Oper} {v : Value} {k : Nat} {listed : Array Bool} {a : Act} {w : World} (hi : ops[i]? = some oi) (hQ : ∀ c a w, Q (.panic c) (a.put oi.dst v) w -> Q (.panic c) a w) (hy : YieldsIf P ops (fun _ => True) oi v a) (h : AnyX P md ops Q S off k (listed.setIfInBounds i true) (a.put oi.dst v) w)
    (hs : Region.noSelect ops = true := by kernel_rfl) (hf : Region.free md ops listed i = true := by kernel_rfl) (hr : (Region.ready md ops listed).contains i = true := by kernel_rfl) (hsh : shutsB md ops listed = true := by kernel_rfl) : AnyX P md ops Q S off (k + 1) listed a w := AnyX.move hi hs hf hr hsh hQ hy h
theorem AnyX.tk {i : Nat} {oi : Oper} {v : Value} {k : Nat} {listed : Array Bool} {a : Act} {w : World} (hi : ops[i]? = some oi) (hQ : ∀ c a w, Q (.panic c) (a.put oi.dst v) w -> Q (.panic c) a w) (hS : S w) (hy : YieldsIf P ops S oi v a) (h : AnyX P md ops Q S off k (listed.setIfInBounds i true) (a.put oi.dst v) w)
    (hs : Region.noSelect ops = true := by kernel_rfl) (hf : Region.free md ops listed i = true := by kernel_rfl) (hr : (Region.ready md ops listed).contains i = true := by kernel_rfl) (hw : allWaitB md ops off i = true := by kernel_rfl) (hsh : shutsB md ops listed = true := by kernel_rfl) : AnyX P md ops Q S off (k + 1) listed a w := AnyX.take hi hs hf hr hw hsh hQ hS hy h
theorem AnyX.go (i : Nat) {o : Oper} {k : Nat} {listed : Array Bool} {a : Act} {w : World} (hr : Region.ready md ops listed = [i]) (ho : ops[i]? = some o) (hg : o.guard = none)
    (h : ∀ K : Act -> World -> Prop, Hid (∀ a' w', (off i = false -> S w -> S w') -> AnyX P md ops Q S off k (listed.setIfInBounds i true) a' w' -> K a' w') -> Oper.wp P o a w K Q) : AnyX P md ops Q S off (k + 1) listed a w :=
  ⟨fun h0 => (by rw [hr] at h0; cases h0), fun j hj => by
    rw [hr] at hj;obtain rfl := List.mem_singleton.1 hj;refine wpOp_step ho fun K hK => ?_
    rw [if_pos (by simp [Region.wanted, hg])];exact h K (hZ fun a w hS hW => hK a w ⟨hS, hW⟩)⟩
theorem AnyX.done {listed : Array Bool} {a : Act} {w : World} (hr : Region.ready md ops listed = []) (h : Q .normal a w) : ∀ k, AnyX P md ops Q S off k listed a w
  | 0 => ⟨hr, h⟩
  | _ + 1 => ⟨fun _ => h, fun i hi => by rw [hr] at hi; cases hi⟩
theorem AnyX.start (S : World -> Prop) (off : Nat -> Bool) {id : Nat} {a : Act} {w : World} (hm : P.follows .mixedOrders = true) (h : AnyX P .any ops Q S off ops.size (Array.replicate ops.size false) a w.drew) : (Code.region id ops true).wp P Q a w :=
  wp_region_any hm (AnyX.any _ h)
end
end Go.Proofs.YteecgiebimdbhaaGreatDoor
