/-
  Several texts in one:  ·  ·  ·  ·  ·  ·  ·  ·  ·  ·  ·  ·  ·  ·  ·  ·  ·  ·  ·  ·  ·  ·  ·  ·  ·  ·  ·  ·  ·  ·  ·  ·  ·  ·  ·  ·  · 
-/
import Derived.Test.YtkgmdbkcldojnaaGreatDoorK02
import Derived.LoopTactic
import Derived.Test.YtkgmdbkcldojnaaGreatDoorK01
import Derived.Lib.AtoiTie
import Derived.Lib.AtoiAllCases
import Derived.Lib.ItoaNum
import Derived.Lib.AtoiErrMem
import Derived.Lib.QuietBelow
import Derived.Lib.AppendIntMem
import Derived.Deep.DeepCutAuto
import Derived.Test.YtkgmdbkcldojnaaGreatDoorK00
import Derived.Deep.AppendLies
import Derived.Deep.MidRow
import Derived.Shelf.SlSortCmp.InsertionK
import Derived.Sort.OwnSorted
import Derived.Lib.IndexAny
import Derived.Lib.IndexLaws
import Derived.Lib.IndexBytes
import Derived.Lib.Strings
import GoSem.Op.String
import Derived.Below
import Derived.Laws.OwnMore
import Derived.OwnWalk
import Derived.Deep.Draws
import Derived.Laws.AppendOwn
import Derived.Deep.QuietTactic
import Derived.BigQuiet
/-  -/
namespace Go.Proofs.YtkgmdbkcldojnaaGreatDoor
open Go.RowKit
open Go.Sort
open M
namespace M
end M
end Go.Proofs.YtkgmdbkcldojnaaGreatDoor

/-  -/
namespace Go.Proofs.YtkgmdbkcldojnaaGreatDoor
open Go.RowKit
open Go.Sort
open M
end Go.Proofs.YtkgmdbkcldojnaaGreatDoor

/-  -/
namespace Go.Proofs.YtkgmdbkcldojnaaGreatDoor
open Go.RowKit
open Go.Sort
open M
end Go.Proofs.YtkgmdbkcldojnaaGreatDoor

/-  -/
namespace Go.Proofs.YtkgmdbkcldojnaaGreatDoor
open Go.RowKit
open Go.Sort
open M
end Go.Proofs.YtkgmdbkcldojnaaGreatDoor

/-  -/
namespace Go.Proofs.YtkgmdbkcldojnaaGreatDoor
open Go.RowKit
open Go.Sort
open M
theorem clone_own (s : ByteArray) (w : World) (hs : s.size ≤ 281474976710656) : Calls Tryz.prog 59 #[.string s] w fun e w' => e = .returned (.string s) ∧ Below w.heap.size w w' := by
  go_enter Tryz.func59, Tryz.ntmps59
  go_wp2_with fail
  refine (Tryz.stringslite_Clone _ _ hs).mono ?_; rintro e w1 ⟨rfl, hb1⟩
  go_wp2
  go_ret
  exact ⟨rfl, hb1⟩
def NameOut (S : Toks) (ok : Bool) (i b : Nat) (s : ByteArray) (i' b' : Nat) : Prop :=
  (b = 0 ∧ ok = true ∧ s = S.T i ∧ i' = i + 1 ∧ b' = 0) ∨ (b = 0 ∧ ok = false ∧ i' = i ∧ b' = 2) ∨ (b ≠ 0 ∧ i' = i ∧ b' = b)
end Go.Proofs.YtkgmdbkcldojnaaGreatDoor

/-  -/
namespace Go.Proofs.YtkgmdbkcldojnaaGreatDoor.M
open Go Go.Lib
end Go.Proofs.YtkgmdbkcldojnaaGreatDoor.M

/-  -/
namespace Go.Proofs.YtkgmdbkcldojnaaGreatDoor
open Go.RowKit
open Go.Sort
open M
end Go.Proofs.YtkgmdbkcldojnaaGreatDoor

/-  -/
namespace Go.Proofs.YtkgmdbkcldojnaaGreatDoor
open Go.RowKit
open Go.Sort
open M
end Go.Proofs.YtkgmdbkcldojnaaGreatDoor

/-  -/
namespace Go.Proofs.YtkgmdbkcldojnaaGreatDoor
open Go.RowKit
open Go.Sort
open M
def Bx (b : Nat) (w : World) : Prop := w.heap[b]? = some (.cells #[.int .i64 0, .string ⟨#[]⟩, .int .i64 0, .string ⟨#[]⟩, .string ⟨#[]⟩, .slice none 0 0, .slice none 0 0] 30 (0, 0))
end Go.Proofs.YtkgmdbkcldojnaaGreatDoor

/-  -/
namespace Go.Proofs.YtkgmdbkcldojnaaGreatDoor
open Go.RowKit
open Go.Sort
open M
end Go.Proofs.YtkgmdbkcldojnaaGreatDoor

/-  -/
namespace Go.Proofs.YtkgmdbkcldojnaaGreatDoor
open Go.RowKit
open Go.Sort
open M
end Go.Proofs.YtkgmdbkcldojnaaGreatDoor

/-  -/
namespace Go.Proofs.YtkgmdbkcldojnaaGreatDoor
open Go Go.Sort Go.RowKit
def feeds (ops : Array Oper) : Bool := (List.range (ops.size - 1)).all fun i => (List.range ops.size).any fun j => decide (i < j) && ((ops[j]?).map fun o => o.after.any fun e => Region.binds .any e && (e.on == i)).getD false
def backward (ops : Array Oper) : Bool := (List.range ops.size).all fun i => ((ops[i]?).map fun o => o.after.all fun e => !Region.binds .any e || decide (e.on < i)).getD true
def Closed (ops : Array Oper) (listed : Array Bool) : Prop := ∀ i o, ops[i]? = some o → listed.getD i false = true → ∀ e ∈ o.after, Region.binds .any e = true → listed.getD e.on false = true
section
variable {P : Program} {ops ops' : Array Oper} {C : World → Prop}
theorem Closed.step {listed : Array Bool} {i : Nat} (h : Closed ops listed) (hi : i ∈ Region.ready .any ops listed) : Closed ops (listed.setIfInBounds i true) := by
  obtain ⟨-, o, ho, hall⟩ := mem_ready.1 hi
  intro j oj hj hl e he hb
  by_cases hij : i = j
  · subst hij
    rw [ho] at hj; obtain rfl := Option.some.inj hj
    exact getD_set_true (hall e he hb)
  · rw [getD_set_ne false hij] at hl
    exact getD_set_true (h j oj hj hl e he hb)
theorem inBounds {listed : Array Bool} {i : Nat} (h : i < listed.size) (b : Bool) : listed.getD i b = listed.getD i false := by
  simp [h]
theorem ready_some {listed : Array Bool} (hsz : listed.size = ops.size) (hb : backward ops = true) : ∀ (m i : Nat), i < m → i < ops.size → listed.getD i false = false → ∃ j, j ∈ Region.ready .any ops listed
  | 0, i, hm, _, _ => by omega
  | m + 1, i, hm, hi, hu => by
    obtain ⟨o, ho⟩ : ∃ o, ops[i]? = some o := ⟨_, Array.getElem?_eq_getElem hi⟩
    by_cases hall : ∀ e ∈ o.after, Region.binds .any e = true → listed.getD e.on false = true
    · exact ⟨i, mem_ready.2 ⟨by rw [inBounds (by omega)]; exact hu, o, ho, hall⟩⟩
    · simp only [Classical.not_forall] at hall
      obtain ⟨e, he, hbe, hne⟩ := hall
      have h1 := (List.all_eq_true.1 hb) i (List.mem_range.2 hi)
      rw [ho] at h1
      simp only [Option.map_some, Option.getD_some] at h1
      have h2 := (Array.all_eq_true_iff_forall_mem.1 h1) e he
      rw [hbe] at h2
      simp only [Bool.not_true, Bool.false_or, decide_eq_true_eq] at h2
      exact ready_some hsz hb m e.on (by omega) (by omega) (by simpa using hne)
theorem last_ready {listed : Array Bool} {s : Nat} (hs : s + 1 = ops.size) (hf : feeds ops = true) (hc : Closed ops listed) (hr : s ∈ Region.ready .any ops listed) : ∀ (m i : Nat), s - i < m → i < s → listed.getD i false = true
  | 0, i, hm, _ => by omega
  | m + 1, i, hm, hi => by
    have h1 := (List.all_eq_true.1 hf) i (List.mem_range.2 (by omega))
    obtain ⟨j, hj, h2⟩ := List.any_eq_true.1 h1
    simp only [Bool.and_eq_true, decide_eq_true_eq] at h2
    have hjs := List.mem_range.1 hj
    obtain ⟨o, ho⟩ : ∃ o, ops[j]? = some o := ⟨_, Array.getElem?_eq_getElem hjs⟩
    obtain ⟨hij, h3⟩ := h2
    rw [ho] at h3
    simp only [Option.map_some, Option.getD_some] at h3
    obtain ⟨e, he, h4⟩ := Array.any_eq_true'.1 h3
    simp only [Bool.and_eq_true, beq_iff_eq] at h4
    obtain ⟨hb, rfl⟩ := h4
    by_cases hjs' : j = s
    · subst hjs'
      obtain ⟨-, o', ho', hall⟩ := mem_ready.1 hr
      rw [ho] at ho'; obtain rfl := Option.some.inj ho'
      exact hall e he hb
    · exact hc j o ho (last_ready hs hf hc hr m j (by omega) (by omega)) e he hb
theorem put_put (a : Act) (d : Option Tmp) (u v : Value) : (a.put d u).put d v = a.put d v := by
  cases d with
  | none => rfl
  | some d => simp [Act.put]
def LastAt (P : Program) (o : Oper) (Q : Exit → Act → World → Prop) (a : Act) (w : World) : Prop :=
  ∃ f args, (execOp a.eval o).run P w = .ok (.enter f args) w ∧ Calls P f args w (fun e w'' => ∃ v, e = .returned v ∧ Q .normal (a.put o.dst v) w'')
theorem wpAny_of_last {s : Nat} {o o' : Oper} (hsz : ops'.size = ops.size) (hs : s + 1 = ops.size) (heq : ∀ i, i ≠ s → ops'[i]? = ops[i]?) (ho : ops[s]? = some o) (ho' : ops'[s]? = some o')
    (haf : o'.after = o.after) (hdst : o'.dst = o.dst) (hg : o.guard = none) (hg' : o'.guard = none) (hlook : ∀ d, o.dst = some d → d ∉ o.looksAt ops) (hsel : ∀ cs b, o.op ≠ .select cs b)
    (hf : feeds ops = true) (hb : backward ops = true) {Q : Exit → Act → World → Prop} :
    ∀ (fuel : Nat) (listed : Array Bool) (a : Act) (w : World), listed.size = ops.size → Closed ops listed → listed.getD s false = false → C w →
      wpAnyQ P .any ops' C (fun a' => ∀ w', C w' → LastAt P o Q a' w') fuel listed a → wpAny P .any ops Q fuel listed a w := by
  have hy : ∀ t, yielded ops' t = yielded ops t := by
    intro t; funext j
    unfold yielded
    by_cases hj : j = s
    · subst hj; rw [ho, ho']; simp [hdst]
    · rw [heq j hj]
  have hready : ∀ listed, Region.ready .any ops' listed = Region.ready .any ops listed := by
    intro listed
    unfold Region.ready
    rw [hsz]
    congr 1; funext i
    by_cases hi : i = s
    · subst hi; rw [ho, ho']; simp [haf]
    · rw [heq i hi]
  intro fuel
  induction fuel with
  | zero =>
    intro listed a w hl hc hu hw h
    obtain ⟨j, hj⟩ := ready_some hl hb (s + 1) s (by omega) (by omega) hu
    rw [← hready, h.1] at hj; cases hj
  | succ fuel ih =>
    intro listed a w hl hc hu hw h
    obtain ⟨j, hj⟩ := ready_some hl hb (s + 1) s (by omega) (by omega) hu
    refine ⟨fun h0 => absurd hj (by rw [h0]; exact List.not_mem_nil), fun i hi => ?_⟩
    have hq := h.2 i (by rw [hready]; exact hi)
    by_cases his : i = s
    · subst his
      have hall := last_ready hs hf hc hi
      have hnone : Region.ready .any ops (listed.setIfInBounds i true) = [] := by
        rw [List.eq_nil_iff_forall_not_mem]
        intro k hk
        obtain ⟨h1, ok, hok, -⟩ := mem_ready.1 hk
        have hks := (Array.getElem?_eq_some_iff.1 hok).1
        by_cases hki : k = i
        · subst hki
          simp [hl, hks] at h1
        · rw [getD_set_ne true (Ne.symm hki), inBounds (by omega), hall (i + 1) k (by omega) (by omega)] at h1
          cases h1
      unfold qOp at hq
      simp only [ho', Region.wanted, hg', if_true] at hq
      obtain ⟨u, -, hn⟩ := hq
      have hQ : ∀ w', C w' → LastAt P o Q (a.put o'.dst u) w' := by
        cases fuel with
        | zero => exact hn.2
        | succ fuel => exact hn.1 (by rw [hready]; exact hnone)
      obtain ⟨f, args, hrun, hcall⟩ := hQ w hw
      rw [hdst, execOp_put (ops := ops) o hsel a o.dst u hlook] at hrun
      unfold wpOp
      simp only [ho, Region.wanted, hg, if_true]
      refine .inl ?_
      unfold Oper.wp
      rw [hrun]
      simp only [Oper.upon]
      refine hcall.mono ?_
      rintro e w'' ⟨v, rfl, hv⟩
      rw [hdst, put_put] at hv
      cases fuel with
      | zero => exact ⟨hnone, hv⟩
      | succ fuel => exact ⟨fun _ => hv, fun k hk => by rw [hnone] at hk; cases hk⟩
    · have h1 := wpOp_of_qOp (K' := wpAny P .any ops Q fuel (listed.setIfInBounds i true)) (Q' := Q) hw (fun a' w' hw' hh => ih _ a' w' (by simp [hl]) (hc.step hi) (by rw [getD_set_ne false his]; exact hu) hw' hh) hq
      unfold wpOp at h1 ⊢
      rw [heq i his, hy] at h1
      exact h1
def tameLast (l : List Oper) (o : Oper) : List Oper := l.dropLast ++ [{ o with op := .move (.const undef) }]
theorem wp_region_last {id : Nat} {Q : Exit → Act → World → Prop} {a : Act} {w : World} {l : List Oper} {o : Oper} (hm : P.follows .mixedOrders = true) (hlast : l.getLast? = some o)
    (hg : o.guard = none) (hlook : (match o.dst with | some d => !(o.looksAt l.toArray).contains d | none => true) = true) (hsel : ∀ cs b, o.op ≠ .select cs b)
    (hB : Region.lexB .any (tameLast l o).toArray = true) (hf : feeds l.toArray = true) (hb : backward l.toArray = true) (hC : C { w with drawn := w.drawn + 1 })
    (h : wpQuiet P (tameLast l o).toArray C (fun a' => ∀ w', C w' → LastAt P o Q a' w') (tameLast l o) a) : (Code.region id l.toArray true).wp P Q a w := by
  obtain ⟨l0, hl0⟩ : ∃ l0, l = l0 ++ [o] := by
    rcases List.eq_nil_or_concat l with rfl | ⟨l0, x, rfl⟩
    · simp at hlast
    · simp at hlast; subst hlast; exact ⟨l0, by simp⟩
  have ht : tameLast l o = l0 ++ [{ o with op := .move (.const undef) }] := by unfold tameLast; rw [hl0]; simp
  rw [ht] at h hB
  simp only [Region.lexB, Bool.and_eq_true] at hB
  have hq := wpAnyQ_lex (C := C) (md := .any) (P := P) hB.1 _ 0 (Array.replicate (l0 ++ [{ o with op := .move (.const undef) }]).toArray.size false) a (by simp) (by simpa using hB.2) h
  refine wp_region_any hm (wpAny_of_last (ops' := (l0 ++ [{ o with op := .move (.const undef) }]).toArray) (s := l0.length) (o := o) (o' := { o with op := .move (.const undef) }) (C := C) ?_ ?_ ?_ ?_ ?_ rfl rfl hg hg ?_ hsel hf hb _ _ _ _ ?_ ?_ ?_ hC ?_)
  · rw [hl0]; simp
  · rw [hl0]; simp
  · intro i hi
    rw [hl0]
    simp only [List.getElem?_toArray]
    rcases Nat.lt_or_ge i l0.length with h1 | h1
    · rw [List.getElem?_append_left h1, List.getElem?_append_left h1]
    · rw [List.getElem?_eq_none (by simp; omega), List.getElem?_eq_none (by simp; omega)]
  · rw [hl0]; simp
  · simp
  · intro d hd
    rw [hd] at hlook
    simpa using hlook
  · simp
  · intro i oi _ hl
    exfalso
    rcases Nat.lt_or_ge i l.toArray.size with hi | hi
    · simp at hi; simp [hi] at hl
    · simp at hi; simp [Nat.not_lt.2 hi] at hl
  · have : l0.length < l.length := by rw [hl0]; simp
    simp [this]
  · have e : l.toArray.size = (l0 ++ [{ o with op := .move (.const undef) }]).length := by rw [hl0]; simp
    have e2 : (l0 ++ [{ o with op := Op.move (.const undef) }]).toArray.size = l.toArray.size := by rw [e]; simp
    rw [e2] at hq
    rw [e, ← e]
    rw [← e] at hq
    exact hq
end
end Go.Proofs.YtkgmdbkcldojnaaGreatDoor

/-  -/
namespace Go.Proofs.YtkgmdbkcldojnaaGreatDoor
open Go.RowKit
open Go.Sort
open M
end Go.Proofs.YtkgmdbkcldojnaaGreatDoor

/-  -/
namespace Go.Proofs.YtkgmdbkcldojnaaGreatDoor
open Go.RowKit
open Go.Sort
open M
end Go.Proofs.YtkgmdbkcldojnaaGreatDoor

/-  -/
namespace Go.Proofs.YtkgmdbkcldojnaaGreatDoor
open Go.RowKit
open Go.Sort
open M
end Go.Proofs.YtkgmdbkcldojnaaGreatDoor

/-  -/
namespace Go.Proofs.YtkgmdbkcldojnaaGreatDoor
open Go.RowKit
open Go.Sort
open M
end Go.Proofs.YtkgmdbkcldojnaaGreatDoor

/-  -/
namespace Go.Proofs.YtkgmdbkcldojnaaGreatDoor
open Go.RowKit
open Go.Sort
open M
end Go.Proofs.YtkgmdbkcldojnaaGreatDoor

/-  -/
namespace Go.Proofs.YtkgmdbkcldojnaaGreatDoor
open Go.RowKit
open Go.Sort
open M
end Go.Proofs.YtkgmdbkcldojnaaGreatDoor

/-  -/
namespace Go.Proofs.YtkgmdbkcldojnaaGreatDoor
open Go.RowKit
open Go.Sort
open M
end Go.Proofs.YtkgmdbkcldojnaaGreatDoor

/-  -/
namespace Go.Proofs.YtkgmdbkcldojnaaGreatDoor.M
open Go
end Go.Proofs.YtkgmdbkcldojnaaGreatDoor.M

/-  -/
namespace Go.Proofs.YtkgmdbkcldojnaaGreatDoor
open Go.RowKit
open Go.Sort
open M
structure Nv where
  s : ByteArray
  k : Int
  p : ByteArray
  m : Int
  d : ByteArray
  n : ByteArray
  A5 : Option Addr
  n5 : Nat
  c5 : Nat
  A6 : Option Addr
  n6 : Nat
  c6 : Nat
instance : Inhabited Nv := ⟨⟨⟨#[]⟩, 0, ⟨#[]⟩, 0, ⟨#[]⟩, ⟨#[]⟩, none, 0, 0, none, 0, 0⟩⟩
def Nv.ty (x : Nv) : List Value := [.int .i64 x.k, .string x.p, .int .i64 x.m, .string x.d, .string x.n, .slice x.A5 x.n5 x.c5, .slice x.A6 x.n6 x.c6]
def Nv.enc (x : Nv) : List Value := [.string x.s, .int .i64 x.k, .string x.p, .int .i64 x.m, .string x.d, .string x.n, .slice x.A5 x.n5 x.c5, .slice x.A6 x.n6 x.c6]
abbrev Nt := Nv × Ty
def rowN (P : List Nt) : List Value := (P.map (fun x => x.1.enc)).flatten
structure NmR (lo : Nat) (P : List Nt) (n : Nat) (v : Value) (w : World) : Prop where
  len : P.length = n
  own : w.ownsRow lo 48 8 v n (rowN P)
  szs : ∀ x, x ∈ P → x.1.s.size ≤ 281474976710656
  trees : ∀ x, x ∈ P → TyAt (strike (fun b => b < lo ∨ v.ownBlock = some b) w) x.1.ty x.2
end Go.Proofs.YtkgmdbkcldojnaaGreatDoor

/-  -/
namespace Go.Proofs.YtkgmdbkcldojnaaGreatDoor
open Go.RowKit
open Go.Sort
open M
structure FdAt (S : Toks) (k : Int) (i b n : Nat) (ns : List ByteArray) (q1 tw : Bool) (b3 : Nat) (s : ByteArray) (i4 b4 i5 b5 : Nat) : Prop where
  len : ns.length = n
  is : b = 0 → q1 = S.nameOk k i
  two : b = 0 → i < S.n → tw = twice (S.T i) ns
  must : b3 = mustB (mustB (mustB b q1 2) (decide ((n : Int) < 20)) 3) (!tw) 5
  word : NameOut S (S.nameOk k i) i b3 s i4 b4
  i5e : psI b4 (S.sign i4 [58]) i4 = i5
  b5e : psB b4 (S.sign i4 [58]) = b5
theorem cell8 {w : World} {b : Nat} {v0 v1 v2 v3 v4 v5 v6 v7 : Value} {T : TypeId} {fr : Nat × Nat} (h : w.heap[b]? = some (.cells #[v0, v1, v2, v3, v4, v5, v6, v7] T fr)) : ∀ i v, ([v0, v1, v2, v3, v4, v5, v6, v7] : List Value)[i]? = some v → w.cell? ⟨b, i, none⟩ = some v := fun i v hv => by
  rw [Lib.cell_of_heap h, ← hv, ← List.getElem?_toArray]
end Go.Proofs.YtkgmdbkcldojnaaGreatDoor

/-  -/
namespace Go.Proofs.YtkgmdbkcldojnaaGreatDoor
open Go.RowKit
open Go.Sort
open M
end Go.Proofs.YtkgmdbkcldojnaaGreatDoor

/-  -/


/-  -/
namespace Go.Proofs.YtkgmdbkcldojnaaGreatDoor
open Go.RowKit
open Go.Sort
open M
end Go.Proofs.YtkgmdbkcldojnaaGreatDoor

/-  -/
namespace Go.Proofs.YtkgmdbkcldojnaaGreatDoor
open Go.RowKit
open Go.Sort
open M
structure OfI (w : World) (B g : Nat) (k : Int) (P : List Nt) (j5 j6 : Nat) (A5 : Option Addr) (c5 : Nat) (A6 : Option Addr) (c6 : Nat) (wr : World) : Prop where
  gr : w.grownBy wr (some g)
  row : ∀ i x, P[i]? = some x → ∀ q u, x.1.enc[q]? = some u → wr.cell? ⟨g, 0 + i * 8 + q, none⟩ = some u
  box : wr.heap[B]? = some (.cells #[.int .i64 k, .string ⟨#[]⟩, .int .i64 0, .string ⟨#[]⟩, .string ⟨#[]⟩, .slice A5 j5 c5, .slice A6 j6 c6] 30 (0, 0))
  res : Bx w.heap.size wr
  names : wr.ownsRow (B + 1) 9 1 (.slice A5 j5 c5) j5 ((P.take j5).map fun x => .string x.1.s)
  subs : wr.ownsRow (B + 1) 30 7 (.slice A6 j6 c6) j6 ((P.take j6).map fun x => x.1.ty).flatten
  apart : ∀ b, (Value.slice A5 j5 c5).ownBlock = some b → (Value.slice A6 j6 c6).ownBlock ≠ some b
  gB : g < w.heap.size ∧ w.heap.size < B
end Go.Proofs.YtkgmdbkcldojnaaGreatDoor

/-  -/
namespace Go.Proofs.YtkgmdbkcldojnaaGreatDoor
open Go.RowKit
open Go.Sort
open M
end Go.Proofs.YtkgmdbkcldojnaaGreatDoor

/-  -/
namespace Go.Proofs.YtkgmdbkcldojnaaGreatDoor
open Go.RowKit
open Go.Sort
open M
end Go.Proofs.YtkgmdbkcldojnaaGreatDoor

/-  -/
namespace Go.Proofs.YtkgmdbkcldojnaaGreatDoor
open Go.RowKit
open Go.Sort
open M
section
variable {P : Program}
end
theorem setRow_below {w wk : World} (h : Below w.heap.size w wk) {b : Nat} (hb : w.heap.size ≤ b) (vs : Array Value) : Below w.heap.size w (wk.setRow b vs) :=
  ⟨h.os, h.tape, h.output, by have := h.size; simpa using this, fun j hj => (setRow_other wk b j _ (by omega)).trans (h.block j hj)⟩
end Go.Proofs.YtkgmdbkcldojnaaGreatDoor

/-  -/
namespace Go.Proofs.YtkgmdbkcldojnaaGreatDoor
open Go.RowKit
open Go.Sort
open M
end Go.Proofs.YtkgmdbkcldojnaaGreatDoor

/-  -/
namespace Go.Proofs.YtkgmdbkcldojnaaGreatDoor
open Go.RowKit
open Go.Sort
open M
end Go.Proofs.YtkgmdbkcldojnaaGreatDoor

/-  -/
namespace Go.Proofs.YtkgmdbkcldojnaaGreatDoor
open Go.RowKit
open Go.Sort
open M
end Go.Proofs.YtkgmdbkcldojnaaGreatDoor

/-  -/
namespace Go.Proofs.YtkgmdbkcldojnaaGreatDoor.M
def blankC (n : Int) : Bool := n == 32 || n == 9 || n == 10
def lineC (n : Int) : Bool := !(n == 10)
def signs : List Int := [123, 125, 40, 41, 91, 93, 60, 62, 44, 58, 46, 61]
def signC (n : Int) : Bool := signs.contains n
def stop (g : Int → Bool) (l : List UInt8) (i : Nat) : Nat := i + ((l.drop i).takeWhile fun c => g (c.toNat : Int)).length
def twoC (a b : Int) : Bool := (a == 45 && b == 62) || (a == 46 && b == 46)
def item (l : List UInt8) (i : Nat) : Nat × Nat :=
  if blankC (bt l i) = true then (0, i + 1)
  else if bt l i = 35 then (0, stop lineC l (i + 1))
  else if lowC (bt l i) = true then (1, stop anyC l (i + 1))
  else if upC (bt l i) = true then (2, stop anyC l (i + 1))
  else if digC (bt l i) = true then (3, stop digC l (i + 1))
  else if twoC (bt l i) (bt l (i + 1)) = true then (4, i + 2)
  else if signC (bt l i) = true then (4, i + 1)
  else (5, i)
structure Tok where
  kind : Nat
  place : Nat
  text : ByteArray
def finN (s : ByteArray) : Nat → Nat → List Tok → List Tok × Int
  | 0, _, acc => (acc, -1)
  | n + 1, i, acc =>
    if s.size ≤ i then (acc, -1)
    else if (item s.data.toList i).1 = 5 then ([], (i : Int))
    else if (item s.data.toList i).1 = 0 then finN s n (item s.data.toList i).2 acc
    else finN s n (item s.data.toList i).2 (acc ++ [⟨(item s.data.toList i).1, i, s.extract i (item s.data.toList i).2⟩])
def fin (s : ByteArray) (i : Nat) (acc : List Tok) : List Tok × Int := finN s (s.size - i) i acc
end Go.Proofs.YtkgmdbkcldojnaaGreatDoor.M

/-  -/
namespace Go.Proofs.YtkgmdbkcldojnaaGreatDoor.M
open Go
end Go.Proofs.YtkgmdbkcldojnaaGreatDoor.M

/-  -/
namespace Go.Proofs.YtkgmdbkcldojnaaGreatDoor
open Go.RowKit
open M
end Go.Proofs.YtkgmdbkcldojnaaGreatDoor

/-  -/
namespace Go.Proofs.YtkgmdbkcldojnaaGreatDoor
open Go.RowKit
open M
end Go.Proofs.YtkgmdbkcldojnaaGreatDoor

/-  -/
namespace Go.Proofs.YtkgmdbkcldojnaaGreatDoor
open Go.RowKit
open M
end Go.Proofs.YtkgmdbkcldojnaaGreatDoor

/-  -/
namespace Go.Proofs.YtkgmdbkcldojnaaGreatDoor
open Go.RowKit
open M
end Go.Proofs.YtkgmdbkcldojnaaGreatDoor
