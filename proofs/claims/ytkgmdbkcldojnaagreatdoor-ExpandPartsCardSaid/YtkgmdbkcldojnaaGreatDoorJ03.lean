/-
  Several texts in one: The walk of the reference's major. · The walk of the reference's major. · The walk of the reference's one: a function's next type, behind so many. · What the reference's reader does at a name, and plain results of what follows: for the walk of its Type. · The code's Word: a name that is asked for, and taken. · Plain: a text is a number without noughts ahead just if it is what the number's digits are. · The code's Number, 1 being the least. · The code's reader: a cursor, and how many types have begun. The cursor's calls, as the reader makes them. · The code's local and open. · The code's list, over what read tells. · Plain: what a token begins, and what is read then. · A region that draws its order and only reads, but for its last operation, a call for which all others are waited: one walk of the text's order serves every order. Nothing of any program.
-/
import Derived.Test.YtkgmdbkcldojnaaGreatDoorJ02
import Derived.LoopTactic
import Derived.Test.YtkgmdbkcldojnaaGreatDoorJ01
import Derived.Lib.AtoiTie
import Derived.Lib.AtoiAllCases
import Derived.Lib.ItoaNum
import Derived.Lib.AtoiErrMem
import Derived.Lib.QuietBelow
import Derived.Lib.AppendIntMem
import Derived.Deep.DeepCutAuto
import Derived.Test.YtkgmdbkcldojnaaGreatDoorJ00
/- The walk of the reference's major. -/
namespace Go.Proofs.YtkgmdbkcldojnaaGreatDoor
open Go.RowKit
open Go.Sort
open M

namespace M
/-- So far the number stands, or it is none. -/
inductive Maj (l : List UInt8) (k : Nat) : Int → Bool → Prop where
  | yes (hl : 1 ≤ l.length ∧ l.length ≤ 9) (ha : ∀ j, j < k → digC (bt l j) = true) (h0 : 0 < k → 48 < bt l 0) (hb : 0 ≤ digs (l.take k) 0 ∧ digs (l.take k) 0 < (10 ^ k : Nat)) : Maj l k (digs (l.take k) 0) true
  | no (n : Int) (h : majorOk l = false) : Maj l k n false
theorem Maj.start {l : List UInt8} (hl : 1 ≤ l.length ∧ l.length ≤ 9) : Maj l 0 0 true := by
  have h := Maj.yes (l := l) (k := 0) hl (fun j hj => by omega) (fun hj => by omega) (by rw [List.take_zero]; show (0 : Int) ≤ 0 ∧ (0 : Int) < ((10 ^ 0 : Nat) : Int); decide)
  rw [List.take_zero] at h
  exact h
theorem majorOk_iff (l : List UInt8) : majorOk l = true ↔ 1 ≤ l.length ∧ l.length ≤ 9 ∧ (∀ j, j < l.length → digC (bt l j) = true) ∧ 48 < bt l 0 := by
  unfold majorOk
  simp only [Bool.and_eq_true, decide_eq_true_eq]
  rw [all_iff]
  exact ⟨fun h => ⟨h.1.1.1, h.1.1.2, h.1.2, h.2⟩, fun h => ⟨⟨⟨h.1, h.2.1⟩, h.2.2.1⟩, h.2.2.2⟩⟩
theorem Maj.all {l : List UInt8} {k : Nat} (hl : 1 ≤ l.length ∧ l.length ≤ 9) (ha : ∀ j, j < k → digC (bt l j) = true) (h0 : 0 < k → 48 < bt l 0) (hk : l.length ≤ k) : majorOk l = true :=
  (majorOk_iff l).2 ⟨hl.1, hl.2, fun j hj => ha j (by omega), h0 (by omega)⟩
end M

end Go.Proofs.YtkgmdbkcldojnaaGreatDoor

/- The walk of the reference's major. -/
namespace Go.Proofs.YtkgmdbkcldojnaaGreatDoor
open Go.RowKit
open Go.Sort
open M

end Go.Proofs.YtkgmdbkcldojnaaGreatDoor

/- The walk of the reference's one: a function's next type, behind so many. -/
namespace Go.Proofs.YtkgmdbkcldojnaaGreatDoor
open Go.RowKit
open Go.Sort
open M

def oneR (S : Toks) (f d i c n : Nat) : Res Ty := if S.begins i = true ∧ 20 ≤ n then .err 3 i else pT S f (d + 1) i c

end Go.Proofs.YtkgmdbkcldojnaaGreatDoor

/- What the reference's reader does at a name, and plain results of what follows: for the walk of its Type. -/
namespace Go.Proofs.YtkgmdbkcldojnaaGreatDoor
open Go.RowKit
open Go.Sort
open M

end Go.Proofs.YtkgmdbkcldojnaaGreatDoor

/- The code's Word: a name that is asked for, and taken. -/
namespace Go.Proofs.YtkgmdbkcldojnaaGreatDoor
open Go.RowKit
open Go.Sort
open M

theorem clone_own (s : ByteArray) (w : World) (hs : s.size ≤ 281474976710656) : Calls Tryz.prog 59 #[.string s] w fun e w' => e = .returned (.string s) ∧ Below w.heap.size w w' := by
  go_enter Tryz.func59, Tryz.ntmps59
  go_wp2_with fail
  refine (Tryz.stringslite_Clone _ _ hs).mono ?_; rintro e w1 ⟨rfl, hb1⟩
  go_wp2
  go_ret
  exact ⟨rfl, hb1⟩

/-- What a name leaves. -/
def NameOut (S : Toks) (ok : Bool) (i b : Nat) (s : ByteArray) (i' b' : Nat) : Prop :=
  (b = 0 ∧ ok = true ∧ s = S.T i ∧ i' = i + 1 ∧ b' = 0) ∨ (b = 0 ∧ ok = false ∧ i' = i ∧ b' = 2) ∨ (b ≠ 0 ∧ i' = i ∧ b' = b)

theorem NameOut.b0 {S : Toks} {ok : Bool} {i b : Nat} {s : ByteArray} {i' b' : Nat} (h : NameOut S ok i b s i' b') (h0 : b' = 0) : b = 0 := by
  rcases h with ⟨h, -⟩ | ⟨h, -⟩ | ⟨-, -, h⟩
  · exact h
  · exact h
  · omega

end Go.Proofs.YtkgmdbkcldojnaaGreatDoor

/- Plain: a text is a number without noughts ahead just if it is what the number's digits are. -/
namespace Go.Proofs.YtkgmdbkcldojnaaGreatDoor.M
open Go Go.Lib

end Go.Proofs.YtkgmdbkcldojnaaGreatDoor.M

/- The code's Number, 1 being the least. -/
namespace Go.Proofs.YtkgmdbkcldojnaaGreatDoor
open Go.RowKit
open Go.Sort
open M

/-- What a number leaves. -/
def NumOut (S : Toks) (i b : Nat) (v : Int) (i' b' : Nat) : Prop :=
  (b = 0 ∧ S.major i = true ∧ v = digs (S.T i).data.toList 0 ∧ i' = i + 1 ∧ b' = 0) ∨ (b = 0 ∧ S.major i = false ∧ i' = i ∧ b' = 2) ∨ (b ≠ 0 ∧ i' = i ∧ b' = b)
/-- What is to be held of a number so far. -/
def NumQ (S : Toks) (i b : Nat) (v : Int) (q : Bool) : Prop := b = 0 → (q && (decide (1 ≤ v) && decide (v ≤ 999999999))) = S.major i ∧ (S.major i = true → v = digs (S.T i).data.toList 0)
theorem NumQ.no {S : Toks} {i b : Nat} {v : Int} (h : b = 0 → S.major i = false) : NumQ S i b v false := fun hb => ⟨(h hb).symm, fun e => by rw [h hb] at e; cases e⟩
theorem NumQ.out {S : Toks} {i b : Nat} {v : Int} {q p : Bool} (h : NumQ S i b v q) (hp : (q && (decide (1 ≤ v) && decide (v ≤ 999999999))) = p) : NumOut S i b v (upI (mustB b p 2) i) (mustB b p 2) := by
  by_cases hb : b = 0
  · subst hb
    obtain ⟨h1, h2⟩ := h rfl
    rw [hp] at h1
    cases p with
    | true => exact .inl ⟨rfl, h1.symm, h2 h1.symm, rfl, rfl⟩
    | false => exact .inr (.inl ⟨rfl, h1.symm, rfl, rfl⟩)
  · rw [mustB_bad _ _ hb, upI_ne _ hb]
    exact .inr (.inr ⟨hb, rfl, rfl⟩)
theorem NumOut.b0 {S : Toks} {i b : Nat} {v : Int} {i' b' : Nat} (h : NumOut S i b v i' b') (h0 : b' = 0) : b = 0 := by
  rcases h with ⟨h, -⟩ | ⟨h, -⟩ | ⟨-, -, h⟩
  · exact h
  · exact h
  · omega

end Go.Proofs.YtkgmdbkcldojnaaGreatDoor

/- The code's reader: a cursor, and how many types have begun. The cursor's calls, as the reader makes them. -/
namespace Go.Proofs.YtkgmdbkcldojnaaGreatDoor
open Go.RowKit
open Go.Sort
open M

/-- Of what was there only the cursor and the reader may have turned. -/
structure KQ (q r : Nat) (w w' : World) : Prop where
  os : w'.os = w.os
  tape : w'.tape = w.tape
  output : w'.output = w.output
  size : w.heap.size ≤ w'.heap.size
  block : ∀ j, j < w.heap.size → j ≠ r → j ≠ q → w'.heap[j]? = w.heap[j]?
theorem KQ.refl (q r : Nat) (w : World) : KQ q r w w := ⟨rfl, rfl, rfl, Nat.le_refl _, fun _ _ _ _ => rfl⟩
theorem KQ.trans {q r : Nat} {a b c : World} (h : KQ q r a b) (k : KQ q r b c) : KQ q r a c :=
  ⟨k.os.trans h.os, k.tape.trans h.tape, k.output.trans h.output, Nat.le_trans h.size k.size, fun j hj h1 h2 => (k.block j (Nat.lt_of_lt_of_le hj h.size) h1 h2).trans (h.block j hj h1 h2)⟩
theorem KQ.of_below {q r : Nat} {w w' : World} (h : Below w.heap.size w w') : KQ q r w w' := ⟨h.os, h.tape, h.output, h.size, fun j hj _ _ => h.block j hj⟩
theorem KQ.below {q r m : Nat} {w w' : World} (h : KQ q r w w') (hq : m ≤ q) (hr : m ≤ r) (hm : m ≤ w.heap.size) : Below m w w' := ⟨h.os, h.tape, h.output, h.size, fun j hj => h.block j (by omega) (by omega) (by omega)⟩
theorem KQ.put {q r : Nat} {w w' : World} (h : KQ q r w w') (i : Nat) (v : Value) : KQ q r w (w'.setCell ⟨r, i, none⟩ v) :=
  ⟨h.os, h.tape, h.output, by have := h.size; simpa using this, fun j hj h1 h2 => by
    rw [Below.heap_setCell _ _ _ _ (by show j ≠ r; exact h1)]
    exact h.block j hj h1 h2⟩
theorem KQ.alloc {q r : Nat} {w w' : World} (h : KQ q r w w') (o : Obj) : KQ q r w (w'.alloc o) := h.trans (KQ.of_below (below_new (Below.refl _ _) o))
theorem KQ.blk {q r : Nat} {a b : World} (h : KQ q r a b) {j : Nat} (hj : j < a.heap.size) (hne : j ≠ r ∧ j ≠ q) : b.heap[j]? = a.heap[j]? := h.block j hj hne.1 hne.2
theorem KQ.grow {q r : Nat} {w a b : World} {ob : Option Nat} (h : KQ q r w a) (g : a.grownBy b ob) (ho : ∀ k, ob = some k → w.heap.size ≤ k) : KQ q r w b :=
  ⟨g.os.trans h.os, g.tape.trans h.tape, g.output.trans h.output, Nat.le_trans h.size g.size, fun j hj h1 h2 => (g.block j (Nat.lt_of_lt_of_le hj h.size) (fun e => by have := ho j e.symm; omega)).trans (h.block j hj h1 h2)⟩

/-- What every call of the code's reader stands on. -/
structure RCtx (W : World) (q r : Nat) (A : Option Addr) (S : Toks) (w : World) : Prop where
  cur : CdCtx W q A S w
  ler : W.heap.size ≤ r
theorem RCtx.on {W : World} {q r : Nat} {A : Option Addr} {S : Toks} {w w' : World} (h : RCtx W q r A S w) (hk : KQ q r w w') : RCtx W q r A S w' :=
  ⟨⟨h.cur.toks, h.cur.below.trans (hk.below h.cur.le h.ler h.cur.below.size), h.cur.le, h.cur.big, h.cur.small⟩, h.ler⟩

end Go.Proofs.YtkgmdbkcldojnaaGreatDoor

/- The code's local and open. -/
namespace Go.Proofs.YtkgmdbkcldojnaaGreatDoor
open Go.RowKit
open Go.Sort
open M

/-- The result's box, as it is made. -/
def Bx (b : Nat) (w : World) : Prop := w.heap[b]? = some (.cells #[.int .i64 0, .string ⟨#[]⟩, .int .i64 0, .string ⟨#[]⟩, .string ⟨#[]⟩, .slice none 0 0, .slice none 0 0] 30 (0, 0))

end Go.Proofs.YtkgmdbkcldojnaaGreatDoor

/- The code's list, over what read tells. -/
namespace Go.Proofs.YtkgmdbkcldojnaaGreatDoor
open Go.RowKit
open Go.Sort
open M

end Go.Proofs.YtkgmdbkcldojnaaGreatDoor

/- Plain: what a token begins, and what is read then. -/
namespace Go.Proofs.YtkgmdbkcldojnaaGreatDoor
open Go.RowKit
open Go.Sort
open M

end Go.Proofs.YtkgmdbkcldojnaaGreatDoor

/- A region that draws its order and only reads, but for its last operation, a call for which all others are waited: one walk of the text's order serves every order. Nothing of any program. -/
namespace Go.Proofs.YtkgmdbkcldojnaaGreatDoor
open Go Go.Sort Go.RowKit

/-- Each operation but the last is waited for by a later one. -/
def feeds (ops : Array Oper) : Bool := (List.range (ops.size - 1)).all fun i => (List.range ops.size).any fun j => decide (i < j) && ((ops[j]?).map fun o => o.after.any fun e => Region.binds .any e && (e.on == i)).getD false
/-- None waits for a later one. -/
def backward (ops : Array Oper) : Bool := (List.range ops.size).all fun i => ((ops[i]?).map fun o => o.after.all fun e => !Region.binds .any e || decide (e.on < i)).getD true
/-- What has come up has come up behind what it waits for. -/
def Closed (ops : Array Oper) (listed : Array Bool) : Prop := ∀ i o, ops[i]? = some o → listed.getD i false = true → ∀ e ∈ o.after, Region.binds .any e = true → listed.getD e.on false = true

section
variable {P : Program} {ops ops' : Array Oper} {C : World → Prop}

theorem Closed.step {listed : Array Bool} {i : Nat} (h : Closed ops listed) (hi : i ∈ Region.ready .any ops listed) : Closed ops (listed.setIfInBounds i true) := by
  obtain ⟨-, o, ho, hall⟩ := mem_ready.1 hi
  intro j oj hj hl e he hb
  by_cases hij : i = j
  · subst hij
    rw [ho] at hj; obtain rfl := Option.some.inj hj
    exact getD_set_true (hall e he hb)
  · rw [getD_set_ne false hij] at hl
    exact getD_set_true (h j oj hj hl e he hb)

theorem inBounds {listed : Array Bool} {i : Nat} (h : i < listed.size) (b : Bool) : listed.getD i b = listed.getD i false := by
  simp [h]

theorem ready_some {listed : Array Bool} (hsz : listed.size = ops.size) (hb : backward ops = true) : ∀ (m i : Nat), i < m → i < ops.size → listed.getD i false = false → ∃ j, j ∈ Region.ready .any ops listed
  | 0, i, hm, _, _ => by omega
  | m + 1, i, hm, hi, hu => by
    obtain ⟨o, ho⟩ : ∃ o, ops[i]? = some o := ⟨_, Array.getElem?_eq_getElem hi⟩
    by_cases hall : ∀ e ∈ o.after, Region.binds .any e = true → listed.getD e.on false = true
    · exact ⟨i, mem_ready.2 ⟨by rw [inBounds (by omega)]; exact hu, o, ho, hall⟩⟩
    · simp only [Classical.not_forall] at hall
      obtain ⟨e, he, hbe, hne⟩ := hall
      have h1 := (List.all_eq_true.1 hb) i (List.mem_range.2 hi)
      rw [ho] at h1
      simp only [Option.map_some, Option.getD_some] at h1
      have h2 := (Array.all_eq_true_iff_forall_mem.1 h1) e he
      rw [hbe] at h2
      simp only [Bool.not_true, Bool.false_or, decide_eq_true_eq] at h2
      exact ready_some hsz hb m e.on (by omega) (by omega) (by simpa using hne)

theorem last_ready {listed : Array Bool} {s : Nat} (hs : s + 1 = ops.size) (hf : feeds ops = true) (hc : Closed ops listed) (hr : s ∈ Region.ready .any ops listed) : ∀ (m i : Nat), s - i < m → i < s → listed.getD i false = true
  | 0, i, hm, _ => by omega
  | m + 1, i, hm, hi => by
    have h1 := (List.all_eq_true.1 hf) i (List.mem_range.2 (by omega))
    obtain ⟨j, hj, h2⟩ := List.any_eq_true.1 h1
    simp only [Bool.and_eq_true, decide_eq_true_eq] at h2
    have hjs := List.mem_range.1 hj
    obtain ⟨o, ho⟩ : ∃ o, ops[j]? = some o := ⟨_, Array.getElem?_eq_getElem hjs⟩
    obtain ⟨hij, h3⟩ := h2
    rw [ho] at h3
    simp only [Option.map_some, Option.getD_some] at h3
    obtain ⟨e, he, h4⟩ := Array.any_eq_true'.1 h3
    simp only [Bool.and_eq_true, beq_iff_eq] at h4
    obtain ⟨hb, rfl⟩ := h4
    by_cases hjs' : j = s
    · subst hjs'
      obtain ⟨-, o', ho', hall⟩ := mem_ready.1 hr
      rw [ho] at ho'; obtain rfl := Option.some.inj ho'
      exact hall e he hb
    · exact hc j o ho (last_ready hs hf hc hr m j (by omega) (by omega)) e he hb

theorem put_put (a : Act) (d : Option Tmp) (u v : Value) : (a.put d u).put d v = a.put d v := by
  cases d with
  | none => rfl
  | some d => simp [Act.put]

/-- What is asked of the last operation, in the frame that the others have left. -/
def LastAt (P : Program) (o : Oper) (Q : Exit → Act → World → Prop) (a : Act) (w : World) : Prop :=
  ∃ f args, (execOp a.eval o).run P w = .ok (.enter f args) w ∧ Calls P f args w (fun e w'' => ∃ v, e = .returned v ∧ Q .normal (a.put o.dst v) w'')

theorem wpAny_of_last {s : Nat} {o o' : Oper} (hsz : ops'.size = ops.size) (hs : s + 1 = ops.size) (heq : ∀ i, i ≠ s → ops'[i]? = ops[i]?) (ho : ops[s]? = some o) (ho' : ops'[s]? = some o')
    (haf : o'.after = o.after) (hdst : o'.dst = o.dst) (hg : o.guard = none) (hg' : o'.guard = none) (hlook : ∀ d, o.dst = some d → d ∉ o.looksAt ops) (hsel : ∀ cs b, o.op ≠ .select cs b)
    (hf : feeds ops = true) (hb : backward ops = true) {Q : Exit → Act → World → Prop} :
    ∀ (fuel : Nat) (listed : Array Bool) (a : Act) (w : World), listed.size = ops.size → Closed ops listed → listed.getD s false = false → C w →
      wpAnyQ P .any ops' C (fun a' => ∀ w', C w' → LastAt P o Q a' w') fuel listed a → wpAny P .any ops Q fuel listed a w := by
  have hy : ∀ t, yielded ops' t = yielded ops t := by
    intro t; funext j
    unfold yielded
    by_cases hj : j = s
    · subst hj; rw [ho, ho']; simp [hdst]
    · rw [heq j hj]
  have hready : ∀ listed, Region.ready .any ops' listed = Region.ready .any ops listed := by
    intro listed
    unfold Region.ready
    rw [hsz]
    congr 1; funext i
    by_cases hi : i = s
    · subst hi; rw [ho, ho']; simp [haf]
    · rw [heq i hi]
  intro fuel
  induction fuel with
  | zero =>
    intro listed a w hl hc hu hw h
    obtain ⟨j, hj⟩ := ready_some hl hb (s + 1) s (by omega) (by omega) hu
    rw [← hready, h.1] at hj; cases hj
  | succ fuel ih =>
    intro listed a w hl hc hu hw h
    obtain ⟨j, hj⟩ := ready_some hl hb (s + 1) s (by omega) (by omega) hu
    refine ⟨fun h0 => absurd hj (by rw [h0]; exact List.not_mem_nil), fun i hi => ?_⟩
    have hq := h.2 i (by rw [hready]; exact hi)
    by_cases his : i = s
    · subst his
      have hall := last_ready hs hf hc hi
      have hnone : Region.ready .any ops (listed.setIfInBounds i true) = [] := by
        rw [List.eq_nil_iff_forall_not_mem]
        intro k hk
        obtain ⟨h1, ok, hok, -⟩ := mem_ready.1 hk
        have hks := (Array.getElem?_eq_some_iff.1 hok).1
        by_cases hki : k = i
        · subst hki
          simp [hl, hks] at h1
        · rw [getD_set_ne true (Ne.symm hki), inBounds (by omega), hall (i + 1) k (by omega) (by omega)] at h1
          cases h1
      unfold qOp at hq
      simp only [ho', Region.wanted, hg', if_true] at hq
      obtain ⟨u, -, hn⟩ := hq
      have hQ : ∀ w', C w' → LastAt P o Q (a.put o'.dst u) w' := by
        cases fuel with
        | zero => exact hn.2
        | succ fuel => exact hn.1 (by rw [hready]; exact hnone)
      obtain ⟨f, args, hrun, hcall⟩ := hQ w hw
      rw [hdst, execOp_put (ops := ops) o hsel a o.dst u hlook] at hrun
      unfold wpOp
      simp only [ho, Region.wanted, hg, if_true]
      refine .inl ?_
      unfold Oper.wp
      rw [hrun]
      simp only [Oper.upon]
      refine hcall.mono ?_
      rintro e w'' ⟨v, rfl, hv⟩
      rw [hdst, put_put] at hv
      cases fuel with
      | zero => exact ⟨hnone, hv⟩
      | succ fuel => exact ⟨fun _ => hv, fun k hk => by rw [hnone] at hk; cases hk⟩
    · have h1 := wpOp_of_qOp (K' := wpAny P .any ops Q fuel (listed.setIfInBounds i true)) (Q' := Q) hw (fun a' w' hw' hh => ih _ a' w' (by simp [hl]) (hc.step hi) (by rw [getD_set_ne false his]; exact hu) hw' hh) hq
      unfold wpOp at h1 ⊢
      rw [heq i his, hy] at h1
      exact h1

/-- The region with its last operation made a plain move. -/
def tameLast (l : List Oper) (o : Oper) : List Oper := l.dropLast ++ [{ o with op := .move (.const undef) }]
theorem wp_region_last {id : Nat} {Q : Exit → Act → World → Prop} {a : Act} {w : World} {l : List Oper} {o : Oper} (hm : P.follows .mixedOrders = true) (hlast : l.getLast? = some o)
    (hg : o.guard = none) (hlook : (match o.dst with | some d => !(o.looksAt l.toArray).contains d | none => true) = true) (hsel : ∀ cs b, o.op ≠ .select cs b)
    (hB : Region.lexB .any (tameLast l o).toArray = true) (hf : feeds l.toArray = true) (hb : backward l.toArray = true) (hC : C { w with drawn := w.drawn + 1 })
    (h : wpQuiet P (tameLast l o).toArray C (fun a' => ∀ w', C w' → LastAt P o Q a' w') (tameLast l o) a) : (Code.region id l.toArray true).wp P Q a w := by
  obtain ⟨l0, hl0⟩ : ∃ l0, l = l0 ++ [o] := by
    rcases List.eq_nil_or_concat l with rfl | ⟨l0, x, rfl⟩
    · simp at hlast
    · simp at hlast; subst hlast; exact ⟨l0, by simp⟩
  have ht : tameLast l o = l0 ++ [{ o with op := .move (.const undef) }] := by unfold tameLast; rw [hl0]; simp
  rw [ht] at h hB
  simp only [Region.lexB, Bool.and_eq_true] at hB
  have hq := wpAnyQ_lex (C := C) (md := .any) (P := P) hB.1 _ 0 (Array.replicate (l0 ++ [{ o with op := .move (.const undef) }]).toArray.size false) a (by simp) (by simpa using hB.2) h
  refine wp_region_any hm (wpAny_of_last (ops' := (l0 ++ [{ o with op := .move (.const undef) }]).toArray) (s := l0.length) (o := o) (o' := { o with op := .move (.const undef) }) (C := C) ?_ ?_ ?_ ?_ ?_ rfl rfl hg hg ?_ hsel hf hb _ _ _ _ ?_ ?_ ?_ hC ?_)
  · rw [hl0]; simp
  · rw [hl0]; simp
  · intro i hi
    rw [hl0]
    simp only [List.getElem?_toArray]
    rcases Nat.lt_or_ge i l0.length with h1 | h1
    · rw [List.getElem?_append_left h1, List.getElem?_append_left h1]
    · rw [List.getElem?_eq_none (by simp; omega), List.getElem?_eq_none (by simp; omega)]
  · rw [hl0]; simp
  · simp
  · intro d hd
    rw [hd] at hlook
    simpa using hlook
  · simp
  · intro i oi _ hl
    exfalso
    rcases Nat.lt_or_ge i l.toArray.size with hi | hi
    · simp at hi; simp [hi] at hl
    · simp at hi; simp [Nat.not_lt.2 hi] at hl
  · have : l0.length < l.length := by rw [hl0]; simp
    simp [this]
  · have e : l.toArray.size = (l0 ++ [{ o with op := .move (.const undef) }]).length := by rw [hl0]; simp
    have e2 : (l0 ++ [{ o with op := Op.move (.const undef) }]).toArray.size = l.toArray.size := by rw [e]; simp
    rw [e2] at hq
    rw [e, ← e]
    rw [← e] at hq
    exact hq
end
end Go.Proofs.YtkgmdbkcldojnaaGreatDoor
