/-
  Several texts in one: Rows of structs in new memory, while they grow, whatever their elements are; an import's cells, a declaration's. · The code's imports: one, and all that stand there. · The code's imports, all that stand there. · The code's declaration.
-/
import Derived.Test.YtpfoclpgcbjjoaaGreatDoorJ14
import Derived.Test.YtpfoclpgcbjjoaaGreatDoorJ08
/- Rows of structs in new memory, while they grow, whatever their elements are; an import's cells, a declaration's. -/
namespace Go.Proofs.YtpfoclpgcbjjoaaGreatDoor
open Go.RowKit
open Go.Sort
open M

/-- How cells read as something; what that rests on lies in blocks that aren't struck out. -/
structure Reads (α : Type) where
  k : Nat
  T : TypeId
  E : World → List Value → α → Prop
  move : ∀ (S S' : Nat → Prop) (w w' : World) (l : List Value) (x : α), E (strike S w) l x → w.heap.size ≤ w'.heap.size → (∀ b, b < w.heap.size → ¬ S b → ¬ S' b ∧ w'.heap[b]? = w.heap[b]?) → E (strike S' w') l x
  keep : ∀ (w w' : World) (l : List Value) (x : α), E w l x → Below w.heap.size w w' → E w' l x
  free : ∀ (S : Nat → Prop) (w : World) (l : List Value) (x : α), E (strike S w) l x → E w l x
  len : ∀ (w : World) (l : List Value) (x : α), E w l x → l.length = k

/-- A slice that holds these. -/
def RowIn {α : Type} (R : Reads α) (w : World) (A : Option Addr) (xs : List α) : Prop :=
  ∀ i x, xs[i]? = some x → ∃ (g o : Nat) (l : List Value), A = some ⟨g, o, none⟩ ∧ g < w.heap.size ∧ (∀ j v, l[j]? = some v → w.cell? ⟨g, o + i * R.k + j, none⟩ = some v) ∧ R.E w l x
theorem RowIn.below {α : Type} {R : Reads α} {w w' : World} {A : Option Addr} {xs : List α} (h : RowIn R w A xs) (hb : Below w.heap.size w w') : RowIn R w' A xs := fun i x hx => by
  obtain ⟨g, o, l, hA, hg, hc, hE⟩ := h i x hx
  exact ⟨g, o, l, hA, Nat.lt_of_lt_of_le hg hb.size, fun j v hv => (hb.cell (p := ⟨g, _, none⟩) hg).trans (hc j v hv), R.keep _ _ _ _ hE hb⟩

/-- Some that grow, in a block of their own, from 'lo' on. -/
structure Row {α : Type} (R : Reads α) (lo : Nat) (xs : List α) (A : Option Addr) (c : Nat) (w : World) : Prop where
  cells : ∃ C : List (List Value), C.length = xs.length ∧ w.ownsRow lo R.T R.k (.slice A xs.length c) xs.length C.flatten ∧
    ∀ (i : Nat) (l : List Value) (x : α), C[i]? = some l → xs[i]? = some x → R.E (strike (fun b => b < lo ∨ (Value.slice A xs.length c).ownBlock = some b) w) l x
theorem Row.start {α : Type} (R : Reads α) (lo : Nat) (w : World) : Row R lo [] none 0 w := ⟨[], rfl, World.ownsRow_nil _ _ _ _, fun i l x h => by simp at h⟩
theorem Row.keep {α : Type} {R : Reads α} {lo : Nat} {xs : List α} {A : Option Addr} {c : Nat} {w w' : World} (h : Row R lo xs A c w) (hz : w.heap.size ≤ w'.heap.size) (hb : ∀ b, lo ≤ b → b < w.heap.size → w'.heap[b]? = w.heap[b]?) : Row R lo xs A c w' := by
  obtain ⟨C, h1, h3, h4⟩ := h.cells
  exact ⟨C, h1, own_from h3 hb, fun i l x hl hx => R.move _ _ _ _ _ _ (h4 i l x hl hx) hz fun b hlt hS => ⟨hS, hb b (by
    rcases Nat.lt_or_ge b lo with h | h
    · exact absurd (.inl h) hS
    · exact h) hlt⟩⟩
theorem Row.lt {α : Type} {R : Reads α} {lo : Nat} {xs : List α} {A : Option Addr} {c : Nat} {w : World} (h : Row R lo xs A c w) {b : Nat} (e : (Value.slice A xs.length c).ownBlock = some b) : lo ≤ b ∧ b < w.heap.size := by
  obtain ⟨C, h1, h3, h4⟩ := h.cells
  exact h3.lt b e
/-- One more. -/
theorem Row.more {α : Type} {R : Reads α} {lo g cap c : Nat} {xs : List α} {A : Option Addr} {B : Nat} {w1 w3 : World} {o : Obj} {l : List Value} {x : α} {C : List (List Value)}
    (h : Row R lo xs A c w1) (hlo : lo ≤ B) (hwo : ∀ b, (Value.slice A xs.length c).ownBlock = some b → b < B)
    (hC1 : C.length = xs.length) (hC4 : ∀ (i : Nat) (l : List Value) (x : α), C[i]? = some l → xs[i]? = some x → R.E (strike (fun b => b < lo ∨ (Value.slice A xs.length c).ownBlock = some b) w1) l x)
    (hE : R.E (strike (· < B) w1) l x) (hown : w3.ownsRow lo R.T R.k (.slice (some ⟨g, 0, none⟩) (xs.length + 1) cap) (xs.length + 1) (C.flatten ++ l)) (hgrow : (w1.alloc o).grownBy w3 (Value.slice A xs.length c).ownBlock)
    (hat : (Value.slice A xs.length c).ownBlock = some g ∨ g = (w1.alloc o).heap.size) :
    Row R lo (xs ++ [x]) (some ⟨g, 0, none⟩) cap w3 ∧ (∀ b, (Value.slice A xs.length c).ownBlock ≠ some b → b < w1.heap.size → w3.heap[b]? = w1.heap[b]?) ∧ w1.heap.size ≤ w3.heap.size := by
  have hsz : (w1.alloc o).heap.size = w1.heap.size + 1 := by simp
  have hsz3 := hgrow.size
  have hold : ∀ b, b < w1.heap.size → (Value.slice A xs.length c).ownBlock ≠ some b → w3.heap[b]? = w1.heap[b]? := fun b hb hne => by
    rw [hgrow.block b (by omega) (fun e => hne e.symm)]
    exact Lib.alloc_old w1 o b hb
  have mv : ∀ l x, R.E (strike (fun b => b < lo ∨ (Value.slice A xs.length c).ownBlock = some b) w1) l x → R.E (strike (fun b => b < lo ∨ (Value.slice (some ⟨g, 0, none⟩) (xs ++ [x]).length cap).ownBlock = some b) w3) l x := fun l x hT => by
    refine R.move _ _ _ _ _ _ hT (by omega) fun b hb hS => ⟨?_, hold b hb (fun e => hS (.inr e))⟩
    rintro (e | e)
    · exact hS (.inl e)
    · simp [Value.ownBlock] at e
      subst e
      rcases hat with e | e
      · exact hS (.inr e)
      · omega
  have hT : R.E (strike (fun b => b < lo ∨ (Value.slice A xs.length c).ownBlock = some b) w1) l x := R.move _ _ _ _ _ _ hE (Nat.le_refl _) fun b hlt hS => ⟨by
    rintro (e | e)
    · omega
    · have := hwo b e; omega, rfl⟩
  refine ⟨⟨C ++ [l], by simp [hC1], ?_, fun i y u hy hu => ?_⟩, fun b hb hlt => hold b hlt hb, by omega⟩
  · rw [List.length_append]
    simpa using hown
  · rcases Nat.lt_or_ge i xs.length with hi | hi
    · rw [List.getElem?_append_left (by omega)] at hy hu
      have := mv y u (hC4 i y u hy hu)
      simpa [Value.ownBlock] using this
    · have hi' := (List.getElem?_eq_some_iff.1 hy).1
      have : i = xs.length := by simp [hC1] at hi'; omega
      subst this
      rw [List.getElem?_append_right (by omega)] at hy hu
      simp [hC1] at hy
      simp at hu
      rw [← hy, ← hu]
      have := mv l x hT
      simpa [Value.ownBlock] using this
theorem flatk_at {k : Nat} : ∀ (C : List (List Value)), (∀ l, l ∈ C → l.length = k) → ∀ (i q : Nat) (l : List Value), C[i]? = some l → q < k → C.flatten[i * k + q]? = l[q]?
  | [], _, i, q, l, h, _ => by simp at h
  | a :: r, hC, i, q, l, h, hq => by
    have ha : a.length = k := hC a List.mem_cons_self
    rw [List.flatten_cons]
    cases i with
    | zero =>
      simp at h; subst h
      rw [List.getElem?_append_left (by omega)]
      congr 1; omega
    | succ i =>
      rw [List.getElem?_append_right (by rw [ha, Nat.succ_mul]; omega), ha, show (i + 1) * k + q - k = i * k + q by rw [Nat.succ_mul]; omega]
      exact flatk_at r (fun l hl => hC l (List.mem_cons_of_mem _ hl)) i q l (by simpa using h) hq
/-- At the end: a slice that holds them, in new memory alone. -/
theorem Row.done {α : Type} {R : Reads α} {lo : Nat} {xs : List α} {A : Option Addr} {c m : Nat} {w : World} (h : Row R lo xs A c w) (hm : m ≤ lo) : RowIn R (strike (· < m) w) A xs := by
  intro i x hx
  obtain ⟨C, h1, h3, h4⟩ := h.cells
  have hi := (List.getElem?_eq_some_iff.1 hx).1
  have hl : C[i]? = some C[i] := List.getElem?_eq_getElem (by omega)
  have hall : ∀ l, l ∈ C → l.length = R.k := fun l hl => by
    obtain ⟨j, hj⟩ := List.mem_iff_getElem?.1 hl
    have hj' := (List.getElem?_eq_some_iff.1 hj).1
    exact R.len _ _ _ (h4 j l xs[j] hj (List.getElem?_eq_getElem (by omega)))
  have hE := h4 i _ x hl hx
  rcases h3.2 with ⟨e, -⟩ | ⟨g, cap, cur, hv, hB, hg, -, -, hcl, htake⟩
  · cases A with
    | none => simp at e; simp [e.1] at hi
    | some a => simp at e
  · simp at hv
    obtain ⟨rfl, -⟩ := hv
    refine ⟨g, 0, C[i], rfl, ?_, fun j v hv => strike_cell.2 ⟨by omega, ?_⟩, R.move _ _ _ _ _ _ hE (Nat.le_refl _) fun b hlt hS => ⟨fun e => hS (.inl (by omega)), rfl⟩⟩
    · rw [strike_size]; exact (Array.getElem?_eq_some_iff.1 hg).1
    · have hj := (List.getElem?_eq_some_iff.1 hv).1
      rw [hall _ (List.getElem_mem (by omega))] at hj
      have hf := flatk_at C hall i j _ hl hj
      rw [Lib.cell_of_heap hg, ← Array.getElem?_toList]
      have e2 : (cur.toList.take (xs.length * R.k))[i * R.k + j]? = C[i][j]? := by rw [htake, hf]
      rw [List.getElem?_take] at e2
      split at e2
      · rw [show 0 + i * R.k + j = i * R.k + j by omega, e2]; exact hv
      · rename_i hn
        have : (i + 1) * R.k ≤ xs.length * R.k := Nat.mul_le_mul_right _ hi
        rw [Nat.succ_mul] at this
        omega

/-- An import's cells. -/
def imL (x : Im) : List Value := [.string x.pkg, .int .i64 x.major, .string x.mod, .string x.asn]
def imE (_ : World) (l : List Value) (x : Im) : Prop := l = imL x ∧ x.pkg.size ≤ 9223372036854775807 ∧ x.mod.size ≤ 9223372036854775807 ∧ x.asn.size ≤ 9223372036854775807
def imR : Reads Im := ⟨4, 67, imE, fun _ _ _ _ _ _ h _ _ => h, fun _ _ _ _ h _ => h, fun _ _ _ _ h => h, fun _ l x h => by rw [h.1]; rfl⟩
/-- A declaration's cells. -/
def deE (w : World) (l : List Value) (d : De) : Prop := d.name.size ≤ 9223372036854775807 ∧ ∃ l7 : List Value, l = .int .i64 d.kind :: .string d.name :: l7 ∧ TyAt w l7 d.typ
theorem TyAt.len {w : World} {l : List Value} {t : Ty} (h : TyAt w l t) : l.length = 7 := by
  obtain ⟨_, _, _, _, rfl, -⟩ := h.parts
  rfl
def deR : Reads De := ⟨9, 52, deE, fun _ _ _ _ _ _ ⟨hs, l7, e, h⟩ hz hb => ⟨hs, l7, e, h.move hz hb⟩, fun _ _ _ _ ⟨hs, l7, e, h⟩ hb => ⟨hs, l7, e, h.keep hb⟩, fun _ _ _ _ ⟨hs, l7, e, h⟩ => ⟨hs, l7, e, h.free⟩, fun _ l x ⟨_, l7, e, h⟩ => by rw [e]; simp [h.len]⟩
/-- A module's cells. -/
def MoAt (w : World) (l : List Value) (m : Mo) : Prop :=
  ∃ (Ai : Option Addr) (ci : Nat) (Ad : Option Addr) (cd : Nat), l = [.string m.name, .slice Ai m.imps.length ci, .slice Ad m.decs.length cd] ∧ m.name.size ≤ 9223372036854775807 ∧ m.imps.length ≤ 9223372036854775807 ∧ m.decs.length ≤ 9223372036854775807 ∧ RowIn imR w Ai m.imps ∧ RowIn deR w Ad m.decs
theorem MoAt.below {w w' : World} {l : List Value} {m : Mo} (h : MoAt w l m) (hb : Below w.heap.size w w') : MoAt w' l m := by
  obtain ⟨Ai, ci, Ad, cd, e, h1, h2, h3, h4, h5⟩ := h
  exact ⟨Ai, ci, Ad, cd, e, h1, h2, h3, h4.below hb, h5.below hb⟩
theorem RowIn.move {α : Type} {R : Reads α} {S S' : Nat → Prop} {w w' : World} {A : Option Addr} {xs : List α} (h : RowIn R (strike S w) A xs) (hz : w.heap.size ≤ w'.heap.size) (hb : ∀ b, b < w.heap.size → ¬ S b → ¬ S' b ∧ w'.heap[b]? = w.heap[b]?) : RowIn R (strike S' w') A xs := fun i x hx => by
  obtain ⟨g, o, l, hA, hg, hc, hE⟩ := h i x hx
  refine ⟨g, o, l, hA, by rw [strike_size] at hg ⊢; omega, fun j v hv => ?_, R.move _ _ _ _ _ _ hE hz hb⟩
  obtain ⟨h1, h2⟩ := strike_cell.1 (hc j v hv)
  obtain ⟨h3, h4⟩ := hb g (World.block_lt_of_cell? _ _ h2) h1
  exact strike_cell.2 ⟨h3, by rw [World.cell?_of_block (w := w) (a := ⟨g, _, none⟩) h4]; exact h2⟩
theorem RowIn.free {α : Type} {R : Reads α} {S : Nat → Prop} {w : World} {A : Option Addr} {xs : List α} (h : RowIn R (strike S w) A xs) : RowIn R w A xs := fun i x hx => by
  obtain ⟨g, o, l, hA, hg, hc, hE⟩ := h i x hx
  exact ⟨g, o, l, hA, by rw [strike_size] at hg; exact hg, fun j v hv => (strike_cell.1 (hc j v hv)).2, R.free _ _ _ _ hE⟩
theorem MoAt.move {S S' : Nat → Prop} {w w' : World} {l : List Value} {m : Mo} (h : MoAt (strike S w) l m) (hz : w.heap.size ≤ w'.heap.size) (hb : ∀ b, b < w.heap.size → ¬ S b → ¬ S' b ∧ w'.heap[b]? = w.heap[b]?) : MoAt (strike S' w') l m := by
  obtain ⟨Ai, ci, Ad, cd, e, h1, h2, h3, h4, h5⟩ := h
  exact ⟨Ai, ci, Ad, cd, e, h1, h2, h3, h4.move hz hb, h5.move hz hb⟩
theorem MoAt.free {S : Nat → Prop} {w : World} {l : List Value} {m : Mo} (h : MoAt (strike S w) l m) : MoAt w l m := by
  obtain ⟨Ai, ci, Ad, cd, e, h1, h2, h3, h4, h5⟩ := h
  exact ⟨Ai, ci, Ad, cd, e, h1, h2, h3, h4.free, h5.free⟩

end Go.Proofs.YtpfoclpgcbjjoaaGreatDoor

/- The code's imports: one, and all that stand there. -/
namespace Go.Proofs.YtpfoclpgcbjjoaaGreatDoor
open Go.RowKit
open Go.Sort
open M

theorem impSize : (Tryz.prog.info? 67).map (·.size) = some 4 := by kernel_rfl
theorem impOne {a c d : ByteArray} {b : Int} : (#[.string a, .int .i64 b, .string c, .string d] : Array Value).all (·.oneCell') = true := Array.all_eq_true_iff_forall_mem.2 (fun v hv => by simp at hv; rcases hv with rfl | rfl | rfl | rfl <;> rfl)
theorem imp_info : (Tryz.prog.info? 67).map (fun i => (i.zero, i.size, i.bytes)) = some (some (.agg #[.string ⟨#[]⟩, .int .i64 0, .string ⟨#[]⟩, .string ⟨#[]⟩]), 4, 56) := by kernel_rfl
theorem cell4 {w : World} {b : Nat} {v0 v1 v2 v3 : Value} {T : TypeId} {fr : Nat × Nat} (h : w.heap[b]? = some (.cells #[v0, v1, v2, v3] T fr)) : ∀ i v, ([v0, v1, v2, v3] : List Value)[i]? = some v → w.cell? ⟨b, i, none⟩ = some v := fun i v hv => by
  rw [Lib.cell_of_heap h, ← hv, ← List.getElem?_toArray]

theorem imp_chain {S : Toks} {i b : Nat} {s1 s3 s5 : ByteArray} {v : Int} {i1 b1 i2 b2 i3 b3 i5 b5 : Nat}
    (h1 : NameOut S (decide (i < S.n) && smallK (S.K i) (S.T i)) i b s1 i1 b1) (h2 : NumOut S i1 b1 v i2 b2) (h3 : NameOut S (decide (i2 < S.n) && smallK (S.K i2) (S.T i2)) i2 b2 s3 i3 b3)
    (h5 : NameOut S (decide (psI b3 (keyS S i3 kAs) i3 < S.n) && smallK (S.K (psI b3 (keyS S i3 kAs) i3)) (S.T (psI b3 (keyS S i3 kAs) i3))) (psI b3 (keyS S i3 kAs) i3) (psB b3 (keyS S i3 kAs)) s5 i5 b5) :
    badR b5 i5 (.ok (⟨s1, v, s3, s5⟩ : Im) i5 0) = badR b i (impR S i) := by
  have a := nameOut_res h5 (fun s i => Res.ok (⟨s1, v, s3, s⟩ : Im) i 0)
  rw [small_k] at a
  have d := sign_res (keyS S i3 kAs) b3 i3 (fun j => if S.small j = false then Res.err 2 j else .ok (⟨s1, v, s3, S.T j⟩ : Im) (j + 1) 0)
  have e := nameOut_res h3 (fun s j => if keyS S j kAs = false then Res.err 2 j else if S.small (j + 1) = false then .err 2 (j + 1) else .ok (⟨s1, v, s, S.T (j + 1)⟩ : Im) (j + 1 + 1) 0)
  rw [small_k] at e
  have f := numOut_res h2 (fun v j => if S.small j = false then Res.err 2 j else if keyS S (j + 1) kAs = false then Res.err 2 (j + 1) else if S.small (j + 1 + 1) = false then .err 2 (j + 1 + 1) else .ok (⟨s1, v, S.T j, S.T (j + 1 + 1)⟩ : Im) (j + 1 + 1 + 1) 0)
  have g := nameOut_res h1 (fun s j => if S.major j = false then Res.err 2 j else if S.small (j + 1) = false then Res.err 2 (j + 1) else if keyS S (j + 1 + 1) kAs = false then Res.err 2 (j + 1 + 1) else if S.small (j + 1 + 1 + 1) = false then .err 2 (j + 1 + 1 + 1) else .ok (⟨s, digs (S.T j).data.toList 0, S.T (j + 1), S.T (j + 1 + 1 + 1)⟩ : Im) (j + 1 + 1 + 1 + 1) 0)
  rw [small_k] at g
  exact a.trans (d.trans (e.trans (f.trans g)))

/-- What reading one leaves. -/
def ImOut (w : World) (q : Nat) (A : Option Addr) (n cn : Nat) (R : Res Im) (e : Ending) (w' : World) : Prop :=
  ∃ (x : Im) (i' b' : Nat), e = .returned (.agg #[.string x.pkg, .int .i64 x.major, .string x.mod, .string x.asn]) ∧ x.pkg.size ≤ 9223372036854775807 ∧ x.mod.size ≤ 9223372036854775807 ∧ x.asn.size ≤ 9223372036854775807 ∧ Kp q w w' ∧ CSt q A n cn i' b' w' ∧ badR b' i' (.ok x i' 0) = R

set_option maxRecDepth 100000 in
set_option maxHeartbeats 4000000 in
theorem cimp_any {W : World} {q : Nat} {A : Option Addr} {S : Toks} {cn i b : Nat} {w : World} (hc : CdCtx W q A S w) (h : CSt q A S.n cn i b w) (he : CEnv W) :
    Calls Tryz.prog 131 #[.pointer (some ⟨q, 0, none⟩)] w (ImOut w q A S.n cn (badR b i (impR S i))) := by
  have hq := h.lt
  obtain ⟨w0, hw0⟩ : ∃ w0, w0 = w.alloc (.cells #[.string ⟨#[]⟩, .int .i64 0, .string ⟨#[]⟩, .string ⟨#[]⟩] 67) := ⟨_, rfl⟩
  have B0 : Below w.heap.size w w0 := by rw [hw0]; exact below_new (Below.refl _ _) _
  have s0 : w0.heap.size = w.heap.size + 1 := by rw [hw0]; simp
  have X0 : w0.heap[w.heap.size]? = some (.cells #[.string ⟨#[]⟩, .int .i64 0, .string ⟨#[]⟩, .string ⟨#[]⟩] 67 (0, 0)) := by rw [hw0]; exact heap_alloc_new w _
  have K0 := Kp.of_below (r := q) B0
  have C0 := hc.on K0 hq
  have WD := Lib.hid (cword_any C0 (h.below B0) _ _ asksSmall (by decide))
  have HC0 := Lib.hid C0
  have HX0 := Lib.hid X0
  have HK0 := Lib.hid K0
  have HW0 := Lib.hid hw0
  have HE := Lib.hid he
  have hl0 : w.heap.size < w0.heap.size := by omega
  have hq0 : q < w0.heap.size := by omega
  clear hc h he hw0 B0 X0 K0 C0 s0
  go_enter Tryz.func131, Tryz.ntmps131
  go_upto_region 1 with fail
  rw [← HW0.out]
  go_wp2_with fail
  refine WD.out.mono ?_; rintro e w1 ⟨s1, i1, b1, rfl, z1, h1, k1, hN1⟩
  have C1 := HC0.out.on k1 hq0
  have NM := Lib.hid (cmajor_any C1 h1 HE.out)
  have HC1 := Lib.hid C1
  have HX1 := Lib.hid ((k1.blk hl0 (by omega)).trans HX0.out)
  have HK1 := Lib.hid (HK0.out.trans k1)
  have HN1 := Lib.hid hN1
  have hl1 := Nat.lt_of_lt_of_le hl0 k1.size
  have hq1 := Nat.lt_of_lt_of_le hq0 k1.size
  clear h1 k1 C1 hN1 WD HC0 HX0 HK0
  go_wp2_with fail
  refine NM.out.mono ?_; rintro e w2 ⟨v, i2, b2, rfl, h2, k2, hN2⟩
  have C2 := HC1.out.on k2 hq1
  have WD := Lib.hid (cword_any C2 h2 _ _ asksSmall (by decide))
  have HC2 := Lib.hid C2
  have HX2 := Lib.hid ((k2.blk hl1 (by omega)).trans HX1.out)
  have HK2 := Lib.hid (HK1.out.trans k2)
  have HN2 := Lib.hid hN2
  have hl2 := Nat.lt_of_lt_of_le hl1 k2.size
  have hq2 := Nat.lt_of_lt_of_le hq1 k2.size
  clear h2 k2 C2 hN2 NM HC1 HX1 HK1
  go_wp2_with fail
  refine WD.out.mono ?_; rintro e w3 ⟨s3, i3, b3, rfl, z3, h3, k3, hN3⟩
  have C3 := HC2.out.on k3 hq2
  have KY := Lib.hid (ckey_any C3 h3 ⟨#[97, 115]⟩)
  have HC3 := Lib.hid C3
  have HX3 := Lib.hid ((k3.blk hl2 (by omega)).trans HX2.out)
  have HK3 := Lib.hid (HK2.out.trans k3)
  have HN3 := Lib.hid hN3
  have hl3 := Nat.lt_of_lt_of_le hl2 k3.size
  have hq3 := Nat.lt_of_lt_of_le hq2 k3.size
  clear h3 k3 C3 hN3 WD HC2 HX2 HK2
  go_wp2_with fail
  refine KY.out.mono ?_; rintro e w4 ⟨rfl, h4, k4⟩
  have C4 := HC3.out.on k4 hq3
  have WD := Lib.hid (cword_any C4 h4 _ _ asksSmall (by decide))
  have HX4 := Lib.hid ((k4.blk hl3 (by omega)).trans HX3.out)
  have HK4 := Lib.hid (HK3.out.trans k4)
  have hl4 := Nat.lt_of_lt_of_le hl3 k4.size
  clear h4 k4 C4 KY HC3 HX3 HK3
  go_wp2_with fail
  refine WD.out.mono ?_; rintro e w5 ⟨s5, i5, b5, rfl, z5, h5, k5, hN5⟩
  have X5 := (k5.blk hl4 (by omega)).trans HX4.out
  have K5 := HK4.out.trans k5
  have SEAL : Hid (ImOut w q A S.n cn (badR b i (impR S i)) (.returned (.agg #[.string s1, .int .i64 v, .string s3, .string s5])) (w5.setRow w.heap.size #[.string s1, .int .i64 v, .string s3, .string s5])) := Lib.hid
    ⟨⟨s1, v, s3, s5⟩, i5, b5, rfl, by show s1.size ≤ _; omega, by show s3.size ≤ _; omega, by show s5.size ≤ _; omega,
      ⟨K5.os, K5.tape, K5.output, by have := K5.size; simpa using this, fun k hk hne => (setRow_other w5 w.heap.size k _ (by omega)).trans (K5.block k hk hne)⟩,
      h5.keep (setRow_other w5 w.heap.size q _ (by omega)) (fun g vs fr hg => setRow_other w5 w.heap.size g _ (two_types hg X5 (by decide))), imp_chain HN1.out HN2.out HN3.out hN5⟩
  have HX5 := Lib.hid X5
  clear h5 k5 K5 hN5 WD HX4 HK4
  go_wp2_with (first | ((with_reducible refine wpList_putRow 67 (w.heap.size) #[.string s1, .int .i64 v, .string s3, .string s5] _ _ X5 ?_ ?_ ?_ ?_ ?_ ?_); exact impSize; rfl; exact impOne; (focus (first | (go_simp; done) | rfl)); (focus (first | (go_simp; done) | rfl))))
  exact ret_agg1 (fn := Tryz.f131) (vs := [.string s1, .int .i64 v, .string s3, .string s5]) (b := w.heap.size) rfl rfl Tryz.underlying67 (by kernel_rfl) (cell4 (setRow_heap w5 w.heap.size _ _ _ _ HX5.out)) rfl SEAL.out

end Go.Proofs.YtpfoclpgcbjjoaaGreatDoor

/- The code's imports, all that stand there. -/
namespace Go.Proofs.YtpfoclpgcbjjoaaGreatDoor
open Go.RowKit
open Go.Sort
open M

theorem impR_ok {S : Toks} {i j c : Nat} {x : Im} (h : impR S i = .ok x j c) : j = i + 5 := by
  unfold impR at h
  split at h
  · cases h
  split at h
  · cases h
  split at h
  · cases h
  split at h
  · cases h
  split at h
  · cases h
  · cases h; rfl
theorem imps_no {S : Toks} {b i n : Nat} {xs : List Im} (hn : xs.length ≤ 20 ∨ b ≠ 0) (h : (decide (b = 0) && keyS S i kImport) = false) : badR b i (impsR S (21 - xs.length) i xs) = badR b i (.ok xs i 0) := by
  by_cases hb : b = 0
  · subst hb
    rw [badR_0, badR_0, show 21 - xs.length = (20 - xs.length) + 1 by omega]
    unfold impsR
    rw [if_pos (by simpa using h)]
  · rw [badR_ne _ _ hb, badR_ne _ _ hb]
theorem imps_yes {S : Toks} {i i5 b5 : Nat} {xs : List Im} {x : Im} (hn : xs.length ≤ 20) (hk : keyS S i kImport = true)
    (h : badR b5 i5 (.ok x i5 0) = badR (mustB 0 (decide ((xs.length : Int) < 20)) 3) (upI (mustB 0 (decide ((xs.length : Int) < 20)) 3) i) (impR S (upI (mustB 0 (decide ((xs.length : Int) < 20)) 3) i))) :
    impsR S (21 - xs.length) i xs = badR b5 i5 (impsR S (21 - (xs ++ [x]).length) i5 (xs ++ [x])) ∧ (b5 = 0 → xs.length < 20 ∧ i < i5) := by
  rw [show 21 - xs.length = (20 - xs.length) + 1 by omega]
  have e0 : ∀ f, impsR S (f + 1) i xs = if keyS S i kImport = false then .ok xs i 0 else if 20 ≤ xs.length then .err 3 i else match impR S (i + 1) with
      | .err b j => .err b j
      | .ok x j _ => impsR S f j (xs ++ [x]) := fun f => rfl
  rw [e0, if_neg (by rw [hk]; decide)]
  have e1 : (xs ++ [x]).length = xs.length + 1 := by simp
  rw [e1, show 21 - (xs.length + 1) = 20 - xs.length by omega]
  by_cases hl : xs.length < 20
  · have hd : decide ((xs.length : Int) < 20) = true := by simp; omega
    rw [hd, mustB_yes, upI_0, badR_0] at h
    rw [if_neg (by omega), ← h]
    by_cases hb : b5 = 0
    · subst hb
      have h6 := impR_ok h.symm
      exact ⟨rfl, fun _ => ⟨hl, by omega⟩⟩
    · rw [badR_ne _ _ hb, badR_ne _ _ hb]
      exact ⟨rfl, fun e => absurd e hb⟩
  · have hd : decide ((xs.length : Int) < 20) = false := by simp; omega
    have h3 : (3 : Nat) ≠ 0 := by decide
    rw [hd, mustB_no, upI_ne _ h3, badR_ne _ _ h3] at h
    rw [if_pos (by omega)]
    by_cases hb : b5 = 0
    · subst hb; cases h
    · rw [badR_ne _ _ hb] at h
      rw [badR_ne _ _ hb]
      refine ⟨?_, fun e => absurd e hb⟩
      cases h
      rfl

/-- While the code reads imports. -/
structure IpI (w : World) (q : Nat) (A : Option Addr) (S : Toks) (cn : Nat) (F : Res (List Im)) (xs : List Im) (A3 : Option Addr) (c3 i b : Nat) (wr : World) : Prop where
  kp : Kp q w wr
  rows : Row imR w.heap.size xs A3 c3 wr
  cur : CSt q A S.n cn i b wr
  fin : F = badR b i (impsR S (21 - xs.length) i xs)
  some : xs.length ≤ 21
  most : b = 0 → xs.length ≤ 20
def IpOut (w : World) (q : Nat) (A : Option Addr) (S : Toks) (cn : Nat) (F : Res (List Im)) (e : Ending) (w' : World) : Prop :=
  ∃ (xs : List Im) (A3 : Option Addr) (c3 i b : Nat), e = .returned (.slice A3 xs.length c3) ∧ Kp q w w' ∧ Row imR w.heap.size xs A3 c3 w' ∧ CSt q A S.n cn i b w' ∧ F = badR b i (.ok xs i 0) ∧ xs.length ≤ 21

set_option maxRecDepth 100000 in
set_option maxHeartbeats 4000000 in
theorem cimps_any {W : World} {q : Nat} {A : Option Addr} {S : Toks} {cn i b : Nat} {w : World} (hc : CdCtx W q A S w) (h : CSt q A S.n cn i b w) (he : CEnv W) :
    Calls Tryz.prog 90 #[.pointer (some ⟨q, 0, none⟩)] w (IpOut w q A S cn (badR b i (impsR S 21 i []))) := by
  have hq := h.lt
  have hbig := hc.big
  obtain ⟨F, hF⟩ : ∃ F, badR b i (impsR S 21 i []) = F := ⟨_, rfl⟩
  rw [hF]
  have INV : Hid (IpI w q A S cn F [] none 0 i b w) := Lib.hid ⟨Kp.refl _ _, Row.start _ _ _, h, hF.symm, by simp, fun _ => by simp⟩
  have HC := Lib.hid hc
  have HE := Lib.hid he
  clear hF h hc he
  go_enter Tryz.func90, Tryz.ntmps90
  go_wp2_with fail
  go_loopw [3] (fun m wr => ∃ (xs : List Im) (A3 : Option Addr) (c3 i b : Nat), m = .slice A3 xs.length c3 ∧ Hid (IpI w q A S cn F xs A3 c3 i b wr)) (fun _ wr => cuM q S.n wr)
  case atStart => exact ⟨[], none, 0, i, b, rfl, INV⟩
  case round =>
    obtain ⟨xs, A3, c3, i, b, rfl, HI⟩ := hrel
    obtain ⟨wo, rfl⟩ : ∃ wo : World, wo = wr := ⟨_, rfl⟩
    have C0 := HC.out.on HI.out.kp hq
    have AK := Lib.hid (catKey_any C0 HI.out.cur ⟨#[105, 109, 112, 111, 114, 116]⟩)
    have hso := HI.out.kp.size
    clear C0
    go_wp2_with fail
    refine AK.out.mono ?_; rintro e w1 ⟨rfl, hb1⟩
    obtain ⟨v, hv⟩ : ∃ v, (decide (b = 0) && keyS S i (ByteArray.mk #[105, 109, 112, 111, 114, 116]).data.toList) = v := ⟨_, rfl⟩
    rw [hv]
    have HV : Hid ((decide (b = 0) && keyS S i kImport) = v) := Lib.hid hv
    have hs1 := hb1.size
    have K1 := HI.out.kp.trans (Kp.of_below (r := q) hb1)
    have ROW1 := HI.out.rows.keep hs1 (fun b' hb hlt => hb1.block b' hlt)
    have h1 := HI.out.cur.below hb1
    clear hv AK
    cases v with
    | false =>
      have OUT : Hid (IpOut w q A S cn F (.returned (.slice A3 xs.length c3)) w1) := Lib.hid ⟨xs, A3, c3, i, b, rfl, K1, ROW1, h1, (by rw [HI.out.fin]; exact imps_no (n := 0) (Classical.byCases (fun hb : b = 0 => .inl (HI.out.most hb)) (fun hb => .inr hb)) HV.out), HI.out.some⟩
      clear h1 K1 ROW1 HI hb1
      go_wp2_with fail
      go_ret
      exact OUT.out
    | true =>
      have hbk : b = 0 ∧ keyS S i kImport = true := by have := HV.out; simpa using this
      obtain ⟨hb0, hk⟩ := hbk
      subst hb0
      have hin := key_lt hk
      have h20 := HI.out.most rfl
      have MI := Lib.hid HI.out.cur.m
      have HF : Hid (F = impsR S (21 - xs.length) i xs) := Lib.hid (by rw [HI.out.fin, badR_0])
      have hn63 : ¬ ((xs.length : Int) > 9223372036854775807) := by omega
      have MU := Lib.hid (must_any h1 (decide ((xs.length : Int) < 20)) 3 (by decide))
      have HK1 := Lib.hid K1
      have HR1 := Lib.hid ROW1
      have YES : Hid (∀ i5 b5 x, badR b5 i5 (.ok x i5 0) = badR (mustB 0 (decide ((xs.length : Int) < 20)) 3) (upI (mustB 0 (decide ((xs.length : Int) < 20)) 3) i) (impR S (upI (mustB 0 (decide ((xs.length : Int) < 20)) 3) i)) → _) := Lib.hid (fun i5 b5 x h => imps_yes (x := x) h20 hk h)
      obtain ⟨u, hu⟩ : ∃ u, decide ((xs.length : Int) < 20) = u := ⟨_, rfl⟩
      rw [hu] at YES MU
      clear h1 K1 ROW1 HI hb1 hk
      go_wp2_with fail
      refine MU.out.mono ?_; rintro e w2 ⟨rfl, h2, k2⟩
      have PS := Lib.hid (cpass_any h2 (fun _ => hin) hbig)
      have hs2 := k2.size
      have HK2 := Lib.hid (HK1.out.trans k2)
      have HR2 := Lib.hid (HR1.out.keep hs2 (fun b' hb hlt => k2.blk hlt (by omega)))
      clear h2 k2 MU hu HK1 HR1
      go_wp2_with fail
      refine PS.out.mono ?_; rintro e w3 ⟨rfl, h3, k3⟩
      have hs3 := k3.size
      have HK3 := Lib.hid (HK2.out.trans k3)
      have HR3 := Lib.hid (HR2.out.keep hs3 (fun b' hb hlt => k3.blk hlt (by omega)))
      have RE := Lib.hid (cimp_any (HC.out.on HK3.out hq) h3 HE.out)
      clear h3 k3 PS HK2 HR2
      go_wp2_with fail
      refine RE.out.mono ?_; rintro e w4 ⟨x, i4, b4, rfl, z1, z2, z3, k4, h4, hres⟩
      have hs4 := k4.size
      have ROW4 := HR3.out.keep hs4 (fun b' hb hlt => k4.blk hlt (by omega))
      have K4 := HK3.out.trans k4
      obtain ⟨C, hC1, hown, hC4⟩ := ROW4.cells
      obtain ⟨inf, hi1', hy0, hy1, hy2⟩ := info_parts imp_info
      have hMX : xs.length + 1 ≤ maxLen := by unfold maxLen; omega
      have hwo : ∀ b, (Value.slice A3 xs.length c3).ownBlock = some b → b < w3.heap.size := fun b e => (HR3.out.lt e).2
      have hlow : ∀ b, (Value.slice A3 xs.length c3).ownBlock = some b → w.heap.size ≤ b := fun b e => (HR3.out.lt e).1
      have hAL : w.heap.size ≤ (w4.alloc (.cells #[.string x.pkg, .int .i64 x.major, .string x.mod, .string x.asn] 67)).heap.size := by have e1 : (w4.alloc (.cells #[.string x.pkg, .int .i64 x.major, .string x.mod, .string x.asn] 67)).heap.size = w4.heap.size + 1 := (by simp); omega
      have hNW : ∀ j u, ([.string x.pkg, .int .i64 x.major, .string x.mod, .string x.asn] : List Value)[j]? = some u → (w4.alloc (.cells #[.string x.pkg, .int .i64 x.major, .string x.mod, .string x.asn] 67)).cell? ((⟨w4.heap.size, 0, none⟩ : Addr).add j) = some u := fun q u hq => by rw [WideShapes.add_plain, Nat.zero_add, Lib.cell_of_heap (heap_alloc_new w4 _), ← hq, ← List.getElem?_toArray]
      go_wp2_with (first | (refine wpList_append_lies _ rfl (.tmp 13) (.tmp 16) 22 rfl w.heap.size 67 inf _ 4 56 Tryz.underlying22 hi1' hy0 hy1 hy2 (by rfl) (Nat.zero_lt_succ 3) (.slice A3 xs.length c3) xs.length _ rfl (hown.alloc _) ⟨w4.heap.size, 0, none⟩ 1 1 [.string x.pkg, .int .i64 x.major, .string x.mod, .string x.asn] rfl rfl hNW (fun u hu => by simp at hu; rcases hu with rfl | rfl | rfl | rfl <;> rfl) Nat.one_pos hMX (by omega) hAL _ rfl ?_; intro gb cap w5 hown5 hgrow hat hlt5))
      obtain ⟨ROW5, old5, hs5⟩ := Row.more ROW4 (B := w3.heap.size) (by omega) hwo hC1 hC4 (x := x) ⟨rfl, z1, z2, z3⟩ hown5 hgrow hat
      have K5 : Kp q w w5 := (K4.alloc _).grow hgrow hlow
      obtain ⟨hF5, hlim⟩ := YES.out i4 b4 x hres
      have h5 : CSt q A S.n cn i4 b4 w5 := h4.keep (old5 q (fun e => by have := hlow q e; omega) h4.lt) (fun g vs fr hg => old5 g (fun e => by
        rcases hown.2 with ⟨e1, -⟩ | ⟨g6, cap6, cur6, hv, -, hg6, -⟩
        · rw [e1] at e; simp [Value.ownBlock] at e
        · rw [hv] at e; simp [Value.ownBlock] at e
          subst e
          exact two_types hg hg6 (by decide) rfl) (Array.getElem?_eq_some_iff.1 hg).1)
      have INV5 : Hid (IpI w q A S cn F (xs ++ [x]) (some ⟨gb, 0, none⟩) cap i4 b4 w5) := Lib.hid
        ⟨K5, ROW5, h5, by rw [HF.out]; exact hF5, by simp; omega, fun e => by have := (hlim e).1; simp; omega⟩
      have MEAS : Hid (cuM q S.n w5 < cuM q S.n wo) := Lib.hid (by
        rw [MI.out, h5.m]
        simp only [if_true]
        split
        · rename_i e
          have := hlim e
          omega
        · omega)
      have hlen : (xs ++ [x]).length = xs.length + 1 := by simp
      clear k4 h4 hres ROW4 K4 hC1 hown hC4 hi1' hy0 hy1 hy2 hNW hown5 hgrow hat hlt5 ROW5 K5 old5 hs5 h5 hlim hF5 RE HR3 HK3 hwo hlow hAL
      go_wp2_with fail
      go_roundw
      case rel => exact ⟨xs ++ [x], some ⟨gb, 0, none⟩, cap, i4, b4, by rw [hlen], INV5⟩
      case measure => exact MEAS.out

end Go.Proofs.YtpfoclpgcbjjoaaGreatDoor

/- The code's declaration. -/
namespace Go.Proofs.YtpfoclpgcbjjoaaGreatDoor
open Go.RowKit
open Go.Sort
open M

theorem decSize : (Tryz.prog.info? 52).map (·.size) = some 9 := by kernel_rfl
theorem decOne {s : ByteArray} {k0 k m : Int} {p d n : ByteArray} {A5 A6 : Option Addr} {n5 c5 n6 c6 : Nat} : (#[.int .i64 k0, .string s, .int .i64 k, .string p, .int .i64 m, .string d, .string n, .slice A5 n5 c5, .slice A6 n6 c6] : Array Value).all (·.oneCell') = true := Array.all_eq_true_iff_forall_mem.2 (fun v hv => by simp at hv; rcases hv with rfl | rfl | rfl | rfl | rfl | rfl | rfl | rfl | rfl <;> rfl)
theorem cell9 {w : World} {b : Nat} {v0 v1 v2 v3 v4 v5 v6 v7 v8 : Value} {T : TypeId} {fr : Nat × Nat} (h : w.heap[b]? = some (.cells #[v0, v1, v2, v3, v4, v5, v6, v7, v8] T fr)) : ∀ i v, ([v0, v1, v2, v3, v4, v5, v6, v7, v8] : List Value)[i]? = some v → w.cell? ⟨b, i, none⟩ = some v := fun i v hv => by
  rw [Lib.cell_of_heap h, ← hv, ← List.getElem?_toArray]

/-- What reading a declaration leaves. -/
def DeOut (w : World) (q : Nat) (A : Option Addr) (n cn : Nat) (R : Res De) (e : Ending) (w' : World) : Prop :=
  ∃ (l : List Value) (x : De) (i' b' : Nat), e = .returned (.agg (#[.int .i64 x.kind, .string x.name] ++ l.toArray)) ∧ x.name.size ≤ 9223372036854775807 ∧ TyAt (strike (· < w.heap.size) w') l x.typ ∧ Kp q w w' ∧ CSt q A n cn i' b' w' ∧ badR b' i' (.ok x i' 0) = R

/-- Where a declaration that is amiss stops. -/
theorem oneD_no {S : Toks} {i n : Nat} (h : mustB (mustB 0 (declAt S i != 0) 2) (decide ((n : Int) < 60)) 3 ≠ 0) : Res.err (mustB (mustB 0 (declAt S i != 0) 2) (decide ((n : Int) < 60)) 3) i = oneD S i n := by
  unfold oneD
  by_cases hk : declAt S i = 0
  · rw [if_pos hk]
    have e : (declAt S i != 0) = false := by rw [hk]; rfl
    rw [e, mustB_no, mustB_bad _ _ (by decide)]
  · rw [if_neg hk]
    have e : (declAt S i != 0) = true := by simp [hk]
    rw [e, mustB_yes] at h ⊢
    by_cases hn : n < 60
    · have hd : decide ((n : Int) < 60) = true := by simp; omega
      rw [hd, mustB_yes] at h
      exact absurd rfl h
    · have hd : decide ((n : Int) < 60) = false := by simp; omega
      rw [hd, if_pos (by omega)]
      rfl
theorem oneD_yes {S : Toks} {i n : Nat} (h : mustB (mustB 0 (declAt S i != 0) 2) (decide ((n : Int) < 60)) 3 = 0) : declAt S i ≠ 0 ∧ n < 60 ∧ oneD S i n = decR S (declAt S i) (i + 1) := by
  have h1 := mustB_0 (by decide) h
  have hk : declAt S i ≠ 0 := fun e => by rw [e] at h1; cases h1
  rw [h1] at h
  have hn : n < 60 := by
    by_cases hn : n < 60
    · exact hn
    · have hd : decide ((n : Int) < 60) = false := by simp; omega
      rw [hd] at h; cases h
  refine ⟨hk, hn, ?_⟩
  unfold oneD
  rw [if_neg hk, if_neg (by omega)]
theorem declAt_cases (S : Toks) (i : Nat) : declAt S i = 0 ∨ declAt S i = 1 ∨ declAt S i = 2 ∨ declAt S i = 3 ∨ declAt S i = 4 := by
  unfold declAt declK
  repeat' split
  all_goals simp

/-- The ways of a declaration, as the code goes them. -/
theorem dec_name {S : Toks} {k : Int} (hk : k = 1 ∨ k = 2) {i b : Nat} {s : ByteArray} {i1 b1 : Nat} (h : NameOut S (decide (i < S.n) && greatK (S.K i) (S.T i)) i b s i1 b1) : badR b1 i1 (.ok (⟨k, s, noT⟩ : De) i1 0) = badR b i (decR S k i) := by
  have a := nameOut_res h (fun s i => Res.ok (⟨k, s, noT⟩ : De) i 0)
  rw [great_k] at a
  rw [a]
  unfold decR
  rw [if_pos hk]
theorem dec_typ {S : Toks} {k : Int} {s : ByteArray} {t : Ty} {i b i' b' : Nat} (h : badR b' i' (.ok t i' 0) = badR b i (cutR (atR S i))) : badR b' i' (.ok (⟨k, s, t⟩ : De) i' 0) = badR b i (typD k s (atR S i)) := by
  by_cases hb : b = 0
  · subst hb
    rw [badR_0] at h
    rw [badR_0]
    cases hR : atR S i with
    | ok u j c =>
      rw [hR] at h
      by_cases hb' : b' = 0
      · subst hb'
        cases h
        rfl
      · rw [badR_ne _ _ hb'] at h; cases h
    | err c j =>
      rw [hR] at h
      by_cases hb' : b' = 0
      · subst hb'; cases h
      · rw [badR_ne _ _ hb'] at h
        rw [badR_ne _ _ hb']
        cases h
        rfl
  · rw [badR_ne _ _ hb] at h
    rw [badR_ne _ _ hb]
    by_cases hb' : b' = 0
    · subst hb'; cases h
    · rw [badR_ne _ _ hb'] at h
      rw [badR_ne _ _ hb']
      cases h
      rfl
theorem dec_alias {S : Toks} {i b : Nat} {s : ByteArray} {t : Ty} {i1 b1 i' b' : Nat} (h1 : NameOut S (decide (i < S.n) && greatK (S.K i) (S.T i)) i b s i1 b1)
    (h3 : badR b' i' (.ok t i' 0) = badR (psB b1 (S.sign i1 [61])) (psI b1 (S.sign i1 [61]) i1) (cutR (atR S (psI b1 (S.sign i1 [61]) i1)))) : badR b' i' (.ok (⟨3, s, t⟩ : De) i' 0) = badR b i (decR S 3 i) := by
  have a := dec_typ (k := 3) (s := s) h3
  have b := sign_res (S.sign i1 [61]) b1 i1 (fun j => typD 3 s (atR S j))
  have c := nameOut_res h1 (fun s j => if S.sign j [61] = false then Res.err 2 j else typD 3 s (atR S (j + 1)))
  rw [great_k] at c
  rw [a, b, c]
  rfl
theorem dec_val {S : Toks} {i b : Nat} {s : ByteArray} {t : Ty} {i1 b1 i' b' : Nat} (h1 : NameOut S (decide (i < S.n) && smallK (S.K i) (S.T i)) i b s i1 b1)
    (h3 : badR b' i' (.ok t i' 0) = badR (psB b1 (S.sign i1 [58])) (psI b1 (S.sign i1 [58]) i1) (cutR (atR S (psI b1 (S.sign i1 [58]) i1)))) : badR b' i' (.ok (⟨4, s, t⟩ : De) i' 0) = badR b i (decR S 4 i) := by
  have a := dec_typ (k := 4) (s := s) h3
  have b := sign_res (S.sign i1 [58]) b1 i1 (fun j => typD 4 s (atR S j))
  have c := nameOut_res h1 (fun s j => if S.sign j [58] = false then Res.err 2 j else typD 4 s (atR S (j + 1)))
  rw [small_k] at c
  rw [a, b, c]
  rfl
theorem oneD_state {S : Toks} {i n : Nat} {D : Int} {b1 : Nat} (hD : declAt S i = D) (hb : mustB (mustB 0 (D != 0) 2) (decide ((n : Int) < 60)) 3 = b1) : badR b1 (upI b1 i) (decR S D (upI b1 i)) = oneD S i n := by
  subst hD hb
  by_cases h : mustB (mustB 0 (declAt S i != 0) 2) (decide ((n : Int) < 60)) 3 = 0
  · rw [h, badR_0, upI_0, (oneD_yes h).2.2]
  · rw [badR_ne _ _ h, upI_ne _ h]
    exact oneD_no h

theorem name_sign_le {S : Toks} {b1 i5 i6 b6 : Nat} {s : ByteArray} {p : Int → ByteArray → Bool} {l : List UInt8} (_ : b1 = 0 → i5 ≤ S.n) (h : NameOut S (decide (i5 < S.n) && p (S.K i5) (S.T i5)) i5 b1 s i6 b6) (e : psB b6 (S.sign i6 l) = 0) : psI b6 (S.sign i6 l) i6 ≤ S.n := by
  have h6 := psB_0 e
  subst h6
  cases hs : S.sign i6 l with
  | true => have := sign_lt hs; rw [psI_yes]; omega
  | false => rw [hs] at e; cases e

/-- A declaration's box. -/
def Dx (d : Nat) (k : Int) (s : ByteArray) (l : List Value) (w : World) : Prop := w.heap[d]? = some (.cells (#[.int .i64 k, .string s] ++ l.toArray) 52 (0, 0))
theorem Dx.there {d : Nat} {k : Int} {s : ByteArray} {v0 v1 v2 v3 v4 v5 v6 : Value} {w : World} (h : Dx d k s [v0, v1, v2, v3, v4, v5, v6] w) : w.there d 2 7 := fun j hj => by
  refine ⟨?_, Lib.frozen_of_heap h _⟩
  rw [Lib.cell_of_heap h]
  obtain rfl | rfl | rfl | rfl | rfl | rfl | rfl : j = 0 ∨ j = 1 ∨ j = 2 ∨ j = 3 ∨ j = 4 ∨ j = 5 ∨ j = 6 := by omega
  all_goals rfl
theorem Dx.put {d : Nat} {k : Int} {s : ByteArray} {v0 v1 v2 v3 v4 v5 v6 u0 u1 u2 u3 u4 u5 u6 : Value} {w : World} (h : Dx d k s [v0, v1, v2, v3, v4, v5, v6] w) : Dx d k s [u0, u1, u2, u3, u4, u5, u6] (w.setCells d 2 [u0, u1, u2, u3, u4, u5, u6]) := by
  rw [setCells7]
  have h0 := Joins.block_setCell (i := 2) h u0
  have h1 := Joins.block_setCell (i := 2 + 1) h0 u1
  have h2 := Joins.block_setCell (i := 2 + 2) h1 u2
  have h3 := Joins.block_setCell (i := 2 + 3) h2 u3
  have h4 := Joins.block_setCell (i := 2 + 4) h3 u4
  have h5 := Joins.block_setCell (i := 2 + 5) h4 u5
  have h6 := Joins.block_setCell (i := 2 + 6) h5 u6
  simpa [Dx] using h6
theorem Dx.named {d : Nat} {k : Int} {s s' : ByteArray} {v0 v1 v2 v3 v4 v5 v6 : Value} {w : World} (h : Dx d k s [v0, v1, v2, v3, v4, v5, v6] w) : Dx d k s' [v0, v1, v2, v3, v4, v5, v6] (w.setCell ⟨d, 1, none⟩ (.string s')) := by
  have h0 := Joins.block_setCell (i := 1) h (.string s')
  simpa [Dx] using h0
/-- At the end: the result's box is filled. -/
theorem DeOut.fin {w w' : World} {q : Nat} {A : Option Addr} {n cn i b : Nat} {R : Res De} {k : Int} {s : ByteArray} {t : Ty} {v0 v1 v2 v3 v4 v5 v6 : Value} {old : Array Value}
    (hs : s.size ≤ 9223372036854775807) (hT : TyAt (strike (· < w.heap.size + 1) w') [v0, v1, v2, v3, v4, v5, v6] t) (hk : Kp q w w') (hq : q < w.heap.size) (hc : CSt q A n cn i b w') (hX : w'.heap[w.heap.size]? = some (.cells old 52 (0, 0))) (hR : badR b i (.ok (⟨k, s, t⟩ : De) i 0) = R) :
    DeOut w q A n cn R (.returned (.agg #[.int .i64 k, .string s, v0, v1, v2, v3, v4, v5, v6])) (w'.setRow w.heap.size #[.int .i64 k, .string s, v0, v1, v2, v3, v4, v5, v6]) :=
  ⟨[v0, v1, v2, v3, v4, v5, v6], ⟨k, s, t⟩, i, b, rfl, hs, hT.move (by simp) fun b hb hS => ⟨fun e => hS (Nat.lt_succ_of_lt e), setRow_other w' w.heap.size b _ (fun e => by subst e; exact hS (Nat.lt_succ_self _))⟩,
    ⟨hk.os, hk.tape, hk.output, by have := hk.size; simpa using this, fun j hj hne => (setRow_other w' w.heap.size j _ (by omega)).trans (hk.block j hj hne)⟩,
    hc.keep (setRow_other w' w.heap.size q _ (by omega)) (fun g vs fr hg => setRow_other w' w.heap.size g _ (two_types hg hX (by decide))), hR⟩

end Go.Proofs.YtpfoclpgcbjjoaaGreatDoor
