/-
  Several texts in one: The code's read, over what the others tell. · The walk of the reference's Type, over what it calls. · Plain: a type ends behind where it began; one step of a function's parameters, of its end. What stands while the reference reads a function. · The walk of the reference's function, over its Type. · The code's parameters: types that grow in new memory. · The code's function, over what read tells. · Plain: one step of what stands in a record, or a variant; a name put among names. Rows in which names, and subs, are set. · Plain: names with their types, each put among those ahead; a list sorted by names is the same, if no name is there twice. · The code's fields in memory: names with types, that grow in new memory; whether a name is among them. · The code's field: a name and its type. · The code's fields: names with types, one behind another. · The library's contracts, and how it sorts. · The code's sort of names with types. · The code's type of fields. · The code's record and variant; so its read, whatever begins. · The code's read, whatever begins. · The code's At: the type that begins at a token.
-/
import Derived.Test.YtkgmdbkcldojnaaGreatDoorJ03
import Derived.Test.YtkgmdbkcldojnaaGreatDoorJ02
import Derived.LoopTactic
import Derived.Deep.AppendLies
import Derived.Deep.DeepCutAuto
import Derived.Deep.MidRow
import Derived.Shelf.SlSortCmp.InsertionK
import Derived.Sort.OwnSorted
/- The code's read, over what the others tell. -/
namespace Go.Proofs.YtkgmdbkcldojnaaGreatDoor
open Go.RowKit
open Go.Sort
open M

end Go.Proofs.YtkgmdbkcldojnaaGreatDoor

/- The walk of the reference's Type, over what it calls. -/
namespace Go.Proofs.YtkgmdbkcldojnaaGreatDoor
open Go.RowKit
open Go.Sort
open M

end Go.Proofs.YtkgmdbkcldojnaaGreatDoor

/- Plain: a type ends behind where it began; one step of a function's parameters, of its end. What stands while the reference reads a function. -/
namespace Go.Proofs.YtkgmdbkcldojnaaGreatDoor
open Go.RowKit
open Go.Sort
open M

end Go.Proofs.YtkgmdbkcldojnaaGreatDoor

/- The walk of the reference's function, over its Type. -/
namespace Go.Proofs.YtkgmdbkcldojnaaGreatDoor
open Go.RowKit
open Go.Sort
open M

end Go.Proofs.YtkgmdbkcldojnaaGreatDoor

/- The code's parameters: types that grow in new memory. -/
namespace Go.Proofs.YtkgmdbkcldojnaaGreatDoor
open Go.RowKit
open Go.Sort
open M

/-- The first type of a row: the block that a literal of one makes. -/
theorem GrR.first {lo g : Nat} {l : List Value} {t : Ty} {w : World} (hl : l.length = 7) (hlo : lo ≤ g) (hg : w.heap[g]? = some (.cells l.toArray 30 (0, 0))) (hT : TyAt (strike (fun b => b < lo ∨ b = g) w) l t) :
    GrR lo [] 0 [t] 1 (.slice none 0 0) (.slice (some ⟨g, 0, none⟩) 1 1) w := by
  refine ⟨rfl, rfl, World.ownsRow_nil _ _ _ _, fun s h => by simp at h, ⟨[l], rfl, fun x h => by simp at h; subst h; exact hl, ⟨by simp [hl], .inr ⟨g, 1, l.toArray, rfl, hlo, hg, Nat.le_refl _, by decide, by simp [hl], ?_⟩⟩, fun i x u hx hu => ?_⟩, fun b h => by simp [Value.ownBlock] at h⟩
  · simp [← hl]
  · have hi := (List.getElem?_eq_some_iff.1 hx).1
    obtain rfl : i = 0 := by simp at hi; omega
    simp at hx hu
    subst hx hu
    refine TyAt.move hT (Nat.le_refl _) fun b _ hS => ⟨?_, rfl⟩
    rintro (e | e | e)
    · exact hS (.inl e)
    · simp [Value.ownBlock] at e
    · simp [Value.ownBlock] at e; exact hS (.inr e.symm)

end Go.Proofs.YtkgmdbkcldojnaaGreatDoor

/- The code's function, over what read tells. -/
namespace Go.Proofs.YtkgmdbkcldojnaaGreatDoor
open Go.RowKit
open Go.Sort
open M

end Go.Proofs.YtkgmdbkcldojnaaGreatDoor

/- Plain: one step of what stands in a record, or a variant; a name put among names. Rows in which names, and subs, are set. -/
namespace Go.Proofs.YtkgmdbkcldojnaaGreatDoor
open Go.RowKit
open Go.Sort
open M

theorem setCells7 (w : World) (g o : Nat) (v0 v1 v2 v3 v4 v5 v6 : Value) : w.setCells g o [v0, v1, v2, v3, v4, v5, v6] = ((((((w.setCell ⟨g, o, none⟩ v0).setCell ⟨g, o + 1, none⟩ v1).setCell ⟨g, o + 2, none⟩ v2).setCell ⟨g, o + 3, none⟩ v3).setCell ⟨g, o + 4, none⟩ v4).setCell ⟨g, o + 5, none⟩ v5).setCell ⟨g, o + 6, none⟩ v6 := by
  simp [World.setCells]
theorem setCells7_other {w : World} {g o b : Nat} {l : List Value} (hl : l.length = 7) (hne : b ≠ g) : (w.setCells g o l).heap[b]? = w.heap[b]? := by
  obtain ⟨v0, v1, v2, v3, v4, v5, v6, rfl⟩ := list7 l hl
  rw [setCells7, Below.heap_setCell _ _ _ _ hne, Below.heap_setCell _ _ _ _ hne, Below.heap_setCell _ _ _ _ hne, Below.heap_setCell _ _ _ _ hne, Below.heap_setCell _ _ _ _ hne, Below.heap_setCell _ _ _ _ hne, Below.heap_setCell _ _ _ _ hne]
theorem setCells7_size {w : World} {g o : Nat} {l : List Value} (hl : l.length = 7) : (w.setCells g o l).heap.size = w.heap.size := by
  obtain ⟨v0, v1, v2, v3, v4, v5, v6, rfl⟩ := list7 l hl
  rw [setCells7]; simp
end Go.Proofs.YtkgmdbkcldojnaaGreatDoor

/- Plain: names with their types, each put among those ahead; a list sorted by names is the same, if no name is there twice. -/
namespace Go.Proofs.YtkgmdbkcldojnaaGreatDoor.M
open Go

abbrev FdT := ByteArray × Ty
end Go.Proofs.YtkgmdbkcldojnaaGreatDoor.M

/- The code's fields in memory: names with types, that grow in new memory; whether a name is among them. -/
namespace Go.Proofs.YtkgmdbkcldojnaaGreatDoor
open Go.RowKit
open Go.Sort
open M

/-- A name with a type, as its eight cells are. -/
structure Nv where
  s : ByteArray
  k : Int
  p : ByteArray
  m : Int
  d : ByteArray
  n : ByteArray
  A5 : Option Addr
  n5 : Nat
  c5 : Nat
  A6 : Option Addr
  n6 : Nat
  c6 : Nat
instance : Inhabited Nv := ⟨⟨⟨#[]⟩, 0, ⟨#[]⟩, 0, ⟨#[]⟩, ⟨#[]⟩, none, 0, 0, none, 0, 0⟩⟩
def Nv.ty (x : Nv) : List Value := [.int .i64 x.k, .string x.p, .int .i64 x.m, .string x.d, .string x.n, .slice x.A5 x.n5 x.c5, .slice x.A6 x.n6 x.c6]
def Nv.enc (x : Nv) : List Value := [.string x.s, .int .i64 x.k, .string x.p, .int .i64 x.m, .string x.d, .string x.n, .slice x.A5 x.n5 x.c5, .slice x.A6 x.n6 x.c6]
theorem Nv.len (x : Nv) : x.enc.length = 8 := rfl
theorem Nv.one (x : Nv) : ∀ v ∈ x.enc, v.oneCell' = true := fun v hv => by
  simp [Nv.enc] at hv
  rcases hv with rfl | rfl | rfl | rfl | rfl | rfl | rfl | rfl <;> rfl
abbrev Nt := Nv × Ty
def rowN (P : List Nt) : List Value := (P.map (fun x => x.1.enc)).flatten
theorem rowN_at : ∀ (P : List Nt) (i q : Nat) (x : Nt), P[i]? = some x → q < 8 → (rowN P)[i * 8 + q]? = x.1.enc[q]?
  | [], i, q, x, h, _ => by simp at h
  | y :: P, 0, q, x, h, hq => by
    simp at h; subst h
    unfold rowN
    rw [List.map_cons, List.flatten_cons, List.getElem?_append_left (by rw [y.1.len]; omega)]
    simp
  | y :: P, i + 1, q, x, h, hq => by
    have h' : P[i]? = some x := by simpa using h
    have := rowN_at P i q x h' hq
    unfold rowN at this ⊢
    rw [List.map_cons, List.flatten_cons, List.getElem?_append_right (by rw [y.1.len]; omega), y.1.len, show (i + 1) * 8 + q - 8 = i * 8 + q by omega]
    exact this
/-- Fields that grow in new memory. -/
structure NmR (lo : Nat) (P : List Nt) (n : Nat) (v : Value) (w : World) : Prop where
  len : P.length = n
  own : w.ownsRow lo 48 8 v n (rowN P)
  szs : ∀ x, x ∈ P → x.1.s.size ≤ 281474976710656
  trees : ∀ x, x ∈ P → TyAt (strike (fun b => b < lo ∨ v.ownBlock = some b) w) x.1.ty x.2
theorem NmR.start (lo : Nat) (w : World) : NmR lo [] 0 (.slice none 0 0) w := ⟨rfl, World.ownsRow_nil _ _ _ _, fun x h => by simp at h, fun x h => by simp at h⟩
theorem NmR.keep {lo : Nat} {P : List Nt} {n : Nat} {v : Value} {w w' : World} (h : NmR lo P n v w) (hz : w.heap.size ≤ w'.heap.size) (hb : ∀ b, lo ≤ b → b < w.heap.size → w'.heap[b]? = w.heap[b]?) : NmR lo P n v w' :=
  ⟨h.len, own_from h.own hb, h.szs, fun x hx => (h.trees x hx).move hz fun b hlt hS => ⟨hS, hb b (by
    rcases Nat.lt_or_ge b lo with h | h
    · exact absurd (.inl h) hS
    · exact h) hlt⟩⟩
theorem NmR.first {lo g : Nat} {x : Nt} {w : World} (hlo : lo ≤ g) (hg : w.heap[g]? = some (.cells x.1.enc.toArray 48 (0, 0))) (hs : x.1.s.size ≤ 281474976710656) (hT : TyAt (strike (fun b => b < lo ∨ b = g) w) x.1.ty x.2) :
    NmR lo [x] 1 (.slice (some ⟨g, 0, none⟩) 1 1) w := by
  refine ⟨rfl, ⟨by simp [rowN, x.1.len], .inr ⟨g, 1, x.1.enc.toArray, rfl, hlo, hg, Nat.le_refl _, by decide, by simp [x.1.len], ?_⟩⟩, fun y hy => by simp at hy; subst hy; exact hs, fun y hy => ?_⟩
  · simp [rowN, ← x.1.len]
  · simp at hy; subst hy
    refine TyAt.move hT (Nat.le_refl _) fun b _ hS => ⟨?_, rfl⟩
    rintro (e | e)
    · exact hS (.inl e)
    · simp [Value.ownBlock] at e; exact hS (.inr e.symm)
/-- Where its cells lie. -/
theorem NmR.cell {lo : Nat} {P : List Nt} {n : Nat} {v : Value} {w : World} (h : NmR lo P n v w) : ∃ A cap, v = .slice A n cap ∧
    ∀ k x, P[k]? = some x → ∃ g, A = some ⟨g, 0, none⟩ ∧ lo ≤ g ∧ g < w.heap.size ∧ ∀ q u, x.1.enc[q]? = some u → w.cell? ⟨g, 0 + k * 8 + q, none⟩ = some u := by
  have hl := h.len
  rcases h.own.2 with ⟨rfl, h0⟩ | ⟨g, cap, cur, rfl, hB, hg, hnc, hcm, hcs, htake⟩
  · subst h0
    exact ⟨none, 0, rfl, fun k x hx => by have := (List.getElem?_eq_some_iff.1 hx).1; omega⟩
  · refine ⟨_, _, rfl, fun k x hx => ⟨g, rfl, hB, (Array.getElem?_eq_some_iff.1 hg).1, fun q u hu => ?_⟩⟩
    have hk := (List.getElem?_eq_some_iff.1 hx).1
    have hq : q < 8 := by have := (List.getElem?_eq_some_iff.1 hu).1; rwa [x.1.len] at this
    rw [Lib.cell_of_heap hg, ← Array.getElem?_toList]
    have e2 := rowN_at P k q x hx hq
    rw [← htake, List.getElem?_take] at e2
    split at e2
    · rw [show 0 + k * 8 + q = k * 8 + q by omega, e2]; exact hu
    · rename_i hn; omega

end Go.Proofs.YtkgmdbkcldojnaaGreatDoor

/- The code's field: a name and its type. -/
namespace Go.Proofs.YtkgmdbkcldojnaaGreatDoor
open Go.RowKit
open Go.Sort
open M

/-- What a field tells, behind those of these names. -/
def fieldR (S : Toks) (k : Int) (g d i c : Nat) (ns : List ByteArray) : Res FdT :=
  if S.nameOk k i = false then .err 2 i else if 20 ≤ ns.length then .err 3 i else if twice (S.T i) ns = true then .err 5 i
  else if S.sign (i + 1) [58] = false then .err 2 (i + 1) else match pT S g (d + 1) (i + 2) c with
    | .err b j => .err b j
    | .ok s j c' => .ok (S.T i, s) j c'
theorem name_lt {S : Toks} {k : Int} {i : Nat} (h : S.nameOk k i = true) : i < S.n := by
  unfold Toks.nameOk at h
  by_cases hk : k = 5
  · rw [if_pos hk] at h; exact small_lt h
  · rw [if_neg hk] at h; exact great_lt h

/-- What is so at the colon. -/
structure FdAt (S : Toks) (k : Int) (i b n : Nat) (ns : List ByteArray) (q1 tw : Bool) (b3 : Nat) (s : ByteArray) (i4 b4 i5 b5 : Nat) : Prop where
  len : ns.length = n
  is : b = 0 → q1 = S.nameOk k i
  two : b = 0 → i < S.n → tw = twice (S.T i) ns
  must : b3 = mustB (mustB (mustB b q1 2) (decide ((n : Int) < 20)) 3) (!tw) 5
  word : NameOut S (S.nameOk k i) i b3 s i4 b4
  i5e : psI b4 (S.sign i4 [58]) i4 = i5
  b5e : psB b4 (S.sign i4 [58]) = b5
theorem FdAt.no {S : Toks} {k : Int} {i b n g d c : Nat} {ns : List ByteArray} {q1 tw : Bool} {b3 : Nat} {s : ByteArray} {i4 b4 i5 b5 : Nat} (h : FdAt S k i b n ns q1 tw b3 s i4 b4 i5 b5) (hb : b5 ≠ 0) : badR b i (fieldR S k g d i c ns) = .err b5 i5 := by
  have stuck : b3 ≠ 0 → b5 = b3 ∧ i5 = i := fun h3 => by
    rcases h.word with ⟨e, -⟩ | ⟨e, -⟩ | ⟨-, e1, e2⟩
    · exact absurd e h3
    · exact absurd e h3
    · subst e1 e2
      refine ⟨?_, ?_⟩
      · rw [← h.b5e, psB_bad _ h3]
      · rw [← h.i5e, psI_bad _ _ h3]
  by_cases hb0 : b = 0
  rotate_left
  · have : b3 = b := by rw [h.must, mustB_bad _ _ hb0, mustB_bad _ _ hb0, mustB_bad _ _ hb0]
    obtain ⟨e1, e2⟩ := stuck (by omega)
    rw [badR_ne _ _ hb0, e1, e2, this]
  subst hb0
  rw [badR_0]
  have h1 := h.is rfl
  have hm := h.must
  unfold fieldR
  cases hn : S.nameOk k i with
  | false =>
    rw [h1, hn, mustB_no, mustB_bad (b := 2) (decide ((n : Int) < 20)) 3 (by decide), mustB_bad (b := 2) (!tw) 5 (by decide)] at hm
    obtain ⟨e1, e2⟩ := stuck (by omega)
    rw [if_pos rfl, e1, e2, hm]
  | true =>
    rw [h1, hn, mustB_yes] at hm
    rw [if_neg (by decide)]
    by_cases h20 : 20 ≤ ns.length
    · have : decide ((n : Int) < 20) = false := by have := h.len; simp; omega
      rw [this, mustB_no, mustB_bad _ _ (by decide)] at hm
      obtain ⟨e1, e2⟩ := stuck (by omega)
      rw [if_pos h20, e1, e2, hm]
    · have : decide ((n : Int) < 20) = true := by have := h.len; simp; omega
      rw [this, mustB_yes] at hm
      rw [if_neg h20]
      have ht := h.two rfl (name_lt hn)
      rw [← ht]
      cases tw with
      | true =>
        have hm5 : b3 = 5 := hm
        obtain ⟨e1, e2⟩ := stuck (by omega)
        rw [if_pos rfl, e1, e2, hm5]
      | false =>
        have hm0 : b3 = 0 := hm
        rw [if_neg (by decide)]
        rcases h.word with ⟨-, -, -, rfl, rfl⟩ | ⟨-, e, -⟩ | ⟨e, -⟩
        · cases hs : S.sign (i + 1) [58] with
          | true => have := h.b5e; rw [hs] at this; exact absurd this.symm hb
          | false =>
            have e1 := h.b5e
            have e2 := h.i5e
            rw [hs] at e1 e2
            rw [if_pos rfl, ← e1, ← e2]
            rfl
        · rw [hn] at e; cases e
        · exact absurd hm0 e
theorem FdAt.yes {S : Toks} {k : Int} {i b n g d c : Nat} {ns : List ByteArray} {q1 tw : Bool} {b3 : Nat} {s : ByteArray} {i4 b4 i5 b5 : Nat} (h : FdAt S k i b n ns q1 tw b3 s i4 b4 i5 b5) (hb : b5 = 0) :
    b = 0 ∧ n < 20 ∧ s = S.T i ∧ i5 = i + 2 ∧ i + 1 < S.n ∧ twice (S.T i) ns = false ∧ S.nameOk k i = true ∧ badR b i (fieldR S k g d i c ns) = (match pT S g (d + 1) i5 c with
    | .err b j => .err b j
    | .ok t j c' => .ok (s, t) j c') := by
  have hb4 : b4 = 0 := psB_0 (h.b5e.trans hb)
  have hb3 : b3 = 0 := by
    rcases h.word with ⟨e, -⟩ | ⟨e, -⟩ | ⟨-, -, e⟩
    · exact e
    · exact e
    · omega
  have hm := h.must
  rw [hb3] at hm
  have m2 := mustB_0 (by decide) hm.symm
  have m1 := mustB_0 (by decide) m2
  have m0 := mustB_0 (by decide) m1
  subst m0
  rw [m2] at hm
  have htw : tw = false := by
    cases tw with
    | false => rfl
    | true => cases hm
  have hq : q1 = true := by
    cases q1 with
    | true => rfl
    | false => cases m1
  have h20 : n < 20 := by
    rw [m1] at m2
    by_cases e : (n : Int) < 20
    · omega
    · have : decide ((n : Int) < 20) = false := by simpa using e
      rw [this] at m2; cases m2
  have hn : S.nameOk k i = true := by rw [← h.is rfl]; exact hq
  have htf : twice (S.T i) ns = false := by rw [← h.two rfl (name_lt hn)]; exact htw
  rcases h.word with ⟨-, -, rfl, rfl, -⟩ | ⟨-, e, -⟩ | ⟨e, -⟩
  rotate_left
  · rw [hn] at e; cases e
  · exact absurd hb3 e
  have hs : S.sign (i + 1) [58] = true := by
    cases hs : S.sign (i + 1) [58] with
    | true => rfl
    | false =>
      have e1 := h.b5e
      rw [hs, hb4] at e1
      have : (2 : Nat) = b5 := e1
      omega
  have hi5 : i5 = i + 2 := by
    have e2 := h.i5e
    rw [hs, hb4] at e2
    exact e2.symm
  subst hi5
  refine ⟨rfl, h20, rfl, rfl, sign_lt hs, htf, hn, ?_⟩
  rw [badR_0]
  unfold fieldR
  rw [if_neg (by rw [hn]; decide), if_neg (by have := h.len; omega), if_neg (by rw [htf]; decide), if_neg (by rw [hs]; decide)]
theorem FdAt.res {S : Toks} {k : Int} {i b n g d c : Nat} {ns : List ByteArray} {q1 tw : Bool} {b3 : Nat} {s : ByteArray} {i4 b4 i5 b5 b6 i6 c6 : Nat} {t : Ty} (h : FdAt S k i b n ns q1 tw b3 s i4 b4 i5 b5)
    (hr : badR b6 i6 (.ok t i6 c6) = badR b5 i5 (oneR S g d i5 c n)) : badR b6 i6 (.ok (s, t) i6 c6) = badR b i (fieldR S k g d i c ns) := by
  by_cases hb : b5 = 0
  · obtain ⟨rfl, h20, -, -, -, -, -, he⟩ := h.yes (g := g) (d := d) (c := c) hb
    rw [he]
    rw [hb, badR_0] at hr
    unfold oneR at hr
    rw [if_neg (fun x => by omega)] at hr
    rw [← hr]
    by_cases h6 : b6 = 0
    · subst h6; rfl
    · rw [badR_ne _ _ h6, badR_ne _ _ h6]
  · rw [h.no hb]
    rw [badR_ne _ _ hb] at hr
    by_cases h6 : b6 = 0
    · subst h6; cases hr
    · rw [badR_ne _ _ h6] at hr ⊢
      cases hr; rfl
theorem FdAt.hne {S : Toks} {k : Int} {i b n g d c : Nat} {ns : List ByteArray} {q1 tw : Bool} {b3 : Nat} {s : ByteArray} {i4 b4 i5 b5 : Nat} (h : FdAt S k i b n ns q1 tw b3 s i4 b4 i5 b5)
    (hne : b = 0 → ∀ j, fieldR S k g d i c ns ≠ .err 99 j) (hb : b5 = 0) : ∀ j, oneR S g d i5 c n ≠ .err 99 j := fun j e => by
  obtain ⟨rfl, h20, -, -, -, -, -, he⟩ := h.yes (g := g) (d := d) (c := c) hb
  rw [badR_0] at he
  unfold oneR at e
  rw [if_neg (fun x => by omega)] at e
  rw [e] at he
  exact hne rfl j he

theorem cell8 {w : World} {b : Nat} {v0 v1 v2 v3 v4 v5 v6 v7 : Value} {T : TypeId} {fr : Nat × Nat} (h : w.heap[b]? = some (.cells #[v0, v1, v2, v3, v4, v5, v6, v7] T fr)) : ∀ i v, ([v0, v1, v2, v3, v4, v5, v6, v7] : List Value)[i]? = some v → w.cell? ⟨b, i, none⟩ = some v := fun i v hv => by
  rw [Lib.cell_of_heap h, ← hv, ← List.getElem?_toArray]

end Go.Proofs.YtkgmdbkcldojnaaGreatDoor

/- The code's fields: names with types, one behind another. -/
namespace Go.Proofs.YtkgmdbkcldojnaaGreatDoor
open Go.RowKit
open Go.Sort
open M

end Go.Proofs.YtkgmdbkcldojnaaGreatDoor

/- The library's contracts, and how it sorts. -/


/- The code's sort of names with types. -/
namespace Go.Proofs.YtkgmdbkcldojnaaGreatDoor
open Go.RowKit
open Go.Sort
open M

end Go.Proofs.YtkgmdbkcldojnaaGreatDoor

/- The code's type of fields. -/
namespace Go.Proofs.YtkgmdbkcldojnaaGreatDoor
open Go.RowKit
open Go.Sort
open M

/-- While the code makes a type of fields: so many names, so many types. -/
structure OfI (w : World) (B g : Nat) (k : Int) (P : List Nt) (j5 j6 : Nat) (A5 : Option Addr) (c5 : Nat) (A6 : Option Addr) (c6 : Nat) (wr : World) : Prop where
  gr : w.grownBy wr (some g)
  row : ∀ i x, P[i]? = some x → ∀ q u, x.1.enc[q]? = some u → wr.cell? ⟨g, 0 + i * 8 + q, none⟩ = some u
  box : wr.heap[B]? = some (.cells #[.int .i64 k, .string ⟨#[]⟩, .int .i64 0, .string ⟨#[]⟩, .string ⟨#[]⟩, .slice A5 j5 c5, .slice A6 j6 c6] 30 (0, 0))
  res : Bx w.heap.size wr
  names : wr.ownsRow (B + 1) 9 1 (.slice A5 j5 c5) j5 ((P.take j5).map fun x => .string x.1.s)
  subs : wr.ownsRow (B + 1) 30 7 (.slice A6 j6 c6) j6 ((P.take j6).map fun x => x.1.ty).flatten
  apart : ∀ b, (Value.slice A5 j5 c5).ownBlock = some b → (Value.slice A6 j6 c6).ownBlock ≠ some b
  gB : g < w.heap.size ∧ w.heap.size < B

theorem OfI.keep {w : World} {B g : Nat} {k : Int} {P : List Nt} {j5 j6 : Nat} {A5 : Option Addr} {c5 : Nat} {A6 : Option Addr} {c6 : Nat} {wr wf : World} (h : OfI w B g k P j5 j6 A5 c5 A6 c6 wr) (hb : Below wr.heap.size wr wf) : OfI w B g k P j5 j6 A5 c5 A6 c6 wf := by
  have hB := (Array.getElem?_eq_some_iff.1 h.box).1
  have hgB := h.gB
  exact ⟨⟨hb.os.trans h.gr.os, hb.tape.trans h.gr.tape, hb.output.trans h.gr.output, Nat.le_trans h.gr.size hb.size, fun b hlt hne => (hb.block b (Nat.lt_of_lt_of_le hlt h.gr.size)).trans (h.gr.block b hlt hne)⟩,
    fun i x hx q u hu => (hb.cell (p := ⟨g, _, none⟩) (by show g < wr.heap.size; omega)).trans (h.row i x hx q u hu), (hb.block B hB).trans h.box, (hb.block _ (by omega)).trans h.res,
    own_from h.names (fun b _ hlt => hb.block b hlt), own_from h.subs (fun b _ hlt => hb.block b hlt), h.apart, h.gB⟩

end Go.Proofs.YtkgmdbkcldojnaaGreatDoor

/- The code's record and variant; so its read, whatever begins. -/
namespace Go.Proofs.YtkgmdbkcldojnaaGreatDoor
open Go.RowKit
open Go.Sort
open M

end Go.Proofs.YtkgmdbkcldojnaaGreatDoor

/- The code's read, whatever begins. -/
namespace Go.Proofs.YtkgmdbkcldojnaaGreatDoor
open Go.RowKit
open Go.Sort
open M

end Go.Proofs.YtkgmdbkcldojnaaGreatDoor

/- The code's At: the type that begins at a token. -/
namespace Go.Proofs.YtkgmdbkcldojnaaGreatDoor
open Go.RowKit
open Go.Sort
open M

section
variable {P : Program}
end

/-- A Spot at block g. -/
def SpAt (g : Nat) (x : Int) (b : Nat) (w : World) : Prop := w.heap[g]? = some (.cells #[.int .i64 x, .iface 60 (.int .i64 b)] 95 (0, 0))
theorem setRow_below {w wk : World} (h : Below w.heap.size w wk) {b : Nat} (hb : w.heap.size ≤ b) (vs : Array Value) : Below w.heap.size w (wk.setRow b vs) :=
  ⟨h.os, h.tape, h.output, by have := h.size; simpa using this, fun j hj => (setRow_other wk b j _ (by omega)).trans (h.block j hj)⟩

end Go.Proofs.YtkgmdbkcldojnaaGreatDoor
