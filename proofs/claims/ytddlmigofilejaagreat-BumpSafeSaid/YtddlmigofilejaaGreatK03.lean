/-
  Several texts in one.
-/
import Derived.Test.YtddlmigofilejaaGreatK02
import Derived.Lib.IndexAny
import Derived.Lib.IndexLaws
import Derived.Laws.AppendOwn
import Derived.Laws.MakeOwn
import Derived.Lib.SliceRun
import Derived.Deep.Upon
set_option maxRecDepth 100000
set_option maxHeartbeats 4000000
namespace Go.Proofs.YtddlmigofilejaaGreat.M
def blankC (n : Int) : Bool := n == 32 || n == 9 || n == 10
def lineC (n : Int) : Bool := !(n == 10)
def signs : List Int := [123, 125, 40, 41, 91, 93, 60, 62, 44, 58, 46, 61]
def signC (n : Int) : Bool := signs.contains n
def stop (g : Int -> Bool) (l : List UInt8) (i : Nat) : Nat := i + ((l.drop i).takeWhile fun c => g (c.toNat : Int)).length
def twoC (a b : Int) : Bool := (a == 45 && b == 62) || (a == 46 && b == 46)
def item (l : List UInt8) (i : Nat) : Nat × Nat :=
  if blankC (bt l i) = true then (0, i + 1)
  else if bt l i = 35 then (0, stop lineC l (i + 1))
  else if lowC (bt l i) = true then (1, stop anyC l (i + 1))
  else if upC (bt l i) = true then (2, stop anyC l (i + 1))
  else if digC (bt l i) = true then (3, stop digC l (i + 1))
  else if twoC (bt l i) (bt l (i + 1)) = true then (4, i + 2)
  else if signC (bt l i) = true then (4, i + 1)
  else (5, i)
structure Tok where
  kind : Nat
  place : Nat
  text : ByteArray
def finN (s : ByteArray) : Nat -> Nat -> List Tok -> List Tok × Int
  | 0, _, acc => (acc, -1)
  | n + 1, i, acc =>
    if s.size <= i then (acc, -1)
    else if (item s.data.toList i).1 = 5 then ([], (i : Int))
    else if (item s.data.toList i).1 = 0 then finN s n (item s.data.toList i).2 acc
    else finN s n (item s.data.toList i).2 (acc ++ [⟨(item s.data.toList i).1, i, s.extract i (item s.data.toList i).2⟩])
def fin (s : ByteArray) (i : Nat) (acc : List Tok) : List Tok × Int := finN s (s.size - i) i acc
end Go.Proofs.YtddlmigofilejaaGreat.M
namespace Go.Proofs.YtddlmigofilejaaGreat.M
open Go
end Go.Proofs.YtddlmigofilejaaGreat.M
namespace Go.Proofs.YtddlmigofilejaaGreat
open Go.RowKit
open Go.Sort
open M
def SpC (g : Nat) (x : Int) (b : Nat) (w : World) : Prop := g < w.heap.size /\ w.cell? ⟨g, 0, none⟩ = some (.int .i64 x) /\ w.cell? ⟨g, 1, none⟩ = some (.iface 33 (.int .i64 b))
theorem SpAt.cells {g : Nat} {x : Int} {b : Nat} {w : World} (h : SpAt g x b w) : SpC g x b w := ⟨(Array.getElem?_eq_some_iff.1 h).1, by have := cZ h 0; simpa using this, by have := cZ h 1; simpa using this⟩
structure Im where
  pkg : ByteArray
  major : Int
  mod : ByteArray
  asn : ByteArray
structure De where
  kind : Int
  name : ByteArray
  typ : Ty
structure Mo where
  name : ByteArray
  imps : List Im
  decs : List De
section
variable {P : Program} {ops : Array Oper} {Q : Exit -> Act -> World -> Prop} {md : Region.Mode} {S : World -> Prop} {off : Nat -> Bool}
end
theorem cell_alloc {w : World} {o : Obj} {a : Addr} {v : Value} (h : w.cell? a = some v) : (w.alloc o).cell? a = some v := (World.cell?_alloc_lt _ _ _ (World.block_lt_of_cell? w _ h)).trans h
structure Reads (α : Type) where
  k : Nat
  T : TypeId
  E : World -> List Value -> α -> Prop
  move : ∀ (S S' : Nat -> Prop) (w w' : World) (l : List Value) (x : α), E (strike S w) l x -> w.heap.size <= w'.heap.size -> (∀ b, b < w.heap.size -> ¬ S b -> ¬ S' b /\ w'.heap[b]? = w.heap[b]?) -> E (strike S' w') l x
  keep : ∀ (w w' : World) (l : List Value) (x : α), E w l x -> Below w.heap.size w w' -> E w' l x
  free : ∀ (S : Nat -> Prop) (w : World) (l : List Value) (x : α), E (strike S w) l x -> E w l x
  len : ∀ (w : World) (l : List Value) (x : α), E w l x -> l.length = k
def RowIn {α : Type} (R : Reads α) (w : World) (A : Option Addr) (xs : List α) : Prop :=
  ∀ i x, xs[i]? = some x -> ∃ (g o : Nat) (l : List Value), A = some ⟨g, o, none⟩ /\ g < w.heap.size /\ (∀ j v, l[j]? = some v -> w.cell? ⟨g, o + i * R.k + j, none⟩ = some v) /\ R.E w l x
theorem RowIn.below {α : Type} {R : Reads α} {w w' : World} {A : Option Addr} {xs : List α} (h : RowIn R w A xs) (hb : Below w.heap.size w w') : RowIn R w' A xs := fun i x hx => by
  obtain ⟨g, o, l, hA, hg, hc, hE⟩ := h i x hx;exact ⟨g, o, l, hA, Nat.lt_of_lt_of_le hg hb.size, fun j v hv => (hb.cell (p := ⟨g, _, none⟩) hg).trans (hc j v hv), R.keep _ _ _ _ hE hb⟩
structure Row {α : Type} (R : Reads α) (lo : Nat) (xs : List α) (A : Option Addr) (c : Nat) (w : World) : Prop where
  cells : ∃ C : List (List Value), C.length = xs.length /\ w.ownsRow lo R.T R.k (.slice A xs.length c) xs.length C.flatten /\
    ∀ (i : Nat) (l : List Value) (x : α), C[i]? = some l -> xs[i]? = some x -> R.E (strike (fun b => b < lo \/ (Value.slice A xs.length c).ownBlock = some b) w) l x
theorem Row.start {α : Type} (R : Reads α) (lo : Nat) (w : World) : Row R lo [] none 0 w := ⟨[], rfl, World.ownsRow_nil _ _ _ _, fun i l x h => by simp at h⟩
theorem Row.keep {α : Type} {R : Reads α} {lo : Nat} {xs : List α} {A : Option Addr} {c : Nat} {w w' : World} (h : Row R lo xs A c w) (hz : w.heap.size <= w'.heap.size) (hb : ∀ b, lo <= b -> b < w.heap.size -> w'.heap[b]? = w.heap[b]?) : Row R lo xs A c w' := by
  obtain ⟨C, h1, h3, h4⟩ := h.cells
  exact ⟨C, h1, own_from h3 hb, fun i l x hl hx => R.move _ _ _ _ _ _ (h4 i l x hl hx) hz fun b hlt hS => ⟨hS, hb b (by
    rcases Nat.lt_or_ge b lo with h | h
    · exact absurd (.inl h) hS
    · exact h) hlt⟩⟩
theorem Row.lt {α : Type} {R : Reads α} {lo : Nat} {xs : List α} {A : Option Addr} {c : Nat} {w : World} (h : Row R lo xs A c w) {b : Nat} (e : (Value.slice A xs.length c).ownBlock = some b) : lo <= b /\ b < w.heap.size := by
  obtain ⟨C, h1, h3, h4⟩ := h.cells;exact h3.lt b e
theorem Row.more {α : Type} {R : Reads α} {lo g cap c : Nat} {xs : List α} {A : Option Addr} {B : Nat} {w1 w3 : World} {o : Obj} {l : List Value} {x : α} {C : List (List Value)}
    (h : Row R lo xs A c w1) (hlo : lo <= B) (hwo : ∀ b, (Value.slice A xs.length c).ownBlock = some b -> b < B)
    (hC1 : C.length = xs.length) (hC4 : ∀ (i : Nat) (l : List Value) (x : α), C[i]? = some l -> xs[i]? = some x -> R.E (strike (fun b => b < lo \/ (Value.slice A xs.length c).ownBlock = some b) w1) l x)
    (hE : R.E (strike (· < B) w1) l x) (hown : w3.ownsRow lo R.T R.k (.slice (some ⟨g, 0, none⟩) (xs.length + 1) cap) (xs.length + 1) (C.flatten ++ l)) (hgrow : (w1.alloc o).grownBy w3 (Value.slice A xs.length c).ownBlock)
    (hat : (Value.slice A xs.length c).ownBlock = some g \/ g = (w1.alloc o).heap.size) :
    Row R lo (xs ++ [x]) (some ⟨g, 0, none⟩) cap w3 /\ (∀ b, (Value.slice A xs.length c).ownBlock ≠ some b -> b < w1.heap.size -> w3.heap[b]? = w1.heap[b]?) /\ w1.heap.size <= w3.heap.size := by
  have hsz : (w1.alloc o).heap.size = w1.heap.size + 1 := by simp
  have hsz3 := hgrow.size
  have hold : ∀ b, b < w1.heap.size -> (Value.slice A xs.length c).ownBlock ≠ some b -> w3.heap[b]? = w1.heap[b]? := fun b hb hne => by
    rw [hgrow.block b (by omega) (fun e => hne e.symm)];exact Lib.alloc_old w1 o b hb
  have mv : ∀ l x, R.E (strike (fun b => b < lo \/ (Value.slice A xs.length c).ownBlock = some b) w1) l x -> R.E (strike (fun b => b < lo \/ (Value.slice (some ⟨g, 0, none⟩) (xs ++ [x]).length cap).ownBlock = some b) w3) l x := fun l x hT => by
    refine R.move _ _ _ _ _ _ hT (by omega) fun b hb hS => ⟨?_, hold b hb (fun e => hS (.inr e))⟩
    rintro (e | e)
    · exact hS (.inl e)
    · simp [Value.ownBlock] at e
      subst e;rcases hat with e | e
      · exact hS (.inr e)
      · omega
  have hT : R.E (strike (fun b => b < lo \/ (Value.slice A xs.length c).ownBlock = some b) w1) l x := R.move _ _ _ _ _ _ hE (Nat.le_refl _) fun b hlt hS => ⟨by
    rintro (e | e)
    · omega
    · have := hwo b e; omega, rfl⟩
  refine ⟨⟨C ++ [l], by simp [hC1], ?_, fun i y u hy hu => ?_⟩, fun b hb hlt => hold b hlt hb, by omega⟩
  · rw [List.length_append]
    simpa using hown
  · rcases Nat.lt_or_ge i xs.length with hi | hi
    · rw [List.getElem?_append_left (by omega)] at hy hu
      have := mv y u (hC4 i y u hy hu)
      simpa [Value.ownBlock] using this
    · have hi' := (List.getElem?_eq_some_iff.1 hy).1
      have : i = xs.length := by simp [hC1] at hi'; omega
      subst this;rw [List.getElem?_append_right (by omega)] at hy hu;simp [hC1] at hy;simp at hu;rw [<- hy, <- hu];have := mv l x hT
      simpa [Value.ownBlock] using this
theorem flatk_at {k : Nat} : ∀ (C : List (List Value)), (∀ l, l ∈ C -> l.length = k) -> ∀ (i q : Nat) (l : List Value), C[i]? = some l -> q < k -> C.flatten[i * k + q]? = l[q]?
  | [], _, i, q, l, h, _ => by simp at h
  | a :: r, hC, i, q, l, h, hq => by
    have ha : a.length = k := hC a List.mem_cons_self;rw [List.flatten_cons];cases i with
    | zero =>
      simp at h; subst h
      rw [List.getElem?_append_left (by omega)];congr 1; omega
    | succ i =>
      rw [List.getElem?_append_right (by rw [ha, Nat.succ_mul]; omega), ha, show (i + 1) * k + q - k = i * k + q by rw [Nat.succ_mul]; omega];exact flatk_at r (fun l hl => hC l (List.mem_cons_of_mem _ hl)) i q l (by simpa using h) hq
theorem Row.done {α : Type} {R : Reads α} {lo : Nat} {xs : List α} {A : Option Addr} {c m : Nat} {w : World} (h : Row R lo xs A c w) (hm : m <= lo) : RowIn R (strike (· < m) w) A xs := by
  intro i x hx;obtain ⟨C, h1, h3, h4⟩ := h.cells;have hi := (List.getElem?_eq_some_iff.1 hx).1;have hl : C[i]? = some C[i] := List.getElem?_eq_getElem (by omega)
  have hall : ∀ l, l ∈ C -> l.length = R.k := fun l hl => by
    obtain ⟨j, hj⟩ := List.mem_iff_getElem?.1 hl;have hj' := (List.getElem?_eq_some_iff.1 hj).1
    exact R.len _ _ _ (h4 j l xs[j] hj (List.getElem?_eq_getElem (by omega)))
  have hE := h4 i _ x hl hx;rcases h3.2 with ⟨e, -⟩ | ⟨g, cap, cur, hv, hB, hg, -, -, hcl, htake⟩
  · cases A with
    | none => simp at e; simp [e.1] at hi
    | some a => simp at e
  · simp at hv
    obtain ⟨rfl, -⟩ := hv;refine ⟨g, 0, C[i], rfl, ?_, fun j v hv => strike_cell.2 ⟨by omega, ?_⟩, R.move _ _ _ _ _ _ hE (Nat.le_refl _) fun b hlt hS => ⟨fun e => hS (.inl (by omega)), rfl⟩⟩
    · rw [strike_size]; exact (Array.getElem?_eq_some_iff.1 hg).1
    · have hj := (List.getElem?_eq_some_iff.1 hv).1
      rw [hall _ (List.getElem_mem (by omega))] at hj;have hf := flatk_at C hall i j _ hl hj;rw [cZ hg, <- Array.getElem?_toList];have e2 : (cur.toList.take (xs.length * R.k))[i * R.k + j]? = C[i][j]? := by rw [htake, hf]
      rw [List.getElem?_take] at e2;split at e2
      · rw [show 0 + i * R.k + j = i * R.k + j by omega, e2]; exact hv
      · rename_i hn
        have : (i + 1) * R.k <= xs.length * R.k := Nat.mul_le_mul_right _ hi
        rw [Nat.succ_mul] at this;omega
def imL (x : Im) : List Value := [.string x.pkg, .int .i64 x.major, .string x.mod, .string x.asn]
def imE (_ : World) (l : List Value) (x : Im) : Prop := l = imL x /\ x.pkg.size <= 9223372036854775807 /\ x.mod.size <= 9223372036854775807 /\ x.asn.size <= 9223372036854775807
def imR : Reads Im := ⟨4, 71, imE, fun _ _ _ _ _ _ h _ _ => h, fun _ _ _ _ h _ => h, fun _ _ _ _ h => h, fun _ l x h => by rw [h.1]; rfl⟩
def deE (w : World) (l : List Value) (d : De) : Prop := d.name.size <= 9223372036854775807 /\ ∃ l7 : List Value, l = .int .i64 d.kind :: .string d.name :: l7 /\ TyAt w l7 d.typ
theorem TyAt.len {w : World} {l : List Value} {t : Ty} (h : TyAt w l t) : l.length = 7 := by
  obtain ⟨_, _, _, _, rfl, -⟩ := h.parts;rfl
def deR : Reads De := ⟨9, 191, deE, fun _ _ _ _ _ _ ⟨hs, l7, e, h⟩ hz hb => ⟨hs, l7, e, h.move hz hb⟩, fun _ _ _ _ ⟨hs, l7, e, h⟩ hb => ⟨hs, l7, e, h.keep hb⟩, fun _ _ _ _ ⟨hs, l7, e, h⟩ => ⟨hs, l7, e, h.free⟩, fun _ l x ⟨_, l7, e, h⟩ => by rw [e]; simp [h.len]⟩
def MoAt (w : World) (l : List Value) (m : Mo) : Prop :=
  ∃ (Ai : Option Addr) (ci : Nat) (Ad : Option Addr) (cd : Nat), l = [.string m.name, .slice Ai m.imps.length ci, .slice Ad m.decs.length cd] /\ m.name.size <= 9223372036854775807 /\ m.imps.length <= 9223372036854775807 /\ m.decs.length <= 9223372036854775807 /\ RowIn imR w Ai m.imps /\ RowIn deR w Ad m.decs
theorem MoAt.below {w w' : World} {l : List Value} {m : Mo} (h : MoAt w l m) (hb : Below w.heap.size w w') : MoAt w' l m := by
  obtain ⟨Ai, ci, Ad, cd, e, h1, h2, h3, h4, h5⟩ := h;exact ⟨Ai, ci, Ad, cd, e, h1, h2, h3, h4.below hb, h5.below hb⟩
theorem RowIn.move {α : Type} {R : Reads α} {S S' : Nat -> Prop} {w w' : World} {A : Option Addr} {xs : List α} (h : RowIn R (strike S w) A xs) (hz : w.heap.size <= w'.heap.size) (hb : ∀ b, b < w.heap.size -> ¬ S b -> ¬ S' b /\ w'.heap[b]? = w.heap[b]?) : RowIn R (strike S' w') A xs := fun i x hx => by
  obtain ⟨g, o, l, hA, hg, hc, hE⟩ := h i x hx;refine ⟨g, o, l, hA, by rw [strike_size] at hg ⊢; omega, fun j v hv => ?_, R.move _ _ _ _ _ _ hE hz hb⟩;obtain ⟨h1, h2⟩ := strike_cell.1 (hc j v hv);obtain ⟨h3, h4⟩ := hb g (World.block_lt_of_cell? _ _ h2) h1;exact strike_cell.2 ⟨h3, by rw [World.cell?_of_block (w := w) (a := ⟨g, _, none⟩) h4]; exact h2⟩
theorem RowIn.free {α : Type} {R : Reads α} {S : Nat -> Prop} {w : World} {A : Option Addr} {xs : List α} (h : RowIn R (strike S w) A xs) : RowIn R w A xs := fun i x hx => by
  obtain ⟨g, o, l, hA, hg, hc, hE⟩ := h i x hx;exact ⟨g, o, l, hA, by rw [strike_size] at hg; exact hg, fun j v hv => (strike_cell.1 (hc j v hv)).2, R.free _ _ _ _ hE⟩
end Go.Proofs.YtddlmigofilejaaGreat
namespace Go.Proofs.YtddlmigofilejaaGreat
open Go Go.RowKit Go.Shelf
open Go.Sort Go.Maps
open M
def tR : Reads Ty := ⟨7, 50, TyAt, fun _ _ _ _ _ _ h hz hb => h.move hz hb, fun _ _ _ _ h hb => h.keep hb, fun _ _ _ _ h => h.free, fun _ _ _ h => h.len⟩
def stE (_ : World) (l : List Value) (s : ByteArray) : Prop := l = [.string s] /\ s.size <= 9223372036854775807
def stR : Reads ByteArray := ⟨1, 9, stE, fun _ _ _ _ _ _ h _ _ => h, fun _ _ _ _ h _ => h, fun _ _ _ _ h => h, fun _ l x h => by rw [h.1]; rfl⟩
theorem SubsAt.row {w : World} {A : Option Addr} {l : List Ty} (h : SubsAt w A l) : RowIn tR w A l := fun i t ht => by
  obtain ⟨g, o, v0, v1, v2, v3, v4, v5, v6, hA, hg, h0, h1, h2, h3, h4, h5, h6, hT⟩ := h i t ht;refine ⟨g, o, [v0, v1, v2, v3, v4, v5, v6], hA, hg, fun j v hv => ?_, hT⟩;have hj := (List.getElem?_eq_some_iff.1 hv).1;simp at hj;match j, hv with
  | 0, hv => simp at hv; subst hv; exact h0
  | 1, hv => simp at hv; subst hv; exact h1
  | 2, hv => simp at hv; subst hv; exact h2
  | 3, hv => simp at hv; subst hv; exact h3
  | 4, hv => simp at hv; subst hv; exact h4
  | 5, hv => simp at hv; subst hv; exact h5
  | 6, hv => simp at hv; subst hv; exact h6
  | j + 7, _ => omega
theorem NamesAt.row {w : World} {A : Option Addr} {l : List ByteArray} (h : NamesAt w A l) : RowIn stR w A l := fun i s hs => by
  obtain ⟨g, o, hA, hg, hc, hz⟩ := h i s hs;refine ⟨g, o, [.string s], hA, hg, fun j v hv => ?_, rfl, hz⟩;cases j with
  | zero =>
    simp at hv; subst hv
    show w.cell? ⟨g, o + i * 1 + 0, none⟩ = _
    rw [show o + i * 1 + 0 = o + i by omega]; exact hc
  | succ j => simp at hv
theorem RowIn.names {w : World} {A : Option Addr} {l : List ByteArray} (h : RowIn stR w A l) : NamesAt w A l := fun i s hs => by
  obtain ⟨g, o, l, hA, hg, hc, rfl, hz⟩ := h i s hs;refine ⟨g, o, hA, hg, ?_, hz⟩;have := hc 0 _ rfl
  rw [show o + i * stR.k + 0 = o + i by show o + i * 1 + 0 = o + i; omega] at this;exact this
theorem RowIn.none_nil {α : Type} {R : Reads α} {w : World} {xs : List α} (h : RowIn R w none xs) : xs = [] := by
  cases xs with
  | nil => rfl
  | cons x r => obtain ⟨g, o, l, e, -⟩ := h 0 x rfl; cases e
theorem ty_made {w : World} {t : Ty} {An As : Option Addr} {cn cs : Nat} (hp : t.pkg.size <= 9223372036854775807) (hm : t.mod.size <= 9223372036854775807) (hn : t.name.size <= 9223372036854775807) (hln : t.names.length <= 9223372036854775807) (hls : t.subs.length <= 9223372036854775807) (hcs : t.subs.length <= cs)
    (hN : NamesAt w An t.names) (hS : RowIn tR w As t.subs) : TyAt w [.int .i64 t.kind, .string t.pkg, .int .i64 t.major, .string t.mod, .string t.name, .slice An t.names.length cn, .slice As t.subs.length cs] t := by
  have hall : ∀ i : Nat, ∃ l : List Value, l.length = 7 /\ ∀ s, t.subs[i]? = some s -> TyAt w l s /\ ∃ g o, As = some ⟨g, o, none⟩ /\ g < w.heap.size /\ ∀ j v, l[j]? = some v -> w.cell? ⟨g, o + i * 7 + j, none⟩ = some v := fun i => by
    cases hs : t.subs[i]? with
    | none => exact ⟨[.int .i64 0, .string ⟨#[]⟩, .int .i64 0, .string ⟨#[]⟩, .string ⟨#[]⟩, .slice none 0 0, .slice none 0 0], rfl, fun s h => by cases h⟩
    | some s =>
      obtain ⟨g, o, l, hA, hg, hc, hE⟩ := hS i s hs;refine ⟨l, hE.len, fun s' h => ?_⟩;cases h
      exact ⟨hE, g, o, hA, hg, hc⟩
  obtain ⟨C, hC⟩ := Classical.axiomOfChoice hall;have hd : t = .mk t.kind t.pkg t.major t.mod t.name t.names t.subs := by cases t; rfl
  rw [show TyAt w [.int .i64 t.kind, .string t.pkg, .int .i64 t.major, .string t.mod, .string t.name, .slice An t.names.length cn, .slice As t.subs.length cs] t = TyAt w [.int .i64 t.kind, .string t.pkg, .int .i64 t.major, .string t.mod, .string t.name, .slice An t.names.length cn, .slice As t.subs.length cs] (.mk t.kind t.pkg t.major t.mod t.name t.names t.subs) by rw [<- hd]];exact .mk t.kind t.pkg t.major t.mod t.name t.names t.subs An cn As cs C hp hm hn hln hls hcs hN (fun i => (hC i).1) (fun i s hs => ((hC i).2 s hs).2) (fun i s hs => ((hC i).2 s hs).1)
structure Fill {α : Type} (R : Reads α) (lo g : Nat) (xs : List α) (j : Nat) (w : World) : Prop where
  hlo : lo <= g
  hg : g < w.heap.size
  there : w.there g 0 (xs.length * R.k)
  rows : ∀ i x, i < j -> xs[i]? = some x -> ∃ l : List Value, (∀ q v, l[q]? = some v -> w.cell? ⟨g, i * R.k + q, none⟩ = some v) /\ R.E (strike (fun b => b < lo \/ b = g) w) l x
theorem Fill.start {α : Type} (R : Reads α) {lo : Nat} {w : World} (hlo : lo <= w.heap.size) (cells : Array Value) (T : TypeId) (xs : List α) (hs : cells.size = xs.length * R.k) : Fill R lo w.heap.size xs 0 (w.alloc (.cells cells T)) := by
  have hb : (w.alloc (.cells cells T)).heap[w.heap.size]? = some (.cells cells T (0, 0)) := heap_alloc_new w _;refine ⟨hlo, by simp, fun j hj => ⟨?_, ?_⟩, fun i x hi => by omega⟩
  · rw [cZ hb, Nat.zero_add, Array.getElem?_eq_getElem (by omega)]; rfl
  · exact Lib.frozen_of_heap hb _
theorem Fill.keep {α : Type} {R : Reads α} {lo g j : Nat} {xs : List α} {w w' : World} (h : Fill R lo g xs j w) (hz : w.heap.size <= w'.heap.size) (hb : ∀ b, lo <= b -> b < w.heap.size -> w'.heap[b]? = w.heap[b]?) : Fill R lo g xs j w' := by
  have eg := hb g h.hlo h.hg;refine ⟨h.hlo, Nat.lt_of_lt_of_le h.hg hz, fun q hq => ?_, fun i x hi hx => ?_⟩
  · have := h.there q hq
    rw [World.cell?_of_block (w := w) (w' := w') (a := ⟨g, 0 + q, none⟩) eg];refine ⟨this.1, ?_⟩;have e2 : w'.frozen? ⟨g, 0 + q, none⟩ = w.frozen? ⟨g, 0 + q, none⟩ := by simp only [World.frozen?]; rw [eg]
    rw [e2]; exact this.2
  · obtain ⟨l, hc, hE⟩ := h.rows i x hi hx
    exact ⟨l, fun q v hv => (World.cell?_of_block (w := w) (w' := w') (a := ⟨g, _, none⟩) eg).trans (hc q v hv), R.move _ _ _ _ _ _ hE hz fun b hlt hS => ⟨hS, hb b (by
      rcases Nat.lt_or_ge b lo with c | c
      · exact absurd (.inl c) hS
      · exact c) hlt⟩⟩
theorem Fill.at {α : Type} {R : Reads α} {lo g j m : Nat} {xs : List α} {w : World} (h : Fill R lo g xs j w) (hj : j < xs.length) (hm : m = R.k) : w.there g (j * R.k) m := fun q hq => by
  have h1 : (j + 1) * R.k <= xs.length * R.k := Nat.mul_le_mul_right _ hj;rw [Nat.succ_mul] at h1;have := h.there (j * R.k + q) (by omega)
  rw [Nat.zero_add] at this;exact this
theorem Fill.put {α : Type} {R : Reads α} {lo g j B : Nat} {xs : List α} {w : World} {l : List Value} {x : α} (h : Fill R lo g xs j w) (hx : xs[j]? = some x) (hE : R.E (strike (· < B) w) l x) (hB : g < B) : Fill R lo g xs (j + 1) (w.setCells g (j * R.k) l) := by
  have hlen := R.len _ _ _ hE;have hj := (List.getElem?_eq_some_iff.1 hx).1;have hat := h.at hj hlen;have ot : ∀ b, b < w.heap.size -> b ≠ g -> (w.setCells g (j * R.k) l).heap[b]? = w.heap[b]? := fun b hb hne => World.heap_setCells_other w g (j * R.k) l hb hne
  have hsz : (w.setCells g (j * R.k) l).heap.size = w.heap.size := size_setCells g l _ w;refine ⟨h.hlo, by rw [hsz]; exact h.hg, World.there_setCells h.there _ _ _, fun i y hi hy => ?_⟩;rcases Nat.lt_or_ge i j with c | c
  · obtain ⟨l', hc, hE'⟩ := h.rows i y c hy
    have hl' := R.len _ _ _ hE'
    refine ⟨l', fun q v hv => ?_, R.move _ _ _ _ _ _ hE' (by rw [hsz]; exact Nat.le_refl _) fun b hb hS => ⟨hS, ot b hb fun e => hS (.inr e)⟩⟩;have hq := (List.getElem?_eq_some_iff.1 hv).1;rw [World.cell?_setCells_out]
    · exact hc q v hv
    · intro _ _
      have h1 : (i + 1) * R.k <= j * R.k := Nat.mul_le_mul_right _ c;rw [Nat.succ_mul] at h1;exact .inl (by show i * R.k + q < j * R.k; omega)
  · obtain rfl : i = j := by omega
    rw [hx] at hy;cases hy
    refine ⟨l, fun q v hv => ?_, R.move _ _ _ _ _ _ hE (by rw [hsz]; exact Nat.le_refl _) fun b hb hS => ⟨?_, ot b hb (by omega)⟩⟩
    · have hq := (List.getElem?_eq_some_iff.1 hv).1
      rw [World.cell?_setCells_in g l (i * R.k) w (fun q hq => (hat q hq).1) q hq];rw [<- hv, List.getElem?_eq_getElem hq]
    · have := h.hlo
      omega
theorem Fill.done {α : Type} {R : Reads α} {lo g j m : Nat} {xs : List α} {w : World} (h : Fill R lo g xs j w) (hj : xs.length <= j) (hm : m <= lo) : RowIn R (strike (· < m) w) (some ⟨g, 0, none⟩) xs := fun i x hx => by
  have hi := (List.getElem?_eq_some_iff.1 hx).1;obtain ⟨l, hc, hE⟩ := h.rows i x (by omega) hx;have := h.hlo
  refine ⟨g, 0, l, rfl, by rw [strike_size]; exact h.hg, fun q v hv => strike_cell.2 ⟨by omega, ?_⟩, R.move _ _ _ _ _ _ hE (Nat.le_refl _) fun b _ hS => ⟨fun e => hS (.inl (by omega)), rfl⟩⟩;rw [Nat.zero_add]; exact hc q v hv
theorem setCells_below {n : Nat} {w w' : World} (h : Below n w w') {g : Nat} (hg : n <= g) (o : Nat) (l : List Value) : Below n w (w'.setCells g o l) :=
  h.trans ⟨World.os_setCells _ _ _ _, by
    induction l generalizing o w' with
    | nil => rfl
    | cons v r ih => exact (ih (h.setCell hg v) (o + 1)).trans rfl, World.output_setCells _ _ _ _, by rw [size_setCells]; exact Nat.le_refl _, fun b hb => by
    rcases Nat.lt_or_ge b w'.heap.size with c | c
    · exact World.heap_setCells_other w' g o l c (by omega)
    · rw [Array.getElem?_eq_none c, Array.getElem?_eq_none (by rw [size_setCells]; exact c)]⟩
theorem cln_any (s : ByteArray) (w : World) (hs : s.size <= 281474976710656) : Calls Tryz.prog 44 #[.string s] w fun e w' => e = .returned (.string s) /\ Below w.heap.size w w' := by
  go_enter Tryz.func44, Tryz.ntmps44
  go_wp2_with fail
  refine (Tryz.stringslite_Clone _ _ hs).mono ?_; rintro e w1 ⟨rfl, hb1⟩
  go_wp2_with fail
  go_ret;exact ⟨rfl, hb1⟩
theorem listS_any (w0 w : World) (A : Option Addr) (n c : Nat) (xs : List ByteArray) (hn : xs.length = n) (hz : n <= 1000000) (hS : NamesAt w0 A xs) (hw : Below w0.heap.size w0 w) (hsz : ∀ s ∈ xs, s.size <= 281474976710656) :
    Calls Tryz.prog 177 #[.slice A n c, .func (.func 44) #[] #[]] w fun e w' => ∃ (A' : Option Addr) (c' : Nat), e = .returned (.slice A' n c') /\ NamesAt (strike (· < w.heap.size) w') A' xs /\ Below w.heap.size w w' := by
  have HN := hZ hn;have HS := hZ hS;have HW := hZ hw;have HSZ := hZ hsz;have EQ : ∀ wz : World, (binOp .eql 47 (.slice A n c) (.slice none 0 0)).run Tryz.prog wz = .ok (.bool A.isNone) wz := fun wz => Lib.run_eql_slice_nil wz _ _ _ _ _ _ _ Tryz.underlying47
  cases A with
  | none =>
    have h0 : xs = [] := hS.row.none_nil;have hn0 : n = 0 := by rw [<- hn, h0]; rfl
    have HX := hZ h0;subst hn0;clear hS hn h0 hw hsz;go_enter Tryz.func177, Tryz.ntmps177
    go_wp2_with fail
    go_ret;exact ⟨_, _, rfl, fun i s h => by rw [HX.out] at h; simp at h, Below.refl _ _⟩
  | some ad =>
    obtain ⟨i0, hi, hz0, hz1, hz2⟩ := info_parts str_info;obtain ⟨W1, hW1⟩ : ∃ W1, W1 = w.alloc (.cells (madeCells (Value.string ⟨#[]⟩).cells (n * 1)) 9) := ⟨_, rfl⟩;have MS := run_make (P := Tryz.prog) w 47 9 i0 (.string ⟨#[]⟩) Tryz.underlying47 hi hz0 .i64 .i64 (n : Int) (n : Int) (by omega) (by omega) (by rw [hz2]; omega) (by omega);rw [hz1] at MS;simp only [Int.toNat_natCast] at MS;rw [<- hW1] at MS;have START : Hid (Fill stR w.heap.size w.heap.size xs 0 W1) := hZ (by rw [hW1]; exact Fill.start stR (Nat.le_refl _) _ _ xs (by rw [size_madeCells, hn]; rfl));have HB1 : Hid (Below w.heap.size w W1) := hZ (by rw [hW1]; exact below_new (Below.refl _ _) _);have EQ' : ∀ wz : World, (binOp .eql 47 (.slice (some ad) n c) (.slice none 0 0)).run Tryz.prog wz = .ok (.bool false) wz := EQ
    clear EQ hW1 hS hn hw hsz;go_enter Tryz.func177, Tryz.ntmps177
    go_wp2_with fail
    go_loopw [15] (fun s15 wr => ∃ k : Nat, k <= n /\ s15 = .int .i64 k /\ Hid (Fill stR w.heap.size w.heap.size xs k wr) /\ Hid (Below w.heap.size w wr)) (fun s15 _ => n - (intOf s15).toNat)
    case atStart => exact ⟨0, by omega, rfl, START, HB1⟩
    case round =>
      obtain ⟨k, hk, rfl, HF, HB⟩ := hrel;obtain ⟨wo, rfl⟩ : ∃ wo : World, wo = wr := ⟨_, rfl⟩;clear MS EQ' START HB1;by_cases hlt : k < n
      · obtain ⟨s, hs⟩ : ∃ s, xs[k]? = some s := ⟨_, List.getElem?_eq_getElem (by rw [HN.out]; exact hlt)⟩
        obtain ⟨g, o, e1, hg, hc, -⟩ := HS.out k s hs;obtain rfl := Option.some.inj e1;have hc' := ((below_over HW.out HB.out).cell (p := ⟨g, _, none⟩) hg).trans hc
        have CL := hZ (cln_any s wo (HSZ.out s (List.mem_of_getElem? hs)));have HSS := hZ hs;clear hs hc hg e1;go_upto_region 7 with fail
        clear hc';go_wp2_with fail
        refine CL.out.mono ?_; rintro e w2 ⟨rfl, hb2⟩
        have hlw : w.heap.size < wo.heap.size := HF.out.hg;have F2 := HF.out.keep hb2.size (fun b _ hb => hb2.block b hb);have HT := F2.at (m := 1) (by rw [HN.out]; exact hlt) rfl;have t0 := (HT 0 (by omega)).1;have f0 := (HT 0 (by omega)).2;rw [show k * stR.k + 0 = k by show k * 1 + 0 = k; omega] at t0 f0;obtain ⟨u0, t0⟩ := Option.isSome_iff_exists.1 t0
        have F3 : Hid (Fill stR w.heap.size w.heap.size xs (k + 1) (w2.setCell ⟨w.heap.size, k, none⟩ (.string s))) := hZ (by
          have := F2.put HSS.out (l := [.string s]) (B := wo.heap.size) ⟨rfl, by have := HSZ.out s (List.mem_of_getElem? HSS.out); omega⟩ hlw
          rw [show k * stR.k = k by show k * 1 = k; omega] at this;exact this)
        have B3 : Hid (Below w.heap.size w (w2.setCell ⟨w.heap.size, k, none⟩ (.string s))) := hZ (below_put (below_over HB.out hb2) (Nat.le_refl _) _);clear F2 HT hb2 CL;go_wp2_with fail
        go_roundw
        case rel => exact ⟨k + 1, by omega, by go_num, F3, B3⟩
        case measure => simp [intOf]; omega
      · have hkn : k = n := by omega
        have DONE := hZ (HF.out.done (m := w.heap.size) (by rw [HN.out]; omega) (Nat.le_refl _));clear hkn;go_wp2_with fail
        go_ret;exact ⟨_, _, rfl, DONE.out.names, HB.out⟩
end Go.Proofs.YtddlmigofilejaaGreat
namespace Go.Proofs.YtddlmigofilejaaGreat
open Go Go.ChangeShapes Go.WideShapes Go.ChangeAt Go.RowKit Go.Joins Go.Deep
open M
section
variable {H : Type} {enc : TypeId × Value -> H} {w : World} {base : Nat} {sp : Nat -> Bool} {held : Bool}
theorem impCells : Tryz.prog.cellsOf 71 = 4 := by kernel_rfl
theorem modCellsI : Tryz.prog.cellsOf 37 = 1 := by kernel_rfl
theorem list4 {α : Type} : ∀ l : List α, l.length = 4 -> ∃ a b c d, l = [a, b, c, d]
  | [a, b, c, d], _ => ⟨a, b, c, d, rfl⟩
  | [], h => by simp at h
  | [_], h => by simp at h
  | [_, _], h => by simp at h
  | [_, _, _], h => by simp at h
  | _ :: _ :: _ :: _ :: _ :: _, h => by simp at h
theorem open_im (n : Nat) (cs : List Value) (x : DataW H × List MemPlace) (h : DataW.trod enc Tryz.prog w base sp held n 71 cs = some x) : ∃ a, imE w cs a := by
  obtain ⟨xs, n, hfuel, -, hlen, hxl, hf⟩ := DataW.trod_struct Tryz.underlying71 h;rw [impCells] at hlen;obtain ⟨c0, c1, c2, c3, rfl⟩ := list4 cs hlen;have q : ∀ j, j < 4 -> ∃ y, xs[j]? = some y := fun j hj => ⟨_, List.getElem?_eq_getElem (by rw [hxl]; exact hj)⟩
  obtain ⟨y0, e0⟩ := q 0 (by omega); obtain ⟨y1, e1⟩ := q 1 (by omega); obtain ⟨y2, e2⟩ := q 2 (by omega); obtain ⟨y3, e3⟩ := q 3 (by omega)
  have g0 : DataW.trod enc Tryz.prog w base sp held n 9 (([c0, c1, c2, c3].drop 0).take (Tryz.prog.cellsOf 9)) = some y0 := (hf 0 _ rfl).trans e0;have g1 : DataW.trod enc Tryz.prog w base sp held n 3 (([c0, c1, c2, c3].drop 1).take (Tryz.prog.cellsOf 3)) = some y1 := (hf 1 _ rfl).trans e1;have g2 : DataW.trod enc Tryz.prog w base sp held n 9 (([c0, c1, c2, c3].drop 2).take (Tryz.prog.cellsOf 9)) = some y2 := (hf 2 _ rfl).trans e2;have g3 : DataW.trod enc Tryz.prog w base sp held n 9 (([c0, c1, c2, c3].drop 3).take (Tryz.prog.cellsOf 9)) = some y3 := (hf 3 _ rfl).trans e3;rw [tyCellsStr] at g0 g2 g3;rw [tyCellsInt] at g1;obtain ⟨p, k0, -, z0⟩ := DataW.trod_string Tryz.underlying9 g0;obtain ⟨m, k1, -, -⟩ := DataW.trod_int Tryz.underlying3 g1;obtain ⟨d, k2, -, z2⟩ := DataW.trod_string Tryz.underlying9 g2;obtain ⟨a, k3, -, z3⟩ := DataW.trod_string Tryz.underlying9 g3;simp at k0 k1 k2 k3;subst k0 k1 k2 k3;unfold maxLen at z0 z2 z3
  exact ⟨⟨p, m, d, a⟩, rfl, z0, z2, z3⟩
end
end Go.Proofs.YtddlmigofilejaaGreat
namespace Go.Proofs.YtddlmigofilejaaGreat
open Go.RowKit
open Go.Sort
open M
theorem row_more {α : Type} {R : Reads α} {lo d g cap c B : Nat} {xs : List α} {A : Option Addr} {w1 w3 : World} {o : Obj} {l : List Value} {x : α} {C : List (List Value)} {old : Array Value} {T : TypeId} {k : Nat}
    (h : Row R lo xs A c w1) (hlo : lo <= B) (hB1 : B <= w1.heap.size) (hwo : ∀ b, (Value.slice A xs.length c).ownBlock = some b -> b < B)
    (hC1 : C.length = xs.length) (hC4 : ∀ (i : Nat) (l : List Value) (x : α), C[i]? = some l -> xs[i]? = some x -> R.E (strike (fun b => b < lo \/ (Value.slice A xs.length c).ownBlock = some b) w1) l x)
    (hE : R.E (strike (· < B) w1) l x) (hown : w3.ownsRow lo R.T R.k (.slice (some ⟨g, 0, none⟩) (xs.length + 1) cap) (xs.length + 1) (C.flatten ++ l)) (hgrow : (w1.alloc o).grownBy w3 (Value.slice A xs.length c).ownBlock)
    (hat : (Value.slice A xs.length c).ownBlock = some g \/ g = (w1.alloc o).heap.size) (hd : d < lo) (hbox : w1.heap[d]? = some (.cells old T (0, 0))) (hk : old[k]? = some (.slice A xs.length c)) :
    Row R lo (xs ++ [x]) (some ⟨g, 0, none⟩) cap (w3.setCell ⟨d, k, none⟩ (.slice (some ⟨g, 0, none⟩) (xs.length + 1) cap)) /\
    (w3.setCell ⟨d, k, none⟩ (.slice (some ⟨g, 0, none⟩) (xs.length + 1) cap)).heap[d]? = some (.cells (old.setIfInBounds k (.slice (some ⟨g, 0, none⟩) (xs.length + 1) cap)) T (0, 0)) /\
    (∀ b, b < lo -> b ≠ d -> (w3.setCell ⟨d, k, none⟩ (.slice (some ⟨g, 0, none⟩) (xs.length + 1) cap)).heap[b]? = w1.heap[b]?) /\
    (∀ m, m <= d -> Below m w1 (w3.setCell ⟨d, k, none⟩ (.slice (some ⟨g, 0, none⟩) (xs.length + 1) cap))) /\
    w3.cell? ⟨d, k, none⟩ = some (.slice A xs.length c) /\ w3.frozen? ⟨d, k, none⟩ = false /\ w1.heap.size <= (w3.setCell ⟨d, k, none⟩ (.slice (some ⟨g, 0, none⟩) (xs.length + 1) cap)).heap.size := by
  obtain ⟨R3, old3, hs3⟩ := Row.more h hlo hwo hC1 hC4 hE hown hgrow hat;have hlow : ∀ b, (Value.slice A xs.length c).ownBlock = some b -> lo <= b := fun b e => (h.lt e).1
  have hd1 : d < w1.heap.size := (Array.getElem?_eq_some_iff.1 hbox).1;have B3 := (old3 d (fun e => by have := hlow d e; omega) hd1).trans hbox;have ot : ∀ b, b ≠ d -> (w3.setCell ⟨d, k, none⟩ (.slice (some ⟨g, 0, none⟩) (xs.length + 1) cap)).heap[b]? = w3.heap[b]? := fun b hb => Below.heap_setCell _ _ _ _ (by show b ≠ d; exact hb)
  have of : ∀ b, b < lo -> b ≠ d -> (w3.setCell ⟨d, k, none⟩ (.slice (some ⟨g, 0, none⟩) (xs.length + 1) cap)).heap[b]? = w1.heap[b]? := fun b hb hne => (ot b hne).trans (old3 b (fun e => by have := hlow b e; omega) (by omega))
  refine ⟨R3.keep (by simp) (fun b hb hlt => ot b (by omega)), Joins.block_setCell (i := k) B3 _, of, fun m hm => ?_, ?_, Lib.frozen_of_heap B3 k, by simp; omega⟩
  · have hgw := hgrow
    exact ⟨hgw.os.trans rfl, hgw.tape.trans rfl, hgw.output.trans rfl, by simp; omega, fun j hj => of j (by omega) (by omega)⟩
  · rw [cZ B3 k]; exact hk
end Go.Proofs.YtddlmigofilejaaGreat
