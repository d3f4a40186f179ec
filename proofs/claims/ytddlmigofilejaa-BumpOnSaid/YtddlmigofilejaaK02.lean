/-
  Several texts in one.
-/
import Derived.Test.YtddlmigofilejaaK01
import Derived.Lib.AtoiTie
import Derived.Lib.AtoiAllCases
import Derived.Lib.ItoaNum
import Derived.Lib.AtoiErrMem
import Derived.Lib.AppendIntMem
import Derived.Shelf.SlSortCmp.InsertionK
import Derived.Sort.OwnSorted
import Derived.Lib.IndexAny
import Derived.Lib.IndexLaws
import Derived.Laws.AppendOwn
import Derived.Laws.MakeOwn
import Derived.Lib.SliceRun
import Derived.Deep.Upon
set_option maxHeartbeats 2000000
namespace Go.Proofs.Ytddlmigofilejaa.M
open Go Go.Lib
end Go.Proofs.Ytddlmigofilejaa.M
namespace Go.Proofs.Ytddlmigofilejaa
open Go.RowKit
open Go.Sort
open M
def Bx (b : Nat) (w : World) : Prop := w.heap[b]? = some (.cells #[.int .i64 0, .string ⟨#[]⟩, .int .i64 0, .string ⟨#[]⟩, .string ⟨#[]⟩, .slice none 0 0, .slice none 0 0] 33 (0, 0))
end Go.Proofs.Ytddlmigofilejaa
namespace Go.Proofs.Ytddlmigofilejaa
open Go Go.Sort Go.RowKit
section
variable {P : Program} {ops ops' : Array Oper} {C : World -> Prop}
end
end Go.Proofs.Ytddlmigofilejaa
namespace Go.Proofs.Ytddlmigofilejaa.M
open Go
theorem bl_trans : ∀ a b c : List UInt8, Op.bytesLess a b = true -> Op.bytesLess b c = true -> Op.bytesLess a c = true
  | [], [], _, h, _ => by simp [Op.bytesLess] at h
  | [], _ :: _, [], _, h => by simp [Op.bytesLess] at h
  | [], _ :: _, _ :: _, _, _ => by simp [Op.bytesLess]
  | _ :: _, [], _, h, _ => by simp [Op.bytesLess] at h
  | _ :: _, _ :: _, [], _, h => by simp [Op.bytesLess] at h
  | x :: a, y :: b, z :: c, h1, h2 => by
    simp only [Op.bytesLess, Bool.or_eq_true, Bool.and_eq_true, decide_eq_true_eq, beq_iff_eq] at h1 h2 ⊢;rcases h1 with h1 | ⟨rfl, h1⟩
    · rcases h2 with h2 | ⟨rfl, h2⟩
      · exact .inl (UInt8.lt_trans h1 h2)
      · exact .inl h1
    · rcases h2 with h2 | ⟨rfl, h2⟩
      · exact .inl h2
      · exact .inr ⟨rfl, bl_trans a b c h1 h2⟩
end Go.Proofs.Ytddlmigofilejaa.M
namespace Go.Proofs.Ytddlmigofilejaa
open Go.RowKit
open Go.Sort
open M
structure Nv where
  s : ByteArray
  k : Int
  p : ByteArray
  m : Int
  d : ByteArray
  n : ByteArray
  A5 : Option Addr
  n5 : Nat
  c5 : Nat
  A6 : Option Addr
  n6 : Nat
  c6 : Nat
instance : Inhabited Nv := ⟨⟨⟨#[]⟩, 0, ⟨#[]⟩, 0, ⟨#[]⟩, ⟨#[]⟩, none, 0, 0, none, 0, 0⟩⟩
def Nv.ty (x : Nv) : List Value := [.int .i64 x.k, .string x.p, .int .i64 x.m, .string x.d, .string x.n, .slice x.A5 x.n5 x.c5, .slice x.A6 x.n6 x.c6]
def Nv.enc (x : Nv) : List Value := [.string x.s, .int .i64 x.k, .string x.p, .int .i64 x.m, .string x.d, .string x.n, .slice x.A5 x.n5 x.c5, .slice x.A6 x.n6 x.c6]
abbrev Nt := Nv × Ty
def rowN (P : List Nt) : List Value := (P.map (fun x => x.1.enc)).flatten
structure NmR (lo : Nat) (P : List Nt) (n : Nat) (v : Value) (w : World) : Prop where
  len : P.length = n
  own : w.ownsRow lo 35 8 v n (rowN P)
  szs : ∀ x, x ∈ P -> x.1.s.size <= 281474976710656
  trees : ∀ x, x ∈ P -> TyAt (strike (fun b => b < lo \/ v.ownBlock = some b) w) x.1.ty x.2
structure OfI (w : World) (B g : Nat) (k : Int) (P : List Nt) (j5 j6 : Nat) (A5 : Option Addr) (c5 : Nat) (A6 : Option Addr) (c6 : Nat) (wr : World) : Prop where
  gr : w.grownBy wr (some g)
  row : ∀ i x, P[i]? = some x -> ∀ q u, x.1.enc[q]? = some u -> wr.cell? ⟨g, 0 + i * 8 + q, none⟩ = some u
  box : wr.heap[B]? = some (.cells #[.int .i64 k, .string ⟨#[]⟩, .int .i64 0, .string ⟨#[]⟩, .string ⟨#[]⟩, .slice A5 j5 c5, .slice A6 j6 c6] 33 (0, 0))
  res : Bx w.heap.size wr
  names : wr.ownsRow (B + 1) 9 1 (.slice A5 j5 c5) j5 ((P.take j5).map fun x => .string x.1.s)
  subs : wr.ownsRow (B + 1) 33 7 (.slice A6 j6 c6) j6 ((P.take j6).map fun x => x.1.ty).flatten
  apart : ∀ b, (Value.slice A5 j5 c5).ownBlock = some b -> (Value.slice A6 j6 c6).ownBlock ≠ some b
  gB : g < w.heap.size /\ w.heap.size < B
section
variable {P : Program}
end
theorem setRow_below {w wk : World} (h : Below w.heap.size w wk) {b : Nat} (hb : w.heap.size <= b) (vs : Array Value) : Below w.heap.size w (wk.setRow b vs) :=
  ⟨h.os, h.tape, h.output, by have := h.size; simpa using this, fun j hj => (setRow_other wk b j _ (by omega)).trans (h.block j hj)⟩
end Go.Proofs.Ytddlmigofilejaa
namespace Go.Proofs.Ytddlmigofilejaa.M
structure Tok where
  kind : Nat
  place : Nat
  text : ByteArray
end Go.Proofs.Ytddlmigofilejaa.M
namespace Go.Proofs.Ytddlmigofilejaa.M
open Go
end Go.Proofs.Ytddlmigofilejaa.M
namespace Go.Proofs.Ytddlmigofilejaa
open Go.RowKit
open Go.Sort
open M
structure Im where
  pkg : ByteArray
  major : Int
  mod : ByteArray
  asn : ByteArray
structure De where
  kind : Int
  name : ByteArray
  typ : Ty
structure Mo where
  name : ByteArray
  imps : List Im
  decs : List De
section
variable {P : Program} {ops : Array Oper} {Q : Exit -> Act -> World -> Prop} {md : Region.Mode} {S : World -> Prop} {off : Nat -> Bool}
end
structure Reads (α : Type) where
  k : Nat
  T : TypeId
  E : World -> List Value -> α -> Prop
  move : ∀ (S S' : Nat -> Prop) (w w' : World) (l : List Value) (x : α), E (strike S w) l x -> w.heap.size <= w'.heap.size -> (∀ b, b < w.heap.size -> ¬ S b -> ¬ S' b /\ w'.heap[b]? = w.heap[b]?) -> E (strike S' w') l x
  keep : ∀ (w w' : World) (l : List Value) (x : α), E w l x -> Below w.heap.size w w' -> E w' l x
  free : ∀ (S : Nat -> Prop) (w : World) (l : List Value) (x : α), E (strike S w) l x -> E w l x
  len : ∀ (w : World) (l : List Value) (x : α), E w l x -> l.length = k
def RowIn {α : Type} (R : Reads α) (w : World) (A : Option Addr) (xs : List α) : Prop :=
  ∀ i x, xs[i]? = some x -> ∃ (g o : Nat) (l : List Value), A = some ⟨g, o, none⟩ /\ g < w.heap.size /\ (∀ j v, l[j]? = some v -> w.cell? ⟨g, o + i * R.k + j, none⟩ = some v) /\ R.E w l x
theorem RowIn.below {α : Type} {R : Reads α} {w w' : World} {A : Option Addr} {xs : List α} (h : RowIn R w A xs) (hb : Below w.heap.size w w') : RowIn R w' A xs := fun i x hx => by
  obtain ⟨g, o, l, hA, hg, hc, hE⟩ := h i x hx;exact ⟨g, o, l, hA, Nat.lt_of_lt_of_le hg hb.size, fun j v hv => (hb.cell (p := ⟨g, _, none⟩) hg).trans (hc j v hv), R.keep _ _ _ _ hE hb⟩
theorem flatk_at {k : Nat} : ∀ (C : List (List Value)), (∀ l, l ∈ C -> l.length = k) -> ∀ (i q : Nat) (l : List Value), C[i]? = some l -> q < k -> C.flatten[i * k + q]? = l[q]?
  | [], _, i, q, l, h, _ => by simp at h
  | a :: r, hC, i, q, l, h, hq => by
    have ha : a.length = k := hC a List.mem_cons_self;rw [List.flatten_cons];cases i with
    | zero =>
      simp at h; subst h
      rw [List.getElem?_append_left (by omega)];congr 1; omega
    | succ i =>
      rw [List.getElem?_append_right (by rw [ha, Nat.succ_mul]; omega), ha, show (i + 1) * k + q - k = i * k + q by rw [Nat.succ_mul]; omega];exact flatk_at r (fun l hl => hC l (List.mem_cons_of_mem _ hl)) i q l (by simpa using h) hq
theorem TyAt.len {w : World} {l : List Value} {t : Ty} (h : TyAt w l t) : l.length = 7 := by
  obtain ⟨_, _, _, _, rfl, -⟩ := h.parts;rfl
theorem RowIn.move {α : Type} {R : Reads α} {S S' : Nat -> Prop} {w w' : World} {A : Option Addr} {xs : List α} (h : RowIn R (strike S w) A xs) (hz : w.heap.size <= w'.heap.size) (hb : ∀ b, b < w.heap.size -> ¬ S b -> ¬ S' b /\ w'.heap[b]? = w.heap[b]?) : RowIn R (strike S' w') A xs := fun i x hx => by
  obtain ⟨g, o, l, hA, hg, hc, hE⟩ := h i x hx;refine ⟨g, o, l, hA, by rw [strike_size] at hg ⊢; omega, fun j v hv => ?_, R.move _ _ _ _ _ _ hE hz hb⟩;obtain ⟨h1, h2⟩ := strike_cell.1 (hc j v hv);obtain ⟨h3, h4⟩ := hb g (World.block_lt_of_cell? _ _ h2) h1;exact strike_cell.2 ⟨h3, by rw [World.cell?_of_block (w := w) (a := ⟨g, _, none⟩) h4]; exact h2⟩
theorem RowIn.free {α : Type} {R : Reads α} {S : Nat -> Prop} {w : World} {A : Option Addr} {xs : List α} (h : RowIn R (strike S w) A xs) : RowIn R w A xs := fun i x hx => by
  obtain ⟨g, o, l, hA, hg, hc, hE⟩ := h i x hx;exact ⟨g, o, l, hA, by rw [strike_size] at hg; exact hg, fun j v hv => (strike_cell.1 (hc j v hv)).2, R.free _ _ _ _ hE⟩
end Go.Proofs.Ytddlmigofilejaa
namespace Go.Proofs.Ytddlmigofilejaa
open Go Go.RowKit Go.Shelf
open Go.Sort Go.Maps
open M
def tR : Reads Ty := ⟨7, 33, TyAt, fun _ _ _ _ _ _ h hz hb => h.move hz hb, fun _ _ _ _ h hb => h.keep hb, fun _ _ _ _ h => h.free, fun _ _ _ h => h.len⟩
def stE (_ : World) (l : List Value) (s : ByteArray) : Prop := l = [.string s] /\ s.size <= 9223372036854775807
def stR : Reads ByteArray := ⟨1, 9, stE, fun _ _ _ _ _ _ h _ _ => h, fun _ _ _ _ h _ => h, fun _ _ _ _ h => h, fun _ l x h => by rw [h.1]; rfl⟩
theorem cln_any (s : ByteArray) (w : World) (hs : s.size <= 281474976710656) : Calls Try.prog 27 #[.string s] w fun e w' => e = .returned (.string s) /\ Below w.heap.size w w' := by
  go_enter Try.func27, Try.ntmps27
  go_wp2_with fail
  refine (Try.stringslite_Clone _ _ hs).mono ?_; rintro e w1 ⟨rfl, hb1⟩
  go_wp2_with fail
  go_ret;exact ⟨rfl, hb1⟩
end Go.Proofs.Ytddlmigofilejaa
namespace Go.Proofs.Ytddlmigofilejaa
open Go Go.ChangeShapes Go.WideShapes Go.ChangeAt Go.RowKit Go.Joins Go.Deep
open M
section
variable {H : Type} {enc : TypeId × Value -> H} {w : World} {base : Nat} {sp : Nat -> Bool} {held : Bool}
end
end Go.Proofs.Ytddlmigofilejaa
namespace Go.Proofs.Ytddlmigofilejaa
open Go.RowKit
open M
theorem few_eq (t : Ty) (most : Int) : fewT t most = if most - 1 < 0 \/ 200 < t.names.length then -1 else fewL t.subs (most - 1) := by cases t; rfl
theorem fewL_take : ∀ (l : List Ty) (k : Nat) (most : Int), fewL l most = fewL (l.drop k) (fewL (l.take k) most)
  | [], k, most => by simp [fewL]
  | t :: r, 0, most => rfl
  | t :: r, k + 1, most => by
    show (if 0 <= most then fewL r (fewT t most) else most) = fewL (r.drop k) (if 0 <= most then fewL (r.take k) (fewT t most) else most)
    split
    · exact fewL_take r k _
    · rw [fewL_neg _ _ (by omega)]
theorem fewL_snoc (l : List Ty) (k : Nat) (t : Ty) (most : Int) (h : l[k]? = some t) (h0 : 0 <= fewL (l.take k) most) : fewL (l.take (k + 1)) most = fewT t (fewL (l.take k) most) := by
  have hk := (List.getElem?_eq_some_iff.1 h).1;have e := fewL_take (l.take (k + 1)) k most;rw [List.take_take, Nat.min_eq_left (by omega)] at e
  have d : (l.take (k + 1)).drop k = [t] := by
    rw [List.take_add_one, h, List.drop_append_of_le_length (by simp; omega), List.drop_eq_nil_of_le (List.length_take_le _ _)];rfl
  rw [e, d];show (if 0 <= _ then fewL [] _ else _) = _
  rw [if_pos h0]; rfl
theorem few_any (N : Nat) : ∀ (t : Ty), many t <= N -> ∀ (most : Int), -1 <= most -> most <= 3000 -> ∀ (v : Value) (w : World), TyV w v t ->
    Calls Try.prog 15 #[v, .int .i64 most] w fun e w' => e = .returned (.int .i64 (fewT t most)) /\ Below w.heap.size w w' := by
  induction N with
  | zero => intro t h; have := many_pos t; omega
  | succ N ih =>
    intro t hN most hlo hhi v w hv;obtain ⟨l, rfl, hT⟩ := hv;obtain ⟨An, cn, As, cs, rfl, -, -, -, hzn, hz, -, hS⟩ := hT.parts;have HS := hZ hS;clear hT hS;generalize hn : t.subs.length = n at hz
    have HN := hZ hn;clear hn;have HE := hZ (few_eq t most);by_cases hm : most - 1 < 0
    · have R : Hid (fewT t most = -1) := hZ (by rw [HE.out, if_pos (.inl hm)])
      rw [R.out];go_enter Try.func15, Try.ntmps15
      go_wp2_with fail
      go_ret;exact ⟨rfl, below_new (Below.refl _ _) _⟩
    generalize hq : t.names.length = q at hzn HE
    by_cases hl : 200 < q
    · have R : Hid (fewT t most = -1) := hZ (by rw [HE.out, if_pos (.inr hl)])
      have hl' : (200 : Int) < q := by omega
      rw [R.out];clear hq;go_enter Try.func15, Try.ntmps15
      go_wp2_with fail
      go_ret;exact ⟨rfl, below_new (Below.refl _ _) _⟩
    have HR : Hid (fewT t most = fewL t.subs (most - 1)) := hZ (by rw [HE.out, if_neg (by omega)]);have hl' : ¬ (200 : Int) < q := by omega
    clear HE hq;go_enter Try.func15, Try.ntmps15
    go_wp2_with fail
    go_loopw [1, 5] (fun m i wr => ∃ k : Nat, k <= n /\ i = .int .i64 k /\ m = .int .i64 (fewL (t.subs.take k) (most - 1)) /\ Below (boxed w #[.int .i64 t.kind, .string t.pkg, .int .i64 t.major, .string t.mod, .string t.name, .slice An q cn, .slice As n cs]).heap.size (boxed w #[.int .i64 t.kind, .string t.pkg, .int .i64 t.major, .string t.mod, .string t.name, .slice An q cn, .slice As n cs]) wr) (fun _ i _ => n - (intOf i).toNat)
    case atStart => exact ⟨0, by omega, rfl, by simp [fewL], Below.refl _ _⟩
    case round =>
      obtain ⟨k, hk, rfl, rfl, hb⟩ := hrel;obtain ⟨wo, rfl⟩ : ∃ wo : World, wo = wr := ⟨_, rfl⟩;have b6 := box_cell hb 6;simp at b6;have HB := hZ (box_below hb);have bd := fewL_bd (t.subs.take k) (most - 1) (by omega);by_cases hlt : k < n
      · by_cases h0 : 0 <= fewL (t.subs.take k) (most - 1)
        · obtain ⟨s, hs⟩ : ∃ s, t.subs[k]? = some s := ⟨_, List.getElem?_eq_getElem (by rw [HN.out]; exact hlt)⟩
          obtain ⟨g, o, v0, v1, v2, v3, v4, v5, v6, rfl, -, h0', h1, h2, h3, h4, h5, h6, hs7⟩ := HS.out.below HB.out k s hs;have hsm := sub_many hs;have T1 := hZ (fewL_snoc t.subs k s (most - 1) hs h0);have IH := hZ (ih s (by omega) (fewL (t.subs.take k) (most - 1)) (by omega) (by omega) (.agg #[v0, v1, v2, v3, v4, v5, v6]) wo ⟨_, rfl, hs7⟩);clear hs7 hs hsm;generalize fewL (t.subs.take k) (most - 1) = z at h0 IH T1 bd
          go_wp2_with fail
          refine IH.out.mono ?_; rintro e w2 ⟨rfl, hb2⟩
          have hb3 := below_over hb hb2;clear b6 h0' h1 h2 h3 h4 h5 h6 hb hb2;go_wp2_with fail
          go_roundw
          case rel => exact ⟨k + 1, by omega, by go_num, by rw [T1.out], hb3⟩
          case measure => simp [intOf]; omega
        · have T0 : Hid (fewT t most = fewL (t.subs.take k) (most - 1)) := hZ (by rw [HR.out, fewL_take t.subs k, fewL_neg _ _ (by omega)])
          generalize fewL (t.subs.take k) (most - 1) = z at h0 T0 bd
          go_wp2_with fail
          go_ret;exact ⟨ret_int' T0.out, HB.out⟩
      · have T0 : Hid (fewT t most = fewL (t.subs.take k) (most - 1)) := hZ (by rw [HR.out, List.take_of_length_le (by rw [HN.out]; omega)])
        generalize fewL (t.subs.take k) (most - 1) = z at T0 bd
        go_wp2_with fail
        go_ret;exact ⟨ret_int' T0.out, HB.out⟩
end Go.Proofs.Ytddlmigofilejaa
