/-
  Several texts in one:  ·  ·  ·  ·  ·  ·  ·  ·  ·  ·  ·  ·  ·  ·  ·  ·  ·  ·  ·  ·  ·  ·  ·  ·  ·  ·  ·  ·  ·  ·  ·  ·  ·  ·  ·  ·  ·  ·  ·  ·  ·  ·  ·  ·  ·  · 
-/
import Derived.Test.YtcdmgcgjonndpaaGreatK02
import Derived.LoopTactic
import Derived.Deep.AppendLies
import Derived.Deep.DeepCutAuto
import Derived.Deep.MidRow
import Derived.Shelf.SlSortCmp.WholeK
import Derived.Ground.SlsfProg
import Derived.Test.YtcdmgcgjonndpaaGreatProg
import Derived.Sort.OwnSorted
import Derived.Test.YtcdmgcgjonndpaaGreatK00
import Derived.Lib.IndexAny
import Derived.Lib.IndexLaws
import Derived.Lib.IndexBytes
import Derived.Lib.Strings
import GoSem.Op.String
import Derived.Below
import Derived.Laws.OwnMore
import Derived.OwnWalk
import Derived.Deep.Draws
import Derived.Laws.AppendOwn
import Derived.Deep.QuietTactic
import Derived.BigQuiet
import Derived.Deep.CutBlock
import Derived.Laws.MakeOwn
import Derived.Lib.SliceRun
import Derived.Deep.Upon
import Derived.Test.YtcdmgcgjonndpaaGreatChecked
import Derived.ProofKit
import Derived.OpenShut
import Derived.Lib.SmallJoins
import Derived.Deep.Slices
import Derived.Deep.Strs
import Derived.DataReads
import Derived.WideShapes
/-  -/
namespace Go.Proofs.YtcdmgcgjonndpaaGreat
open Go.RowKit
open Go.Sort
open M
end Go.Proofs.YtcdmgcgjonndpaaGreat

/-  -/
namespace Go.Proofs.YtcdmgcgjonndpaaGreat
open Go.RowKit
open Go.Sort
open M
end Go.Proofs.YtcdmgcgjonndpaaGreat

/-  -/
namespace Go.Proofs.YtcdmgcgjonndpaaGreat
open Go.RowKit
open Go.Sort
open M
end Go.Proofs.YtcdmgcgjonndpaaGreat

/-  -/
namespace Go.Proofs.YtcdmgcgjonndpaaGreat
open Go.RowKit
open Go.Sort
open M
theorem setCells7 (w : World) (g o : Nat) (v0 v1 v2 v3 v4 v5 v6 : Value) : w.setCells g o [v0, v1, v2, v3, v4, v5, v6] = ((((((w.setCell ⟨g, o, none⟩ v0).setCell ⟨g, o + 1, none⟩ v1).setCell ⟨g, o + 2, none⟩ v2).setCell ⟨g, o + 3, none⟩ v3).setCell ⟨g, o + 4, none⟩ v4).setCell ⟨g, o + 5, none⟩ v5).setCell ⟨g, o + 6, none⟩ v6 := by
  simp [World.setCells]
theorem setCells7_other {w : World} {g o b : Nat} {l : List Value} (hl : l.length = 7) (hne : b ≠ g) : (w.setCells g o l).heap[b]? = w.heap[b]? := by
  obtain ⟨v0, v1, v2, v3, v4, v5, v6, rfl⟩ := list7 l hl
  rw [setCells7, Below.heap_setCell _ _ _ _ hne, Below.heap_setCell _ _ _ _ hne, Below.heap_setCell _ _ _ _ hne, Below.heap_setCell _ _ _ _ hne, Below.heap_setCell _ _ _ _ hne, Below.heap_setCell _ _ _ _ hne, Below.heap_setCell _ _ _ _ hne]
theorem setCells7_size {w : World} {g o : Nat} {l : List Value} (hl : l.length = 7) : (w.setCells g o l).heap.size = w.heap.size := by
  obtain ⟨v0, v1, v2, v3, v4, v5, v6, rfl⟩ := list7 l hl
  rw [setCells7]; simp
end Go.Proofs.YtcdmgcgjonndpaaGreat

/-  -/
namespace Go.Proofs.YtcdmgcgjonndpaaGreat.M
open Go
theorem bl_irrefl : ∀ a : List UInt8, Op.bytesLess a a = false
  | [] => rfl
  | x :: a => by
    have : ¬ x < x := by simp
    simp [Op.bytesLess, bl_irrefl a]
theorem bl_trans : ∀ a b c : List UInt8, Op.bytesLess a b = true → Op.bytesLess b c = true → Op.bytesLess a c = true
  | [], [], _, h, _ => by simp [Op.bytesLess] at h
  | [], _ :: _, [], _, h => by simp [Op.bytesLess] at h
  | [], _ :: _, _ :: _, _, _ => by simp [Op.bytesLess]
  | _ :: _, [], _, h, _ => by simp [Op.bytesLess] at h
  | _ :: _, _ :: _, [], _, h => by simp [Op.bytesLess] at h
  | x :: a, y :: b, z :: c, h1, h2 => by
    simp only [Op.bytesLess, Bool.or_eq_true, Bool.and_eq_true, decide_eq_true_eq, beq_iff_eq] at h1 h2 ⊢
    rcases h1 with h1 | ⟨rfl, h1⟩
    · rcases h2 with h2 | ⟨rfl, h2⟩
      · exact .inl (UInt8.lt_trans h1 h2)
      · exact .inl h1
    · rcases h2 with h2 | ⟨rfl, h2⟩
      · exact .inl h2
      · exact .inr ⟨rfl, bl_trans a b c h1 h2⟩
theorem bl_tri : ∀ a b : List UInt8, Op.bytesLess a b = false → Op.bytesLess b a = false → a = b
  | [], [], _, _ => rfl
  | [], _ :: _, h, _ => by simp [Op.bytesLess] at h
  | _ :: _, [], _, h => by simp [Op.bytesLess] at h
  | x :: a, y :: b, h1, h2 => by
    simp only [Op.bytesLess, Bool.or_eq_false_iff, Bool.and_eq_false_iff, decide_eq_false_iff_not, beq_eq_false_iff_ne] at h1 h2
    have hxy : x = y := UInt8.le_antisymm (UInt8.not_lt.1 h2.1) (UInt8.not_lt.1 h1.1)
    subst hxy
    have := bl_tri a b (by rcases h1.2 with h | h; exact absurd rfl h; exact h) (by rcases h2.2 with h | h; exact absurd rfl h; exact h)
    rw [this]
theorem bl_ntrans (a b c : List UInt8) (h1 : Op.bytesLess a b = false) (h2 : Op.bytesLess b c = false) : Op.bytesLess a c = false := by
  cases h : Op.bytesLess a c with
  | false => rfl
  | true =>
    exfalso
    cases hb : Op.bytesLess b a with
    | true => have := bl_trans b a c hb h; rw [this] at h2; cases h2
    | false =>
      have := bl_tri a b h1 hb
      subst this
      rw [h] at h2; cases h2
theorem perm_lift {α β : Type} (f : α → β) : ∀ {l : List α} {m : List β}, m.Perm (l.map f) → ∃ k : List α, k.Perm l ∧ k.map f = m := by
  intro l m h
  generalize hx : l.map f = x at h
  induction h generalizing l with
  | nil =>
    have : l = [] := by simpa using hx
    subst this
    exact ⟨[], List.Perm.nil, rfl⟩
  | cons a h ih =>
    cases l with
    | nil => simp at hx
    | cons b l =>
      simp at hx
      obtain ⟨k, hk, hm⟩ := ih hx.2
      exact ⟨b :: k, List.Perm.cons b hk, by simp [hx.1, hm]⟩
  | swap a b t =>
    cases l with
    | nil => simp at hx
    | cons u l =>
      cases l with
      | nil => simp at hx
      | cons v l =>
        simp at hx
        exact ⟨v :: u :: l, List.Perm.swap u v l, by simp [hx.1, hx.2.1, hx.2.2]⟩
  | trans h1 h2 ih1 ih2 =>
    obtain ⟨k, hk, hm⟩ := ih2 hx
    obtain ⟨k', hk', hm'⟩ := ih1 hm
    exact ⟨k', hk'.trans hk, hm'⟩
end Go.Proofs.YtcdmgcgjonndpaaGreat.M

/-  -/
namespace Go.Proofs.YtcdmgcgjonndpaaGreat
open Go.RowKit
open Go.Sort
open M
structure Nv where
  s : ByteArray
  k : Int
  p : ByteArray
  m : Int
  d : ByteArray
  n : ByteArray
  A5 : Option Addr
  n5 : Nat
  c5 : Nat
  A6 : Option Addr
  n6 : Nat
  c6 : Nat
instance : Inhabited Nv := ⟨⟨⟨#[]⟩, 0, ⟨#[]⟩, 0, ⟨#[]⟩, ⟨#[]⟩, none, 0, 0, none, 0, 0⟩⟩
def Nv.ty (x : Nv) : List Value := [.int .i64 x.k, .string x.p, .int .i64 x.m, .string x.d, .string x.n, .slice x.A5 x.n5 x.c5, .slice x.A6 x.n6 x.c6]
def Nv.enc (x : Nv) : List Value := [.string x.s, .int .i64 x.k, .string x.p, .int .i64 x.m, .string x.d, .string x.n, .slice x.A5 x.n5 x.c5, .slice x.A6 x.n6 x.c6]
theorem Nv.len (x : Nv) : x.enc.length = 8 := rfl
theorem Nv.one (x : Nv) : ∀ v ∈ x.enc, v.oneCell' = true := fun v hv => by
  simp [Nv.enc] at hv
  rcases hv with rfl | rfl | rfl | rfl | rfl | rfl | rfl | rfl <;> rfl
abbrev Nt := Nv × Ty
def rowN (P : List Nt) : List Value := (P.map (fun x => x.1.enc)).flatten
structure NmR (lo : Nat) (P : List Nt) (n : Nat) (v : Value) (w : World) : Prop where
  len : P.length = n
  own : w.ownsRow lo 49 8 v n (rowN P)
  szs : ∀ x, x ∈ P → x.1.s.size ≤ 281474976710656
  trees : ∀ x, x ∈ P → TyAt (strike (fun b => b < lo ∨ v.ownBlock = some b) w) x.1.ty x.2
end Go.Proofs.YtcdmgcgjonndpaaGreat

/-  -/
namespace Go.Proofs.YtcdmgcgjonndpaaGreat
open Go.RowKit
open Go.Sort
open M
theorem cell8 {w : World} {b : Nat} {v0 v1 v2 v3 v4 v5 v6 v7 : Value} {T : TypeId} {fr : Nat × Nat} (h : w.heap[b]? = some (.cells #[v0, v1, v2, v3, v4, v5, v6, v7] T fr)) : ∀ i v, ([v0, v1, v2, v3, v4, v5, v6, v7] : List Value)[i]? = some v → w.cell? ⟨b, i, none⟩ = some v := fun i v hv => by
  rw [Lib.cell_of_heap h, ← hv, ← List.getElem?_toArray]
end Go.Proofs.YtcdmgcgjonndpaaGreat

/-  -/
namespace Go.Proofs.YtcdmgcgjonndpaaGreat
open Go.RowKit
open Go.Sort
open M
end Go.Proofs.YtcdmgcgjonndpaaGreat

/-  -/
namespace Go.Proofs
open Go.Shelf
def Tryz.sortNamed_ren : Go.Shelf.Ren := ⟨fun | 6 => 32 | 15 => 63 | 14 => 62 | 28 => 97 | 29 => 98 | 20 => 89 | 21 => 90 | 22 => 91 | 23 => 92 | 24 => 93 | 25 => 94 | 26 => 95 | 27 => 96 | 46 => 121 | 47 => 122 | 48 => 123 | 49 => 124 | 50 => 125 | 57 => 138 | n => n, fun | 22 => 22 | 24 => 49 | 25 => 71 | 3 => 3 | 39 => 105 | 0 => 0 | 53 => 144 | 55 => 146 | 4 => 4 | 46 => 137 | 45 => 136 | 50 => 141 | 5 => 5 | 9 => 9 | 66 => 163 | 70 => 108 | 76 => 176 | 77 => 177 | n => n, fun | n => n⟩
theorem Tryz.sortNamed : Go.Proofs.SlLaysF0.n6 Tryz.prog Tryz.sortNamed_ren := {
  mixed := by kernel_rfl
  f6 := ⟨Tryz.f32.name, by decide, Tryz.func32.trans (congrArg some (by kernel_rfl))⟩
  f14 := ⟨Tryz.f62.name, by decide, Tryz.func62.trans (congrArg some (by kernel_rfl))⟩
  f15 := Tryz.func63.trans (congrArg some (by kernel_rfl))
  f20 := ⟨Tryz.f89.name, by decide, Tryz.func89.trans (congrArg some (by kernel_rfl))⟩
  f21 := ⟨Tryz.f90.name, by decide, Tryz.func90.trans (congrArg some (by kernel_rfl))⟩
  f22 := ⟨Tryz.f91.name, by decide, Tryz.func91.trans (congrArg some (by kernel_rfl))⟩
  f23 := ⟨Tryz.f92.name, by decide, Tryz.func92.trans (congrArg some (by kernel_rfl))⟩
  f24 := ⟨Tryz.f93.name, by decide, Tryz.func93.trans (congrArg some (by kernel_rfl))⟩
  f25 := ⟨Tryz.f94.name, by decide, Tryz.func94.trans (congrArg some (by kernel_rfl))⟩
  f26 := ⟨Tryz.f95.name, by decide, Tryz.func95.trans (congrArg some (by kernel_rfl))⟩
  f27 := ⟨Tryz.f96.name, by decide, Tryz.func96.trans (congrArg some (by kernel_rfl))⟩
  f28 := Tryz.func97.trans (congrArg some (by kernel_rfl))
  f29 := Tryz.func98.trans (congrArg some (by kernel_rfl))
  f46 := ⟨Tryz.f121.name, by decide, Tryz.func121.trans (congrArg some (by kernel_rfl))⟩
  f47 := Tryz.func122.trans (congrArg some (by kernel_rfl))
  f48 := Tryz.func123.trans (congrArg some (by kernel_rfl))
  f49 := ⟨Tryz.f124.name, by decide, Tryz.func124.trans (congrArg some (by kernel_rfl))⟩
  f50 := ⟨Tryz.f125.name, by decide, Tryz.func125.trans (congrArg some (by kernel_rfl))⟩
  f57 := ⟨Tryz.f138.name, by decide, Tryz.func138.trans (congrArg some (by kernel_rfl))⟩
  t0 := Tryz.underlying0
  a0 := Tryz.isAgg0
  z0 := Tryz.sizeOf0
  v0 := Tryz.zeroValue0
  t3 := Tryz.underlying3
  a3 := Tryz.isAgg3
  z3 := Tryz.sizeOf3
  v3 := Tryz.zeroValue3
  t4 := Tryz.underlying4
  a4 := Tryz.isAgg4
  z4 := Tryz.sizeOf4
  v4 := Tryz.zeroValue4
  t5 := Tryz.underlying5
  a5 := Tryz.isAgg5
  z5 := Tryz.sizeOf5
  v5 := Tryz.zeroValue5
  t9 := Tryz.underlying9
  a9 := Tryz.isAgg9
  z9 := Tryz.sizeOf9
  v9 := Tryz.zeroValue9
  t22 := Tryz.underlying22
  a22 := Tryz.isAgg22
  z22 := Tryz.sizeOf22
  v22 := Tryz.zeroValue22
  t25 := Tryz.underlying71
  a25 := Tryz.isAgg71
  z25 := Tryz.sizeOf71
  v25 := Tryz.zeroValue71
  t39 := Tryz.underlying105
  a39 := Tryz.isAgg105
  z39 := Tryz.sizeOf105
  v39 := Tryz.zeroValue105
  t45 := Tryz.underlying136
  a45 := Tryz.isAgg136
  z45 := Tryz.sizeOf136
  v45 := Tryz.zeroValue136
  t46 := Tryz.underlying137
  a46 := Tryz.isAgg137
  z46 := Tryz.sizeOf137
  v46 := Tryz.zeroValue137
  t50 := Tryz.underlying141
  a50 := Tryz.isAgg141
  z50 := Tryz.sizeOf141
  v50 := Tryz.zeroValue141
  t53 := Tryz.underlying144
  a53 := Tryz.isAgg144
  z53 := Tryz.sizeOf144
  v53 := Tryz.zeroValue144
  t55 := Tryz.underlying146
  a55 := Tryz.isAgg146
  z55 := Tryz.sizeOf146
  v55 := Tryz.zeroValue146
  t66 := Tryz.underlying163
  a66 := Tryz.isAgg163
  z66 := Tryz.sizeOf163
  v66 := Tryz.zeroValue163
  t70 := Tryz.underlying108
  a70 := Tryz.isAgg108
  z70 := Tryz.sizeOf108
  v70 := Tryz.zeroValue108
  t76 := Tryz.underlying176
  a76 := Tryz.isAgg176
  z76 := Tryz.sizeOf176
  v76 := Tryz.zeroValue176
  t77 := Tryz.underlying177
  a77 := Tryz.isAgg177
  z77 := Tryz.sizeOf177
  v77 := Tryz.zeroValue177 }
end Go.Proofs

/-  -/
namespace Go.Proofs.YtcdmgcgjonndpaaGreat
open Go.RowKit
open Go.Sort
open M
theorem grown_sortedN {w : World} {g n : Nat} {os : Array Obj} (d : Array Nv) : w.grownBy (sortWorldK Nv.enc 8 w g 0 n d os) (some g) := by
  unfold sortWorldK putRowK
  refine ⟨rfl, rfl, rfl, by simp, fun k hk hne => ?_⟩
  rw [heap_grow_old _ _ (by simpa using hk)]
  have : g ≠ k := fun e => hne (by rw [e])
  simp [putRow, mapBlock, Sort.ahead, Array.getElem?_modify, this]
end Go.Proofs.YtcdmgcgjonndpaaGreat

/-  -/
namespace Go.Proofs.YtcdmgcgjonndpaaGreat
open Go.RowKit
open Go.Sort
open M
structure OfI (w : World) (B g : Nat) (k : Int) (P : List Nt) (j5 j6 : Nat) (A5 : Option Addr) (c5 : Nat) (A6 : Option Addr) (c6 : Nat) (wr : World) : Prop where
  gr : w.grownBy wr (some g)
  row : ∀ i x, P[i]? = some x → ∀ q u, x.1.enc[q]? = some u → wr.cell? ⟨g, 0 + i * 8 + q, none⟩ = some u
  box : wr.heap[B]? = some (.cells #[.int .i64 k, .string ⟨#[]⟩, .int .i64 0, .string ⟨#[]⟩, .string ⟨#[]⟩, .slice A5 j5 c5, .slice A6 j6 c6] 45 (0, 0))
  res : Bx w.heap.size wr
  names : wr.ownsRow (B + 1) 9 1 (.slice A5 j5 c5) j5 ((P.take j5).map fun x => .string x.1.s)
  subs : wr.ownsRow (B + 1) 45 7 (.slice A6 j6 c6) j6 ((P.take j6).map fun x => x.1.ty).flatten
  apart : ∀ b, (Value.slice A5 j5 c5).ownBlock = some b → (Value.slice A6 j6 c6).ownBlock ≠ some b
  gB : g < w.heap.size ∧ w.heap.size < B
end Go.Proofs.YtcdmgcgjonndpaaGreat

/-  -/
namespace Go.Proofs.YtcdmgcgjonndpaaGreat
open Go.RowKit
open Go.Sort
open M
end Go.Proofs.YtcdmgcgjonndpaaGreat

/-  -/
namespace Go.Proofs.YtcdmgcgjonndpaaGreat
open Go.RowKit
open Go.Sort
open M
end Go.Proofs.YtcdmgcgjonndpaaGreat

/-  -/
namespace Go.Proofs.YtcdmgcgjonndpaaGreat
open Go.RowKit
open Go.Sort
open M
section
variable {P : Program}
end
theorem setRow_below {w wk : World} (h : Below w.heap.size w wk) {b : Nat} (hb : w.heap.size ≤ b) (vs : Array Value) : Below w.heap.size w (wk.setRow b vs) :=
  ⟨h.os, h.tape, h.output, by have := h.size; simpa using this, fun j hj => (setRow_other wk b j _ (by omega)).trans (h.block j hj)⟩
end Go.Proofs.YtcdmgcgjonndpaaGreat

/-  -/
namespace Go.Proofs.YtcdmgcgjonndpaaGreat
open Go.RowKit
open Go.Sort
open M
end Go.Proofs.YtcdmgcgjonndpaaGreat

/-  -/
namespace Go.Proofs.YtcdmgcgjonndpaaGreat
open Go.RowKit
open Go.Sort
open M
end Go.Proofs.YtcdmgcgjonndpaaGreat

/-  -/
namespace Go.Proofs.YtcdmgcgjonndpaaGreat
open Go.RowKit
open Go.Sort
open M
end Go.Proofs.YtcdmgcgjonndpaaGreat

/-  -/
namespace Go.Proofs.YtcdmgcgjonndpaaGreat.M
def blankC (n : Int) : Bool := n == 32 || n == 9 || n == 10
def lineC (n : Int) : Bool := !(n == 10)
def signs : List Int := [123, 125, 40, 41, 91, 93, 60, 62, 44, 58, 46, 61]
def signC (n : Int) : Bool := signs.contains n
def stop (g : Int → Bool) (l : List UInt8) (i : Nat) : Nat := i + ((l.drop i).takeWhile fun c => g (c.toNat : Int)).length
def twoC (a b : Int) : Bool := (a == 45 && b == 62) || (a == 46 && b == 46)
def item (l : List UInt8) (i : Nat) : Nat × Nat :=
  if blankC (bt l i) = true then (0, i + 1)
  else if bt l i = 35 then (0, stop lineC l (i + 1))
  else if lowC (bt l i) = true then (1, stop anyC l (i + 1))
  else if upC (bt l i) = true then (2, stop anyC l (i + 1))
  else if digC (bt l i) = true then (3, stop digC l (i + 1))
  else if twoC (bt l i) (bt l (i + 1)) = true then (4, i + 2)
  else if signC (bt l i) = true then (4, i + 1)
  else (5, i)
structure Tok where
  kind : Nat
  place : Nat
  text : ByteArray
def finN (s : ByteArray) : Nat → Nat → List Tok → List Tok × Int
  | 0, _, acc => (acc, -1)
  | n + 1, i, acc =>
    if s.size ≤ i then (acc, -1)
    else if (item s.data.toList i).1 = 5 then ([], (i : Int))
    else if (item s.data.toList i).1 = 0 then finN s n (item s.data.toList i).2 acc
    else finN s n (item s.data.toList i).2 (acc ++ [⟨(item s.data.toList i).1, i, s.extract i (item s.data.toList i).2⟩])
def fin (s : ByteArray) (i : Nat) (acc : List Tok) : List Tok × Int := finN s (s.size - i) i acc
end Go.Proofs.YtcdmgcgjonndpaaGreat.M

/-  -/
namespace Go.Proofs.YtcdmgcgjonndpaaGreat.M
open Go
end Go.Proofs.YtcdmgcgjonndpaaGreat.M

/-  -/
namespace Go.Proofs.YtcdmgcgjonndpaaGreat
open Go.RowKit
open M
end Go.Proofs.YtcdmgcgjonndpaaGreat

/-  -/
namespace Go.Proofs.YtcdmgcgjonndpaaGreat
open Go.RowKit
open M
end Go.Proofs.YtcdmgcgjonndpaaGreat

/-  -/
namespace Go.Proofs.YtcdmgcgjonndpaaGreat
open Go.RowKit
open M
end Go.Proofs.YtcdmgcgjonndpaaGreat

/-  -/
namespace Go.Proofs.YtcdmgcgjonndpaaGreat
open Go.RowKit
open M
end Go.Proofs.YtcdmgcgjonndpaaGreat

/-  -/
namespace Go.Proofs.YtcdmgcgjonndpaaGreat
open Go.RowKit
open M
end Go.Proofs.YtcdmgcgjonndpaaGreat

/-  -/
namespace Go.Proofs.YtcdmgcgjonndpaaGreat
open Go.RowKit
open M
end Go.Proofs.YtcdmgcgjonndpaaGreat

/-  -/
namespace Go.Proofs.YtcdmgcgjonndpaaGreat
open Go.RowKit
open Go.Sort
open M
def SpC (g : Nat) (x : Int) (b : Nat) (w : World) : Prop := g < w.heap.size ∧ w.cell? ⟨g, 0, none⟩ = some (.int .i64 x) ∧ w.cell? ⟨g, 1, none⟩ = some (.iface 60 (.int .i64 b))
end Go.Proofs.YtcdmgcgjonndpaaGreat

/-  -/
namespace Go.Proofs.YtcdmgcgjonndpaaGreat
open Go.RowKit
open Go.Sort
open M
structure Im where
  pkg : ByteArray
  major : Int
  mod : ByteArray
  asn : ByteArray
structure De where
  kind : Int
  name : ByteArray
  typ : Ty
structure Mo where
  name : ByteArray
  imps : List Im
  decs : List De
end Go.Proofs.YtcdmgcgjonndpaaGreat

/-  -/
namespace Go.Proofs.YtcdmgcgjonndpaaGreat
open Go.RowKit
open Go.Sort
open M
end Go.Proofs.YtcdmgcgjonndpaaGreat

/-  -/
namespace Go.Proofs.YtcdmgcgjonndpaaGreat
open Go.RowKit
open Go.Sort
open M
section
variable {P : Program} {ops : Array Oper} {Q : Exit → Act → World → Prop} {md : Region.Mode} {S : World → Prop} {off : Nat → Bool}
theorem AnyX.go2 (i j : Nat) {o p : Oper} {k : Nat} {listed : Array Bool} {a : Act} {w : World} (hr : Region.ready md ops listed = [i, j]) (ho : ops[i]? = some o) (hg : o.guard = none) (hp : ops[j]? = some p) (hgp : p.guard = none)
    (h : ∀ K : Act → World → Prop, Hid (∀ a' w', (off i = false → S w → S w') → AnyX P md ops Q S off k (listed.setIfInBounds i true) a' w' → K a' w') → Oper.wp P o a w K Q)
    (h2 : ∀ K : Act → World → Prop, Hid (∀ a' w', (off j = false → S w → S w') → AnyX P md ops Q S off k (listed.setIfInBounds j true) a' w' → K a' w') → Oper.wp P p a w K Q) : AnyX P md ops Q S off (k + 1) listed a w :=
  ⟨fun h0 => (by rw [hr] at h0; cases h0), fun q hq => by
    rw [hr] at hq
    rcases List.mem_cons.1 hq with rfl | hq
    · refine wpOp_step ho fun K hK => ?_
      rw [if_pos (by simp [Region.wanted, hg])]
      exact h K (Lib.hid fun a w hS hW => hK a w ⟨hS, hW⟩)
    · obtain rfl := List.mem_singleton.1 hq
      refine wpOp_step hp fun K hK => ?_
      rw [if_pos (by simp [Region.wanted, hgp])]
      exact h2 K (Lib.hid fun a w hS hW => hK a w ⟨hS, hW⟩)⟩
end
theorem cell_alloc {w : World} {o : Obj} {a : Addr} {v : Value} (h : w.cell? a = some v) : (w.alloc o).cell? a = some v := (World.cell?_alloc_lt _ _ _ (World.block_lt_of_cell? w _ h)).trans h
end Go.Proofs.YtcdmgcgjonndpaaGreat

/-  -/
namespace Go.Proofs.YtcdmgcgjonndpaaGreat
open Go.RowKit
open Go.Sort
open M
structure Reads (α : Type) where
  k : Nat
  T : TypeId
  E : World → List Value → α → Prop
  move : ∀ (S S' : Nat → Prop) (w w' : World) (l : List Value) (x : α), E (strike S w) l x → w.heap.size ≤ w'.heap.size → (∀ b, b < w.heap.size → ¬ S b → ¬ S' b ∧ w'.heap[b]? = w.heap[b]?) → E (strike S' w') l x
  keep : ∀ (w w' : World) (l : List Value) (x : α), E w l x → Below w.heap.size w w' → E w' l x
  free : ∀ (S : Nat → Prop) (w : World) (l : List Value) (x : α), E (strike S w) l x → E w l x
  len : ∀ (w : World) (l : List Value) (x : α), E w l x → l.length = k
def RowIn {α : Type} (R : Reads α) (w : World) (A : Option Addr) (xs : List α) : Prop :=
  ∀ i x, xs[i]? = some x → ∃ (g o : Nat) (l : List Value), A = some ⟨g, o, none⟩ ∧ g < w.heap.size ∧ (∀ j v, l[j]? = some v → w.cell? ⟨g, o + i * R.k + j, none⟩ = some v) ∧ R.E w l x
theorem RowIn.below {α : Type} {R : Reads α} {w w' : World} {A : Option Addr} {xs : List α} (h : RowIn R w A xs) (hb : Below w.heap.size w w') : RowIn R w' A xs := fun i x hx => by
  obtain ⟨g, o, l, hA, hg, hc, hE⟩ := h i x hx
  exact ⟨g, o, l, hA, Nat.lt_of_lt_of_le hg hb.size, fun j v hv => (hb.cell (p := ⟨g, _, none⟩) hg).trans (hc j v hv), R.keep _ _ _ _ hE hb⟩
structure Row {α : Type} (R : Reads α) (lo : Nat) (xs : List α) (A : Option Addr) (c : Nat) (w : World) : Prop where
  cells : ∃ C : List (List Value), C.length = xs.length ∧ w.ownsRow lo R.T R.k (.slice A xs.length c) xs.length C.flatten ∧
    ∀ (i : Nat) (l : List Value) (x : α), C[i]? = some l → xs[i]? = some x → R.E (strike (fun b => b < lo ∨ (Value.slice A xs.length c).ownBlock = some b) w) l x
theorem Row.start {α : Type} (R : Reads α) (lo : Nat) (w : World) : Row R lo [] none 0 w := ⟨[], rfl, World.ownsRow_nil _ _ _ _, fun i l x h => by simp at h⟩
theorem Row.keep {α : Type} {R : Reads α} {lo : Nat} {xs : List α} {A : Option Addr} {c : Nat} {w w' : World} (h : Row R lo xs A c w) (hz : w.heap.size ≤ w'.heap.size) (hb : ∀ b, lo ≤ b → b < w.heap.size → w'.heap[b]? = w.heap[b]?) : Row R lo xs A c w' := by
  obtain ⟨C, h1, h3, h4⟩ := h.cells
  exact ⟨C, h1, own_from h3 hb, fun i l x hl hx => R.move _ _ _ _ _ _ (h4 i l x hl hx) hz fun b hlt hS => ⟨hS, hb b (by
    rcases Nat.lt_or_ge b lo with h | h
    · exact absurd (.inl h) hS
    · exact h) hlt⟩⟩
theorem Row.lt {α : Type} {R : Reads α} {lo : Nat} {xs : List α} {A : Option Addr} {c : Nat} {w : World} (h : Row R lo xs A c w) {b : Nat} (e : (Value.slice A xs.length c).ownBlock = some b) : lo ≤ b ∧ b < w.heap.size := by
  obtain ⟨C, h1, h3, h4⟩ := h.cells
  exact h3.lt b e
theorem Row.more {α : Type} {R : Reads α} {lo g cap c : Nat} {xs : List α} {A : Option Addr} {B : Nat} {w1 w3 : World} {o : Obj} {l : List Value} {x : α} {C : List (List Value)}
    (h : Row R lo xs A c w1) (hlo : lo ≤ B) (hwo : ∀ b, (Value.slice A xs.length c).ownBlock = some b → b < B)
    (hC1 : C.length = xs.length) (hC4 : ∀ (i : Nat) (l : List Value) (x : α), C[i]? = some l → xs[i]? = some x → R.E (strike (fun b => b < lo ∨ (Value.slice A xs.length c).ownBlock = some b) w1) l x)
    (hE : R.E (strike (· < B) w1) l x) (hown : w3.ownsRow lo R.T R.k (.slice (some ⟨g, 0, none⟩) (xs.length + 1) cap) (xs.length + 1) (C.flatten ++ l)) (hgrow : (w1.alloc o).grownBy w3 (Value.slice A xs.length c).ownBlock)
    (hat : (Value.slice A xs.length c).ownBlock = some g ∨ g = (w1.alloc o).heap.size) :
    Row R lo (xs ++ [x]) (some ⟨g, 0, none⟩) cap w3 ∧ (∀ b, (Value.slice A xs.length c).ownBlock ≠ some b → b < w1.heap.size → w3.heap[b]? = w1.heap[b]?) ∧ w1.heap.size ≤ w3.heap.size := by
  have hsz : (w1.alloc o).heap.size = w1.heap.size + 1 := by simp
  have hsz3 := hgrow.size
  have hold : ∀ b, b < w1.heap.size → (Value.slice A xs.length c).ownBlock ≠ some b → w3.heap[b]? = w1.heap[b]? := fun b hb hne => by
    rw [hgrow.block b (by omega) (fun e => hne e.symm)]
    exact Lib.alloc_old w1 o b hb
  have mv : ∀ l x, R.E (strike (fun b => b < lo ∨ (Value.slice A xs.length c).ownBlock = some b) w1) l x → R.E (strike (fun b => b < lo ∨ (Value.slice (some ⟨g, 0, none⟩) (xs ++ [x]).length cap).ownBlock = some b) w3) l x := fun l x hT => by
    refine R.move _ _ _ _ _ _ hT (by omega) fun b hb hS => ⟨?_, hold b hb (fun e => hS (.inr e))⟩
    rintro (e | e)
    · exact hS (.inl e)
    · simp [Value.ownBlock] at e
      subst e
      rcases hat with e | e
      · exact hS (.inr e)
      · omega
  have hT : R.E (strike (fun b => b < lo ∨ (Value.slice A xs.length c).ownBlock = some b) w1) l x := R.move _ _ _ _ _ _ hE (Nat.le_refl _) fun b hlt hS => ⟨by
    rintro (e | e)
    · omega
    · have := hwo b e; omega, rfl⟩
  refine ⟨⟨C ++ [l], by simp [hC1], ?_, fun i y u hy hu => ?_⟩, fun b hb hlt => hold b hlt hb, by omega⟩
  · rw [List.length_append]
    simpa using hown
  · rcases Nat.lt_or_ge i xs.length with hi | hi
    · rw [List.getElem?_append_left (by omega)] at hy hu
      have := mv y u (hC4 i y u hy hu)
      simpa [Value.ownBlock] using this
    · have hi' := (List.getElem?_eq_some_iff.1 hy).1
      have : i = xs.length := by simp [hC1] at hi'; omega
      subst this
      rw [List.getElem?_append_right (by omega)] at hy hu
      simp [hC1] at hy
      simp at hu
      rw [← hy, ← hu]
      have := mv l x hT
      simpa [Value.ownBlock] using this
theorem flatk_at {k : Nat} : ∀ (C : List (List Value)), (∀ l, l ∈ C → l.length = k) → ∀ (i q : Nat) (l : List Value), C[i]? = some l → q < k → C.flatten[i * k + q]? = l[q]?
  | [], _, i, q, l, h, _ => by simp at h
  | a :: r, hC, i, q, l, h, hq => by
    have ha : a.length = k := hC a List.mem_cons_self
    rw [List.flatten_cons]
    cases i with
    | zero =>
      simp at h; subst h
      rw [List.getElem?_append_left (by omega)]
      congr 1; omega
    | succ i =>
      rw [List.getElem?_append_right (by rw [ha, Nat.succ_mul]; omega), ha, show (i + 1) * k + q - k = i * k + q by rw [Nat.succ_mul]; omega]
      exact flatk_at r (fun l hl => hC l (List.mem_cons_of_mem _ hl)) i q l (by simpa using h) hq
theorem Row.done {α : Type} {R : Reads α} {lo : Nat} {xs : List α} {A : Option Addr} {c m : Nat} {w : World} (h : Row R lo xs A c w) (hm : m ≤ lo) : RowIn R (strike (· < m) w) A xs := by
  intro i x hx
  obtain ⟨C, h1, h3, h4⟩ := h.cells
  have hi := (List.getElem?_eq_some_iff.1 hx).1
  have hl : C[i]? = some C[i] := List.getElem?_eq_getElem (by omega)
  have hall : ∀ l, l ∈ C → l.length = R.k := fun l hl => by
    obtain ⟨j, hj⟩ := List.mem_iff_getElem?.1 hl
    have hj' := (List.getElem?_eq_some_iff.1 hj).1
    exact R.len _ _ _ (h4 j l xs[j] hj (List.getElem?_eq_getElem (by omega)))
  have hE := h4 i _ x hl hx
  rcases h3.2 with ⟨e, -⟩ | ⟨g, cap, cur, hv, hB, hg, -, -, hcl, htake⟩
  · cases A with
    | none => simp at e; simp [e.1] at hi
    | some a => simp at e
  · simp at hv
    obtain ⟨rfl, -⟩ := hv
    refine ⟨g, 0, C[i], rfl, ?_, fun j v hv => strike_cell.2 ⟨by omega, ?_⟩, R.move _ _ _ _ _ _ hE (Nat.le_refl _) fun b hlt hS => ⟨fun e => hS (.inl (by omega)), rfl⟩⟩
    · rw [strike_size]; exact (Array.getElem?_eq_some_iff.1 hg).1
    · have hj := (List.getElem?_eq_some_iff.1 hv).1
      rw [hall _ (List.getElem_mem (by omega))] at hj
      have hf := flatk_at C hall i j _ hl hj
      rw [Lib.cell_of_heap hg, ← Array.getElem?_toList]
      have e2 : (cur.toList.take (xs.length * R.k))[i * R.k + j]? = C[i][j]? := by rw [htake, hf]
      rw [List.getElem?_take] at e2
      split at e2
      · rw [show 0 + i * R.k + j = i * R.k + j by omega, e2]; exact hv
      · rename_i hn
        have : (i + 1) * R.k ≤ xs.length * R.k := Nat.mul_le_mul_right _ hi
        rw [Nat.succ_mul] at this
        omega
def imL (x : Im) : List Value := [.string x.pkg, .int .i64 x.major, .string x.mod, .string x.asn]
def imE (_ : World) (l : List Value) (x : Im) : Prop := l = imL x ∧ x.pkg.size ≤ 9223372036854775807 ∧ x.mod.size ≤ 9223372036854775807 ∧ x.asn.size ≤ 9223372036854775807
def imR : Reads Im := ⟨4, 73, imE, fun _ _ _ _ _ _ h _ _ => h, fun _ _ _ _ h _ => h, fun _ _ _ _ h => h, fun _ l x h => by rw [h.1]; rfl⟩
def deE (w : World) (l : List Value) (d : De) : Prop := d.name.size ≤ 9223372036854775807 ∧ ∃ l7 : List Value, l = .int .i64 d.kind :: .string d.name :: l7 ∧ TyAt w l7 d.typ
theorem TyAt.len {w : World} {l : List Value} {t : Ty} (h : TyAt w l t) : l.length = 7 := by
  obtain ⟨_, _, _, _, rfl, -⟩ := h.parts
  rfl
def deR : Reads De := ⟨9, 47, deE, fun _ _ _ _ _ _ ⟨hs, l7, e, h⟩ hz hb => ⟨hs, l7, e, h.move hz hb⟩, fun _ _ _ _ ⟨hs, l7, e, h⟩ hb => ⟨hs, l7, e, h.keep hb⟩, fun _ _ _ _ ⟨hs, l7, e, h⟩ => ⟨hs, l7, e, h.free⟩, fun _ l x ⟨_, l7, e, h⟩ => by rw [e]; simp [h.len]⟩
def MoAt (w : World) (l : List Value) (m : Mo) : Prop :=
  ∃ (Ai : Option Addr) (ci : Nat) (Ad : Option Addr) (cd : Nat), l = [.string m.name, .slice Ai m.imps.length ci, .slice Ad m.decs.length cd] ∧ m.name.size ≤ 9223372036854775807 ∧ m.imps.length ≤ 9223372036854775807 ∧ m.decs.length ≤ 9223372036854775807 ∧ RowIn imR w Ai m.imps ∧ RowIn deR w Ad m.decs
theorem MoAt.below {w w' : World} {l : List Value} {m : Mo} (h : MoAt w l m) (hb : Below w.heap.size w w') : MoAt w' l m := by
  obtain ⟨Ai, ci, Ad, cd, e, h1, h2, h3, h4, h5⟩ := h
  exact ⟨Ai, ci, Ad, cd, e, h1, h2, h3, h4.below hb, h5.below hb⟩
theorem RowIn.move {α : Type} {R : Reads α} {S S' : Nat → Prop} {w w' : World} {A : Option Addr} {xs : List α} (h : RowIn R (strike S w) A xs) (hz : w.heap.size ≤ w'.heap.size) (hb : ∀ b, b < w.heap.size → ¬ S b → ¬ S' b ∧ w'.heap[b]? = w.heap[b]?) : RowIn R (strike S' w') A xs := fun i x hx => by
  obtain ⟨g, o, l, hA, hg, hc, hE⟩ := h i x hx
  refine ⟨g, o, l, hA, by rw [strike_size] at hg ⊢; omega, fun j v hv => ?_, R.move _ _ _ _ _ _ hE hz hb⟩
  obtain ⟨h1, h2⟩ := strike_cell.1 (hc j v hv)
  obtain ⟨h3, h4⟩ := hb g (World.block_lt_of_cell? _ _ h2) h1
  exact strike_cell.2 ⟨h3, by rw [World.cell?_of_block (w := w) (a := ⟨g, _, none⟩) h4]; exact h2⟩
theorem RowIn.free {α : Type} {R : Reads α} {S : Nat → Prop} {w : World} {A : Option Addr} {xs : List α} (h : RowIn R (strike S w) A xs) : RowIn R w A xs := fun i x hx => by
  obtain ⟨g, o, l, hA, hg, hc, hE⟩ := h i x hx
  exact ⟨g, o, l, hA, by rw [strike_size] at hg; exact hg, fun j v hv => (strike_cell.1 (hc j v hv)).2, R.free _ _ _ _ hE⟩
end Go.Proofs.YtcdmgcgjonndpaaGreat

/-  -/
namespace Go.Proofs.YtcdmgcgjonndpaaGreat
open Go Go.RowKit Go.Shelf
open Go.Sort Go.Maps
open M
def tR : Reads Ty := ⟨7, 45, TyAt, fun _ _ _ _ _ _ h hz hb => h.move hz hb, fun _ _ _ _ h hb => h.keep hb, fun _ _ _ _ h => h.free, fun _ _ _ h => h.len⟩
def stE (_ : World) (l : List Value) (s : ByteArray) : Prop := l = [.string s] ∧ s.size ≤ 9223372036854775807
def stR : Reads ByteArray := ⟨1, 9, stE, fun _ _ _ _ _ _ h _ _ => h, fun _ _ _ _ h _ => h, fun _ _ _ _ h => h, fun _ l x h => by rw [h.1]; rfl⟩
theorem SubsAt.row {w : World} {A : Option Addr} {l : List Ty} (h : SubsAt w A l) : RowIn tR w A l := fun i t ht => by
  obtain ⟨g, o, v0, v1, v2, v3, v4, v5, v6, hA, hg, h0, h1, h2, h3, h4, h5, h6, hT⟩ := h i t ht
  refine ⟨g, o, [v0, v1, v2, v3, v4, v5, v6], hA, hg, fun j v hv => ?_, hT⟩
  have hj := (List.getElem?_eq_some_iff.1 hv).1
  simp at hj
  match j, hv with
  | 0, hv => simp at hv; subst hv; exact h0
  | 1, hv => simp at hv; subst hv; exact h1
  | 2, hv => simp at hv; subst hv; exact h2
  | 3, hv => simp at hv; subst hv; exact h3
  | 4, hv => simp at hv; subst hv; exact h4
  | 5, hv => simp at hv; subst hv; exact h5
  | 6, hv => simp at hv; subst hv; exact h6
  | j + 7, _ => omega
theorem NamesAt.row {w : World} {A : Option Addr} {l : List ByteArray} (h : NamesAt w A l) : RowIn stR w A l := fun i s hs => by
  obtain ⟨g, o, hA, hg, hc, hz⟩ := h i s hs
  refine ⟨g, o, [.string s], hA, hg, fun j v hv => ?_, rfl, hz⟩
  cases j with
  | zero =>
    simp at hv; subst hv
    show w.cell? ⟨g, o + i * 1 + 0, none⟩ = _
    rw [show o + i * 1 + 0 = o + i by omega]; exact hc
  | succ j => simp at hv
theorem RowIn.names {w : World} {A : Option Addr} {l : List ByteArray} (h : RowIn stR w A l) : NamesAt w A l := fun i s hs => by
  obtain ⟨g, o, l, hA, hg, hc, rfl, hz⟩ := h i s hs
  refine ⟨g, o, hA, hg, ?_, hz⟩
  have := hc 0 _ rfl
  rw [show o + i * stR.k + 0 = o + i by show o + i * 1 + 0 = o + i; omega] at this
  exact this
theorem RowIn.none_nil {α : Type} {R : Reads α} {w : World} {xs : List α} (h : RowIn R w none xs) : xs = [] := by
  cases xs with
  | nil => rfl
  | cons x r => obtain ⟨g, o, l, e, -⟩ := h 0 x rfl; cases e
theorem ty_made {w : World} {t : Ty} {An As : Option Addr} {cn cs : Nat} (hp : t.pkg.size ≤ 9223372036854775807) (hm : t.mod.size ≤ 9223372036854775807) (hn : t.name.size ≤ 9223372036854775807) (hln : t.names.length ≤ 9223372036854775807) (hls : t.subs.length ≤ 9223372036854775807) (hcs : t.subs.length ≤ cs)
    (hN : NamesAt w An t.names) (hS : RowIn tR w As t.subs) : TyAt w [.int .i64 t.kind, .string t.pkg, .int .i64 t.major, .string t.mod, .string t.name, .slice An t.names.length cn, .slice As t.subs.length cs] t := by
  have hall : ∀ i : Nat, ∃ l : List Value, l.length = 7 ∧ ∀ s, t.subs[i]? = some s → TyAt w l s ∧ ∃ g o, As = some ⟨g, o, none⟩ ∧ g < w.heap.size ∧ ∀ j v, l[j]? = some v → w.cell? ⟨g, o + i * 7 + j, none⟩ = some v := fun i => by
    cases hs : t.subs[i]? with
    | none => exact ⟨[.int .i64 0, .string ⟨#[]⟩, .int .i64 0, .string ⟨#[]⟩, .string ⟨#[]⟩, .slice none 0 0, .slice none 0 0], rfl, fun s h => by cases h⟩
    | some s =>
      obtain ⟨g, o, l, hA, hg, hc, hE⟩ := hS i s hs
      refine ⟨l, hE.len, fun s' h => ?_⟩
      cases h
      exact ⟨hE, g, o, hA, hg, hc⟩
  obtain ⟨C, hC⟩ := Classical.axiomOfChoice hall
  have hd : t = .mk t.kind t.pkg t.major t.mod t.name t.names t.subs := by cases t; rfl
  rw [show TyAt w [.int .i64 t.kind, .string t.pkg, .int .i64 t.major, .string t.mod, .string t.name, .slice An t.names.length cn, .slice As t.subs.length cs] t = TyAt w [.int .i64 t.kind, .string t.pkg, .int .i64 t.major, .string t.mod, .string t.name, .slice An t.names.length cn, .slice As t.subs.length cs] (.mk t.kind t.pkg t.major t.mod t.name t.names t.subs) by rw [← hd]]
  exact .mk t.kind t.pkg t.major t.mod t.name t.names t.subs An cn As cs C hp hm hn hln hls hcs hN (fun i => (hC i).1) (fun i s hs => ((hC i).2 s hs).2) (fun i s hs => ((hC i).2 s hs).1)
structure Fill {α : Type} (R : Reads α) (lo g : Nat) (xs : List α) (j : Nat) (w : World) : Prop where
  hlo : lo ≤ g
  hg : g < w.heap.size
  there : w.there g 0 (xs.length * R.k)
  rows : ∀ i x, i < j → xs[i]? = some x → ∃ l : List Value, (∀ q v, l[q]? = some v → w.cell? ⟨g, i * R.k + q, none⟩ = some v) ∧ R.E (strike (fun b => b < lo ∨ b = g) w) l x
theorem Fill.start {α : Type} (R : Reads α) {lo : Nat} {w : World} (hlo : lo ≤ w.heap.size) (cells : Array Value) (T : TypeId) (xs : List α) (hs : cells.size = xs.length * R.k) : Fill R lo w.heap.size xs 0 (w.alloc (.cells cells T)) := by
  have hb : (w.alloc (.cells cells T)).heap[w.heap.size]? = some (.cells cells T (0, 0)) := heap_alloc_new w _
  refine ⟨hlo, by simp, fun j hj => ⟨?_, ?_⟩, fun i x hi => by omega⟩
  · rw [Lib.cell_of_heap hb, Nat.zero_add, Array.getElem?_eq_getElem (by omega)]; rfl
  · exact Lib.frozen_of_heap hb _
theorem Fill.keep {α : Type} {R : Reads α} {lo g j : Nat} {xs : List α} {w w' : World} (h : Fill R lo g xs j w) (hz : w.heap.size ≤ w'.heap.size) (hb : ∀ b, lo ≤ b → b < w.heap.size → w'.heap[b]? = w.heap[b]?) : Fill R lo g xs j w' := by
  have eg := hb g h.hlo h.hg
  refine ⟨h.hlo, Nat.lt_of_lt_of_le h.hg hz, fun q hq => ?_, fun i x hi hx => ?_⟩
  · have := h.there q hq
    rw [World.cell?_of_block (w := w) (w' := w') (a := ⟨g, 0 + q, none⟩) eg]
    refine ⟨this.1, ?_⟩
    have e2 : w'.frozen? ⟨g, 0 + q, none⟩ = w.frozen? ⟨g, 0 + q, none⟩ := by simp only [World.frozen?]; rw [eg]
    rw [e2]; exact this.2
  · obtain ⟨l, hc, hE⟩ := h.rows i x hi hx
    exact ⟨l, fun q v hv => (World.cell?_of_block (w := w) (w' := w') (a := ⟨g, _, none⟩) eg).trans (hc q v hv), R.move _ _ _ _ _ _ hE hz fun b hlt hS => ⟨hS, hb b (by
      rcases Nat.lt_or_ge b lo with c | c
      · exact absurd (.inl c) hS
      · exact c) hlt⟩⟩
theorem Fill.at {α : Type} {R : Reads α} {lo g j m : Nat} {xs : List α} {w : World} (h : Fill R lo g xs j w) (hj : j < xs.length) (hm : m = R.k) : w.there g (j * R.k) m := fun q hq => by
  have h1 : (j + 1) * R.k ≤ xs.length * R.k := Nat.mul_le_mul_right _ hj
  rw [Nat.succ_mul] at h1
  have := h.there (j * R.k + q) (by omega)
  rw [Nat.zero_add] at this
  exact this
theorem Fill.put {α : Type} {R : Reads α} {lo g j B : Nat} {xs : List α} {w : World} {l : List Value} {x : α} (h : Fill R lo g xs j w) (hx : xs[j]? = some x) (hE : R.E (strike (· < B) w) l x) (hB : g < B) : Fill R lo g xs (j + 1) (w.setCells g (j * R.k) l) := by
  have hlen := R.len _ _ _ hE
  have hj := (List.getElem?_eq_some_iff.1 hx).1
  have hat := h.at hj hlen
  have ot : ∀ b, b < w.heap.size → b ≠ g → (w.setCells g (j * R.k) l).heap[b]? = w.heap[b]? := fun b hb hne => World.heap_setCells_other w g (j * R.k) l hb hne
  have hsz : (w.setCells g (j * R.k) l).heap.size = w.heap.size := size_setCells g l _ w
  refine ⟨h.hlo, by rw [hsz]; exact h.hg, World.there_setCells h.there _ _ _, fun i y hi hy => ?_⟩
  rcases Nat.lt_or_ge i j with c | c
  · obtain ⟨l', hc, hE'⟩ := h.rows i y c hy
    have hl' := R.len _ _ _ hE'
    refine ⟨l', fun q v hv => ?_, R.move _ _ _ _ _ _ hE' (by rw [hsz]; exact Nat.le_refl _) fun b hb hS => ⟨hS, ot b hb fun e => hS (.inr e)⟩⟩
    have hq := (List.getElem?_eq_some_iff.1 hv).1
    rw [World.cell?_setCells_out]
    · exact hc q v hv
    · intro _ _
      have h1 : (i + 1) * R.k ≤ j * R.k := Nat.mul_le_mul_right _ c
      rw [Nat.succ_mul] at h1
      exact .inl (by show i * R.k + q < j * R.k; omega)
  · obtain rfl : i = j := by omega
    rw [hx] at hy
    cases hy
    refine ⟨l, fun q v hv => ?_, R.move _ _ _ _ _ _ hE (by rw [hsz]; exact Nat.le_refl _) fun b hb hS => ⟨?_, ot b hb (by omega)⟩⟩
    · have hq := (List.getElem?_eq_some_iff.1 hv).1
      rw [World.cell?_setCells_in g l (i * R.k) w (fun q hq => (hat q hq).1) q hq]
      rw [← hv, List.getElem?_eq_getElem hq]
    · have := h.hlo
      omega
theorem Fill.done {α : Type} {R : Reads α} {lo g j m : Nat} {xs : List α} {w : World} (h : Fill R lo g xs j w) (hj : xs.length ≤ j) (hm : m ≤ lo) : RowIn R (strike (· < m) w) (some ⟨g, 0, none⟩) xs := fun i x hx => by
  have hi := (List.getElem?_eq_some_iff.1 hx).1
  obtain ⟨l, hc, hE⟩ := h.rows i x (by omega) hx
  have := h.hlo
  refine ⟨g, 0, l, rfl, by rw [strike_size]; exact h.hg, fun q v hv => strike_cell.2 ⟨by omega, ?_⟩, R.move _ _ _ _ _ _ hE (Nat.le_refl _) fun b _ hS => ⟨fun e => hS (.inl (by omega)), rfl⟩⟩
  rw [Nat.zero_add]; exact hc q v hv
theorem setCells_below {n : Nat} {w w' : World} (h : Below n w w') {g : Nat} (hg : n ≤ g) (o : Nat) (l : List Value) : Below n w (w'.setCells g o l) :=
  h.trans ⟨World.os_setCells _ _ _ _, by
    induction l generalizing o w' with
    | nil => rfl
    | cons v r ih => exact (ih (h.setCell hg v) (o + 1)).trans rfl, World.output_setCells _ _ _ _, by rw [size_setCells]; exact Nat.le_refl _, fun b hb => by
    rcases Nat.lt_or_ge b w'.heap.size with c | c
    · exact World.heap_setCells_other w' g o l c (by omega)
    · rw [Array.getElem?_eq_none c, Array.getElem?_eq_none (by rw [size_setCells]; exact c)]⟩
theorem cln_any (s : ByteArray) (w : World) (hs : s.size ≤ 281474976710656) : Calls Tryz.prog 28 #[.string s] w fun e w' => e = .returned (.string s) ∧ Below w.heap.size w w' := by
  go_enter Tryz.func28, Tryz.ntmps28
  go_wp2_with fail
  refine (Tryz.stringslite_Clone _ _ hs).mono ?_; rintro e w1 ⟨rfl, hb1⟩
  go_wp2_with fail
  go_ret
  exact ⟨rfl, hb1⟩
set_option maxRecDepth 100000 in
set_option maxHeartbeats 4000000 in
theorem listS_any (w0 w : World) (A : Option Addr) (n c : Nat) (xs : List ByteArray) (hn : xs.length = n) (hz : n ≤ 1000000) (hS : NamesAt w0 A xs) (hw : Below w0.heap.size w0 w) (hsz : ∀ s ∈ xs, s.size ≤ 281474976710656) :
    Calls Tryz.prog 119 #[.slice A n c, .func (.func 28) #[] #[]] w fun e w' => ∃ (A' : Option Addr) (c' : Nat), e = .returned (.slice A' n c') ∧ NamesAt (strike (· < w.heap.size) w') A' xs ∧ Below w.heap.size w w' := by
  have HN := Lib.hid hn
  have HS := Lib.hid hS
  have HW := Lib.hid hw
  have HSZ := Lib.hid hsz
  have EQ : ∀ wz : World, (binOp .eql 42 (.slice A n c) (.slice none 0 0)).run Tryz.prog wz = .ok (.bool A.isNone) wz := fun wz => Lib.run_eql_slice_nil wz _ _ _ _ _ _ _ Tryz.underlying42
  cases A with
  | none =>
    have h0 : xs = [] := hS.row.none_nil
    have hn0 : n = 0 := by rw [← hn, h0]; rfl
    have HX := Lib.hid h0
    subst hn0
    clear hS hn h0 hw hsz
    go_enter Tryz.func119, Tryz.ntmps119
    go_wp2_with fail
    go_ret
    exact ⟨_, _, rfl, fun i s h => by rw [HX.out] at h; simp at h, Below.refl _ _⟩
  | some ad =>
    obtain ⟨i0, hi, hz0, hz1, hz2⟩ := info_parts str_info
    obtain ⟨W1, hW1⟩ : ∃ W1, W1 = w.alloc (.cells (madeCells (Value.string ⟨#[]⟩).cells (n * 1)) 9) := ⟨_, rfl⟩
    have MS := run_make (P := Tryz.prog) w 42 9 i0 (.string ⟨#[]⟩) Tryz.underlying42 hi hz0 .i64 .i64 (n : Int) (n : Int) (by omega) (by omega) (by rw [hz2]; omega) (by omega)
    rw [hz1] at MS
    simp only [Int.toNat_natCast] at MS
    rw [← hW1] at MS
    have START : Hid (Fill stR w.heap.size w.heap.size xs 0 W1) := Lib.hid (by rw [hW1]; exact Fill.start stR (Nat.le_refl _) _ _ xs (by rw [size_madeCells, hn]; rfl))
    have HB1 : Hid (Below w.heap.size w W1) := Lib.hid (by rw [hW1]; exact below_new (Below.refl _ _) _)
    have EQ' : ∀ wz : World, (binOp .eql 42 (.slice (some ad) n c) (.slice none 0 0)).run Tryz.prog wz = .ok (.bool false) wz := EQ
    clear EQ hW1 hS hn hw hsz
    go_enter Tryz.func119, Tryz.ntmps119
    go_wp2_with fail
    go_loopw [15] (fun s15 wr => ∃ k : Nat, k ≤ n ∧ s15 = .int .i64 k ∧ Hid (Fill stR w.heap.size w.heap.size xs k wr) ∧ Hid (Below w.heap.size w wr)) (fun s15 _ => n - (intOf s15).toNat)
    case atStart => exact ⟨0, by omega, rfl, START, HB1⟩
    case round =>
      obtain ⟨k, hk, rfl, HF, HB⟩ := hrel
      obtain ⟨wo, rfl⟩ : ∃ wo : World, wo = wr := ⟨_, rfl⟩
      clear MS EQ' START HB1
      by_cases hlt : k < n
      · obtain ⟨s, hs⟩ : ∃ s, xs[k]? = some s := ⟨_, List.getElem?_eq_getElem (by rw [HN.out]; exact hlt)⟩
        obtain ⟨g, o, e1, hg, hc, -⟩ := HS.out k s hs
        obtain rfl := Option.some.inj e1
        have hc' := ((below_over HW.out HB.out).cell (p := ⟨g, _, none⟩) hg).trans hc
        have CL := Lib.hid (cln_any s wo (HSZ.out s (List.mem_of_getElem? hs)))
        have HSS := Lib.hid hs
        clear hs hc hg e1
        go_upto_region 7 with fail
        clear hc'
        go_wp2_with fail
        refine CL.out.mono ?_; rintro e w2 ⟨rfl, hb2⟩
        have hlw : w.heap.size < wo.heap.size := HF.out.hg
        have F2 := HF.out.keep hb2.size (fun b _ hb => hb2.block b hb)
        have HT := F2.at (m := 1) (by rw [HN.out]; exact hlt) rfl
        have t0 := (HT 0 (by omega)).1
        have f0 := (HT 0 (by omega)).2
        rw [show k * stR.k + 0 = k by show k * 1 + 0 = k; omega] at t0 f0
        obtain ⟨u0, t0⟩ := Option.isSome_iff_exists.1 t0
        have F3 : Hid (Fill stR w.heap.size w.heap.size xs (k + 1) (w2.setCell ⟨w.heap.size, k, none⟩ (.string s))) := Lib.hid (by
          have := F2.put HSS.out (l := [.string s]) (B := wo.heap.size) ⟨rfl, by have := HSZ.out s (List.mem_of_getElem? HSS.out); omega⟩ hlw
          rw [show k * stR.k = k by show k * 1 = k; omega] at this
          exact this)
        have B3 : Hid (Below w.heap.size w (w2.setCell ⟨w.heap.size, k, none⟩ (.string s))) := Lib.hid (below_put (below_over HB.out hb2) (Nat.le_refl _) _)
        clear F2 HT hb2 CL
        go_wp2_with fail
        go_roundw
        case rel => exact ⟨k + 1, by omega, by go_num, F3, B3⟩
        case measure => simp [intOf]; omega
      · have hkn : k = n := by omega
        have DONE := Lib.hid (HF.out.done (m := w.heap.size) (by rw [HN.out]; omega) (Nat.le_refl _))
        clear hkn
        go_wp2_with fail
        go_ret
        exact ⟨_, _, rfl, DONE.out.names, HB.out⟩
end Go.Proofs.YtcdmgcgjonndpaaGreat

/-  -/
namespace Go.Proofs.YtcdmgcgjonndpaaGreat
open Go Go.ChangeShapes Go.WideShapes Go.ChangeAt Go.RowKit Go.Joins Go.Deep
open M
section
variable {H : Type} {enc : TypeId × Value → H} {w : World} {base : Nat} {sp : Nat → Bool} {held : Bool}
theorem impCells : Tryz.prog.cellsOf 73 = 4 := by kernel_rfl
theorem decCells : Tryz.prog.cellsOf 47 = 9 := by kernel_rfl
theorem modCells : Tryz.prog.cellsOf 33 = 3 := by kernel_rfl
theorem modCellsI : Tryz.prog.cellsOf 30 = 1 := by kernel_rfl
theorem modCellsD : Tryz.prog.cellsOf 31 = 1 := by kernel_rfl
theorem list4 {α : Type} : ∀ l : List α, l.length = 4 → ∃ a b c d, l = [a, b, c, d]
  | [a, b, c, d], _ => ⟨a, b, c, d, rfl⟩
  | [], h => by simp at h
  | [_], h => by simp at h
  | [_, _], h => by simp at h
  | [_, _, _], h => by simp at h
  | _ :: _ :: _ :: _ :: _ :: _, h => by simp at h
theorem list9 {α : Type} : ∀ l : List α, l.length = 9 → ∃ a b r, l = a :: b :: r ∧ r.length = 7
  | a :: b :: r, h => ⟨a, b, r, rfl, by simpa using h⟩
  | [], h => by simp at h
  | [_], h => by simp at h
theorem list3' {α : Type} : ∀ l : List α, l.length = 3 → ∃ a b c, l = [a, b, c]
  | [a, b, c], _ => ⟨a, b, c, rfl⟩
  | [], h => by simp at h
  | [_], h => by simp at h
  | [_, _], h => by simp at h
  | _ :: _ :: _ :: _ :: _, h => by simp at h
theorem open_im (n : Nat) (cs : List Value) (x : DataW H × List MemPlace) (h : DataW.trod enc Tryz.prog w base sp held n 73 cs = some x) : ∃ a, imE w cs a := by
  obtain ⟨xs, n, hfuel, -, hlen, hxl, hf⟩ := DataW.trod_struct Tryz.underlying73 h
  rw [impCells] at hlen
  obtain ⟨c0, c1, c2, c3, rfl⟩ := list4 cs hlen
  have q : ∀ j, j < 4 → ∃ y, xs[j]? = some y := fun j hj => ⟨_, List.getElem?_eq_getElem (by rw [hxl]; exact hj)⟩
  obtain ⟨y0, e0⟩ := q 0 (by omega); obtain ⟨y1, e1⟩ := q 1 (by omega); obtain ⟨y2, e2⟩ := q 2 (by omega); obtain ⟨y3, e3⟩ := q 3 (by omega)
  have g0 : DataW.trod enc Tryz.prog w base sp held n 9 (([c0, c1, c2, c3].drop 0).take (Tryz.prog.cellsOf 9)) = some y0 := (hf 0 _ rfl).trans e0
  have g1 : DataW.trod enc Tryz.prog w base sp held n 3 (([c0, c1, c2, c3].drop 1).take (Tryz.prog.cellsOf 3)) = some y1 := (hf 1 _ rfl).trans e1
  have g2 : DataW.trod enc Tryz.prog w base sp held n 9 (([c0, c1, c2, c3].drop 2).take (Tryz.prog.cellsOf 9)) = some y2 := (hf 2 _ rfl).trans e2
  have g3 : DataW.trod enc Tryz.prog w base sp held n 9 (([c0, c1, c2, c3].drop 3).take (Tryz.prog.cellsOf 9)) = some y3 := (hf 3 _ rfl).trans e3
  rw [tyCellsStr] at g0 g2 g3
  rw [tyCellsInt] at g1
  obtain ⟨p, k0, -, z0⟩ := DataW.trod_string Tryz.underlying9 g0
  obtain ⟨m, k1, -, -⟩ := DataW.trod_int Tryz.underlying3 g1
  obtain ⟨d, k2, -, z2⟩ := DataW.trod_string Tryz.underlying9 g2
  obtain ⟨a, k3, -, z3⟩ := DataW.trod_string Tryz.underlying9 g3
  simp at k0 k1 k2 k3
  subst k0 k1 k2 k3
  unfold maxLen at z0 z2 z3
  exact ⟨⟨p, m, d, a⟩, rfl, z0, z2, z3⟩
theorem open_de (n : Nat) (cs : List Value) (x : DataW H × List MemPlace) (h : DataW.trod enc Tryz.prog w base sp held n 47 cs = some x) : ∃ a, deE w cs a := by
  obtain ⟨xs, n, hfuel, -, hlen, hxl, hf⟩ := DataW.trod_struct Tryz.underlying47 h
  rw [decCells] at hlen
  obtain ⟨c0, c1, r, rfl, hr⟩ := list9 cs hlen
  have q : ∀ j, j < 3 → ∃ y, xs[j]? = some y := fun j hj => ⟨_, List.getElem?_eq_getElem (by rw [hxl]; exact hj)⟩
  obtain ⟨y0, e0⟩ := q 0 (by omega); obtain ⟨y1, e1⟩ := q 1 (by omega); obtain ⟨y2, e2⟩ := q 2 (by omega)
  have g0 : DataW.trod enc Tryz.prog w base sp held n 3 (((c0 :: c1 :: r).drop 0).take (Tryz.prog.cellsOf 3)) = some y0 := (hf 0 _ rfl).trans e0
  have g1 : DataW.trod enc Tryz.prog w base sp held n 9 (((c0 :: c1 :: r).drop 1).take (Tryz.prog.cellsOf 9)) = some y1 := (hf 1 _ rfl).trans e1
  have g2 : DataW.trod enc Tryz.prog w base sp held n 45 (((c0 :: c1 :: r).drop 2).take (Tryz.prog.cellsOf 45)) = some y2 := (hf 2 _ rfl).trans e2
  rw [tyCellsInt] at g0
  rw [tyCellsStr] at g1
  rw [tyCells, show ((c0 :: c1 :: r).drop 2).take 7 = r by simp [← hr]] at g2
  obtain ⟨k, k0, -, -⟩ := DataW.trod_int Tryz.underlying3 g0
  obtain ⟨s, k1, -, z1⟩ := DataW.trod_string Tryz.underlying9 g1
  obtain ⟨t, ht⟩ := open_tree _ _ _ g2
  simp at k0 k1
  subst k0 k1
  unfold maxLen at z1
  exact ⟨⟨k, s, t⟩, z1, r, rfl, ht⟩
end
end Go.Proofs.YtcdmgcgjonndpaaGreat

/-  -/
namespace Go.Proofs.YtcdmgcgjonndpaaGreat
open Go.RowKit
open Go.Sort
open M
theorem imp_info : (Tryz.prog.info? 73).map (fun i => (i.zero, i.size, i.bytes)) = some (some (.agg #[.string ⟨#[]⟩, .int .i64 0, .string ⟨#[]⟩, .string ⟨#[]⟩]), 4, 56) := by kernel_rfl
end Go.Proofs.YtcdmgcgjonndpaaGreat

/-  -/
namespace Go.Proofs.YtcdmgcgjonndpaaGreat
open Go.RowKit
open Go.Sort
open M
end Go.Proofs.YtcdmgcgjonndpaaGreat

/-  -/
namespace Go.Proofs.YtcdmgcgjonndpaaGreat
open Go.RowKit
open Go.Sort
open M
def Dx (d : Nat) (k : Int) (s : ByteArray) (l : List Value) (w : World) : Prop := w.heap[d]? = some (.cells (#[.int .i64 k, .string s] ++ l.toArray) 47 (0, 0))
theorem Dx.there {d : Nat} {k : Int} {s : ByteArray} {v0 v1 v2 v3 v4 v5 v6 : Value} {w : World} (h : Dx d k s [v0, v1, v2, v3, v4, v5, v6] w) : w.there d 2 7 := fun j hj => by
  refine ⟨?_, Lib.frozen_of_heap h _⟩
  rw [Lib.cell_of_heap h]
  obtain rfl | rfl | rfl | rfl | rfl | rfl | rfl : j = 0 ∨ j = 1 ∨ j = 2 ∨ j = 3 ∨ j = 4 ∨ j = 5 ∨ j = 6 := by omega
  all_goals rfl
theorem Dx.put {d : Nat} {k : Int} {s : ByteArray} {v0 v1 v2 v3 v4 v5 v6 u0 u1 u2 u3 u4 u5 u6 : Value} {w : World} (h : Dx d k s [v0, v1, v2, v3, v4, v5, v6] w) : Dx d k s [u0, u1, u2, u3, u4, u5, u6] (w.setCells d 2 [u0, u1, u2, u3, u4, u5, u6]) := by
  rw [setCells7]
  have h0 := Joins.block_setCell (i := 2) h u0
  have h1 := Joins.block_setCell (i := 2 + 1) h0 u1
  have h2 := Joins.block_setCell (i := 2 + 2) h1 u2
  have h3 := Joins.block_setCell (i := 2 + 3) h2 u3
  have h4 := Joins.block_setCell (i := 2 + 4) h3 u4
  have h5 := Joins.block_setCell (i := 2 + 5) h4 u5
  have h6 := Joins.block_setCell (i := 2 + 6) h5 u6
  simpa [Dx] using h6
end Go.Proofs.YtcdmgcgjonndpaaGreat

/-  -/
namespace Go.Proofs.YtcdmgcgjonndpaaGreat
open Go.RowKit
open Go.Sort
open M
end Go.Proofs.YtcdmgcgjonndpaaGreat

/-  -/
namespace Go.Proofs.YtcdmgcgjonndpaaGreat
open Go.RowKit
open Go.Sort
open M
def Mx (d : Nat) (nm : ByteArray) (Ai : Option Addr) (ni ci : Nat) (Ad : Option Addr) (nd cd : Nat) (w : World) : Prop := w.heap[d]? = some (.cells #[.string nm, .slice Ai ni ci, .slice Ad nd cd] 33 (0, 0))
end Go.Proofs.YtcdmgcgjonndpaaGreat

/-  -/
namespace Go.Proofs.YtcdmgcgjonndpaaGreat
open Go.RowKit
open Go.Sort
open M
theorem modSize : (Tryz.prog.info? 33).map (·.size) = some 3 := by kernel_rfl
theorem modOne {s : ByteArray} {A5 A6 : Option Addr} {n5 c5 n6 c6 : Nat} : (#[.string s, .slice A5 n5 c5, .slice A6 n6 c6] : Array Value).all (·.oneCell') = true := Array.all_eq_true_iff_forall_mem.2 (fun v hv => by simp at hv; rcases hv with rfl | rfl | rfl <;> rfl)
theorem dec_info : (Tryz.prog.info? 47).map (fun i => (i.zero, i.size, i.bytes)) = some (some (.agg #[.int .i64 0, .string ⟨#[]⟩, .int .i64 0, .string ⟨#[]⟩, .int .i64 0, .string ⟨#[]⟩, .string ⟨#[]⟩, .slice none 0 0, .slice none 0 0]), 9, 136) := by kernel_rfl
end Go.Proofs.YtcdmgcgjonndpaaGreat

/-  -/
namespace Go.Proofs.YtcdmgcgjonndpaaGreat
open Go.RowKit
open Go.Sort
open M
end Go.Proofs.YtcdmgcgjonndpaaGreat

/-  -/
namespace Go.Proofs.YtcdmgcgjonndpaaGreat
open Go.RowKit
open Go.Sort
open M
end Go.Proofs.YtcdmgcgjonndpaaGreat

/-  -/
namespace Go.Proofs.YtcdmgcgjonndpaaGreat
open Go.RowKit
open Go.Sort
open M
end Go.Proofs.YtcdmgcgjonndpaaGreat

/-  -/
namespace Go.Proofs.YtcdmgcgjonndpaaGreat
open Go.RowKit
open Go.Sort
open M
end Go.Proofs.YtcdmgcgjonndpaaGreat

/-  -/
namespace Go.Proofs.YtcdmgcgjonndpaaGreat
open Go.RowKit
open Go.Sort
open M
end Go.Proofs.YtcdmgcgjonndpaaGreat

/-  -/
namespace Go.Proofs.YtcdmgcgjonndpaaGreat
open Go.RowKit
open Go.Sort
open M
end Go.Proofs.YtcdmgcgjonndpaaGreat

/-  -/
namespace Go.Proofs.YtcdmgcgjonndpaaGreat
open Go.RowKit
open Go.Sort
open M
theorem row_more {α : Type} {R : Reads α} {lo d g cap c B : Nat} {xs : List α} {A : Option Addr} {w1 w3 : World} {o : Obj} {l : List Value} {x : α} {C : List (List Value)} {old : Array Value} {T : TypeId} {k : Nat}
    (h : Row R lo xs A c w1) (hlo : lo ≤ B) (hB1 : B ≤ w1.heap.size) (hwo : ∀ b, (Value.slice A xs.length c).ownBlock = some b → b < B)
    (hC1 : C.length = xs.length) (hC4 : ∀ (i : Nat) (l : List Value) (x : α), C[i]? = some l → xs[i]? = some x → R.E (strike (fun b => b < lo ∨ (Value.slice A xs.length c).ownBlock = some b) w1) l x)
    (hE : R.E (strike (· < B) w1) l x) (hown : w3.ownsRow lo R.T R.k (.slice (some ⟨g, 0, none⟩) (xs.length + 1) cap) (xs.length + 1) (C.flatten ++ l)) (hgrow : (w1.alloc o).grownBy w3 (Value.slice A xs.length c).ownBlock)
    (hat : (Value.slice A xs.length c).ownBlock = some g ∨ g = (w1.alloc o).heap.size) (hd : d < lo) (hbox : w1.heap[d]? = some (.cells old T (0, 0))) (hk : old[k]? = some (.slice A xs.length c)) :
    Row R lo (xs ++ [x]) (some ⟨g, 0, none⟩) cap (w3.setCell ⟨d, k, none⟩ (.slice (some ⟨g, 0, none⟩) (xs.length + 1) cap)) ∧
    (w3.setCell ⟨d, k, none⟩ (.slice (some ⟨g, 0, none⟩) (xs.length + 1) cap)).heap[d]? = some (.cells (old.setIfInBounds k (.slice (some ⟨g, 0, none⟩) (xs.length + 1) cap)) T (0, 0)) ∧
    (∀ b, b < lo → b ≠ d → (w3.setCell ⟨d, k, none⟩ (.slice (some ⟨g, 0, none⟩) (xs.length + 1) cap)).heap[b]? = w1.heap[b]?) ∧
    (∀ m, m ≤ d → Below m w1 (w3.setCell ⟨d, k, none⟩ (.slice (some ⟨g, 0, none⟩) (xs.length + 1) cap))) ∧
    w3.cell? ⟨d, k, none⟩ = some (.slice A xs.length c) ∧ w3.frozen? ⟨d, k, none⟩ = false ∧ w1.heap.size ≤ (w3.setCell ⟨d, k, none⟩ (.slice (some ⟨g, 0, none⟩) (xs.length + 1) cap)).heap.size := by
  obtain ⟨R3, old3, hs3⟩ := Row.more h hlo hwo hC1 hC4 hE hown hgrow hat
  have hlow : ∀ b, (Value.slice A xs.length c).ownBlock = some b → lo ≤ b := fun b e => (h.lt e).1
  have hd1 : d < w1.heap.size := (Array.getElem?_eq_some_iff.1 hbox).1
  have B3 := (old3 d (fun e => by have := hlow d e; omega) hd1).trans hbox
  have ot : ∀ b, b ≠ d → (w3.setCell ⟨d, k, none⟩ (.slice (some ⟨g, 0, none⟩) (xs.length + 1) cap)).heap[b]? = w3.heap[b]? := fun b hb => Below.heap_setCell _ _ _ _ (by show b ≠ d; exact hb)
  have of : ∀ b, b < lo → b ≠ d → (w3.setCell ⟨d, k, none⟩ (.slice (some ⟨g, 0, none⟩) (xs.length + 1) cap)).heap[b]? = w1.heap[b]? := fun b hb hne => (ot b hne).trans (old3 b (fun e => by have := hlow b e; omega) (by omega))
  refine ⟨R3.keep (by simp) (fun b hb hlt => ot b (by omega)), Joins.block_setCell (i := k) B3 _, of, fun m hm => ?_, ?_, Lib.frozen_of_heap B3 k, by simp; omega⟩
  · have hgw := hgrow
    exact ⟨hgw.os.trans rfl, hgw.tape.trans rfl, hgw.output.trans rfl, by simp; omega, fun j hj => of j (by omega) (by omega)⟩
  · rw [Lib.cell_of_heap B3 k]; exact hk
end Go.Proofs.YtcdmgcgjonndpaaGreat

/-  -/
namespace Go.Proofs.YtcdmgcgjonndpaaGreat
open Go.RowKit
open Go.Sort
open M
end Go.Proofs.YtcdmgcgjonndpaaGreat

/-  -/
namespace Go.Proofs.YtcdmgcgjonndpaaGreat.M
mutual
def sameT : Ty → Ty → Bool
  | .mk k p m d n ns ss, .mk k' p' m' d' n' ns' ss' => decide (k = k') && decide (p = p') && decide (m = m') && decide (d = d') && decide (n = n') && decide (ns = ns') && sameL ss ss'
def sameL : List Ty → List Ty → Bool
  | [], [] => true
  | [], _ :: _ => false
  | _ :: _, [] => false
  | a :: r, b :: q => sameT a b && sameL r q
end
mutual
theorem sameT_iff : ∀ a b : Ty, sameT a b = true ↔ a = b
  | .mk k p m d n ns ss, .mk k' p' m' d' n' ns' ss' => by
    have := sameL_iff ss ss'
    unfold sameT
    simp only [Bool.and_eq_true, decide_eq_true_eq, this, Ty.mk.injEq]
    simp only [and_assoc]
theorem sameL_iff : ∀ a b : List Ty, sameL a b = true ↔ a = b
  | [], [] => by simp [sameL]
  | [], _ :: _ => by simp [sameL]
  | _ :: _, [] => by simp [sameL]
  | a :: r, b :: q => by
    have h1 := sameT_iff a b
    have h2 := sameL_iff r q
    unfold sameL
    simp only [Bool.and_eq_true, h1, h2, List.cons.injEq]
end
theorem sameT_no {a b : Ty} (h : a ≠ b) : sameT a b = false := by
  rw [Bool.eq_false_iff, ne_eq, sameT_iff]; exact h
theorem ty_ext {a b : Ty} (h1 : a.kind = b.kind) (h2 : a.pkg = b.pkg) (h3 : a.major = b.major) (h4 : a.mod = b.mod) (h5 : a.name = b.name) (h6 : a.names = b.names) (h7 : a.subs = b.subs) : a = b := by
  cases a; cases b
  simp only [Ty.kind, Ty.pkg, Ty.major, Ty.mod, Ty.name, Ty.names, Ty.subs] at *
  subst h1 h2 h3 h4 h5 h6 h7
  rfl
theorem bytes_list {a b : ByteArray} : a.data.toList = b.data.toList ↔ a = b := by
  constructor
  · intro h
    cases a; cases b; simp at h; simpa using h
  · rintro rfl; rfl
theorem list_ext' {α : Type} {a b : List α} (hl : a.length = b.length) (h : ∀ (i : Nat) (x y : α), a[i]? = some x → b[i]? = some y → x = y) : a = b := by
  apply List.ext_getElem? 
  intro i
  rcases Nat.lt_or_ge i a.length with hi | hi
  · rw [List.getElem?_eq_getElem hi, List.getElem?_eq_getElem (by omega)]
    exact congrArg some (h i _ _ (List.getElem?_eq_getElem hi) (List.getElem?_eq_getElem (by omega)))
  · rw [List.getElem?_eq_none hi, List.getElem?_eq_none (by omega)]
end Go.Proofs.YtcdmgcgjonndpaaGreat.M
