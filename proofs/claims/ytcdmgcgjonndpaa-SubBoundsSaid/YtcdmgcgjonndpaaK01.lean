/-
  Several texts in one:  ·  ·  ·  ·  ·  ·  ·  · 
-/
import Derived.Test.YtcdmgcgjonndpaaK00
import Derived.Test.YtcdmgcgjonndpaaChecked
import Derived.ProofKit
import Derived.OpenShut
import Derived.Lib.SmallJoins
import Derived.Deep.Slices
import Derived.Deep.Strs
import Derived.DataReads
import Derived.WideShapes
import Derived.SliceStrings
import Derived.Below
import Derived.WalkKit
import Derived.WalkSpells
import Derived.WalkLawsBesides
import Derived.RegionTactic
import Derived.IntWalk
import Derived.LoopTactic
import Derived.OwnWalk
import Derived.Lib.Hide
import Derived.Lib.Builder
import Derived.OneCell
import Derived.Deep.AppendLies
import Derived.Laws.OwnMore
import Derived.Lib.Strings
/-  -/
namespace Go.Proofs.Ytcdmgcgjonndpaa
open Go Go.ChangeShapes Go.WideShapes Go.ChangeAt Go.RowKit Go.Joins Go.Deep
open M
def NamesAt (w : World) (A : Option Addr) (l : List ByteArray) : Prop :=
 ∀ i s, l[i]? = some s → ∃ g o, A = some ⟨g, o, none⟩ ∧ g < w.heap.size ∧ w.cell? ⟨g, o + i, none⟩ = some (.string s) ∧ s.size ≤ 9223372036854775807
inductive TyAt (w : World) : List Value → Ty → Prop where
 | mk (kind : Int) (pkg : ByteArray) (major : Int) (mod name : ByteArray) (names : List ByteArray) (subs : List Ty) (An : Option Addr) (cn : Nat) (As : Option Addr) (cs : Nat) (C : Nat → List Value)
   (hp : pkg.size ≤ 9223372036854775807) (hm : mod.size ≤ 9223372036854775807) (hn : name.size ≤ 9223372036854775807) (hln : names.length ≤ 9223372036854775807) (hls : subs.length ≤ 9223372036854775807) (hcs : subs.length ≤ cs)
   (hN : NamesAt w An names) (hl : ∀ i, (C i).length = 7)
   (hS : ∀ i t, subs[i]? = some t → ∃ g o, As = some ⟨g, o, none⟩ ∧ g < w.heap.size ∧ ∀ j v, (C i)[j]? = some v → w.cell? ⟨g, o + i * 7 + j, none⟩ = some v)
   (hT : ∀ i t, subs[i]? = some t → TyAt w (C i) t) :
   TyAt w [.int .i64 kind, .string pkg, .int .i64 major, .string mod, .string name, .slice An names.length cn, .slice As subs.length cs] (.mk kind pkg major mod name names subs)
theorem NamesAt.below {w w' : World} {A : Option Addr} {l : List ByteArray} (h : NamesAt w A l) (hb : Below w.heap.size w w') : NamesAt w' A l := by
 intro i s hs
 obtain ⟨g, o, hA, hg, hc, hz⟩ := h i s hs
 exact ⟨g, o, hA, Nat.lt_of_lt_of_le hg hb.size, (hb.cell (p := ⟨g, _, none⟩) hg).trans hc, hz⟩
theorem TyAt.keep {w w' : World} (hb : Below w.heap.size w w') {l : List Value} {t : Ty} (h : TyAt w l t) : TyAt w' l t := by
 induction h with
 | mk kind pkg major mod name names subs An cn As cs C hp hm hn hln hls hcs hN hl hS hT ih =>
  refine .mk kind pkg major mod name names subs An cn As cs C hp hm hn hln hls hcs (hN.below hb) hl (fun i t ht => ?_) ih
  obtain ⟨g, o, hA, hg, hc⟩ := hS i t ht
  exact ⟨g, o, hA, Nat.lt_of_lt_of_le hg hb.size, fun j v hv => (hb.cell (p := ⟨g, _, none⟩) hg).trans (hc j v hv)⟩
def SubsAt (w : World) (A : Option Addr) (l : List Ty) : Prop :=
 ∀ i t, l[i]? = some t → ∃ (g o : Nat) (v0 v1 v2 v3 v4 v5 v6 : Value), A = some ⟨g, o, none⟩ ∧ g < w.heap.size ∧ w.cell? ⟨g, o + i * 7, none⟩ = some v0 ∧ w.cell? ⟨g, o + i * 7 + 1, none⟩ = some v1 ∧ w.cell? ⟨g, o + i * 7 + 2, none⟩ = some v2 ∧
  w.cell? ⟨g, o + i * 7 + 3, none⟩ = some v3 ∧ w.cell? ⟨g, o + i * 7 + 4, none⟩ = some v4 ∧ w.cell? ⟨g, o + i * 7 + 5, none⟩ = some v5 ∧ w.cell? ⟨g, o + i * 7 + 6, none⟩ = some v6 ∧ TyAt w [v0, v1, v2, v3, v4, v5, v6] t
theorem SubsAt.below {w w' : World} {A : Option Addr} {l : List Ty} (h : SubsAt w A l) (hb : Below w.heap.size w w') : SubsAt w' A l := by
 intro i t ht
 obtain ⟨g, o, v0, v1, v2, v3, v4, v5, v6, hA, hg, h0, h1, h2, h3, h4, h5, h6, hT⟩ := h i t ht
 have e : ∀ k v, w.cell? ⟨g, k, none⟩ = some v → w'.cell? ⟨g, k, none⟩ = some v := fun k v hv => (hb.cell (p := ⟨g, _, none⟩) hg).trans hv
 exact ⟨g, o, v0, v1, v2, v3, v4, v5, v6, hA, Nat.lt_of_lt_of_le hg hb.size, e _ _ h0, e _ _ h1, e _ _ h2, e _ _ h3, e _ _ h4, e _ _ h5, e _ _ h6, hT.keep hb⟩
theorem list7 {α : Type} : ∀ l : List α, l.length = 7 → ∃ a b c d e f g, l = [a, b, c, d, e, f, g]
 | [a, b, c, d, e, f, g], _ => ⟨a, b, c, d, e, f, g, rfl⟩
 | [], h => by simp at h
 | [_], h => by simp at h
 | [_, _], h => by simp at h
 | [_, _, _], h => by simp at h
 | [_, _, _, _], h => by simp at h
 | [_, _, _, _, _], h => by simp at h
 | [_, _, _, _, _, _], h => by simp at h
 | _ :: _ :: _ :: _ :: _ :: _ :: _ :: _ :: _, h => by simp at h
theorem TyAt.parts {w : World} {l : List Value} {t : Ty} (h : TyAt w l t) : ∃ (An : Option Addr) (cn : Nat) (As : Option Addr) (cs : Nat),
  l = [.int .i64 t.kind, .string t.pkg, .int .i64 t.major, .string t.mod, .string t.name, .slice An t.names.length cn, .slice As t.subs.length cs] ∧
  t.pkg.size ≤ 9223372036854775807 ∧ t.mod.size ≤ 9223372036854775807 ∧ t.name.size ≤ 9223372036854775807 ∧ t.names.length ≤ 9223372036854775807 ∧ t.subs.length ≤ 9223372036854775807 ∧ NamesAt w An t.names ∧ SubsAt w As t.subs := by
 cases h with
 | mk kind pkg major mod name names subs An cn As cs C hp hm hn hln hls hcs hN hl hS hT =>
  refine ⟨An, cn, As, cs, rfl, hp, hm, hn, hln, hls, hN, fun i t ht => ?_⟩
  obtain ⟨g, o, hA, hg, hc⟩ := hS i t ht
  have h7 := hT i t ht
  obtain ⟨v0, v1, v2, v3, v4, v5, v6, e⟩ := list7 (C i) (hl i)
  rw [e] at hc h7
  exact ⟨g, o, v0, v1, v2, v3, v4, v5, v6, hA, hg, hc 0 _ rfl, hc 1 _ rfl, hc 2 _ rfl, hc 3 _ rfl, hc 4 _ rfl, hc 5 _ rfl, hc 6 _ rfl, h7⟩
def TyV (w : World) (v : Value) (t : Ty) : Prop := ∃ l : List Value, v = .agg l.toArray ∧ TyAt w l t
theorem TyV.below {w w' : World} {v : Value} {t : Ty} (h : TyV w v t) (hb : Below w.heap.size w w') : TyV w' v t := by
 obtain ⟨l, e, h⟩ := h
 exact ⟨l, e, h.keep hb⟩
theorem tyCells : Try.prog.cellsOf 25 = 7 := by kernel_rfl
theorem tyCellsInt : Try.prog.cellsOf 3 = 1 := by kernel_rfl
theorem tyCellsStr : Try.prog.cellsOf 9 = 1 := by kernel_rfl
theorem tyCellsNames : Try.prog.cellsOf 22 = 1 := by kernel_rfl
theorem tyCellsSubs : Try.prog.cellsOf 23 = 1 := by kernel_rfl
section
variable {H : Type} {enc : TypeId × Value → H} {w : World} {base : Nat} {sp : Nat → Bool} {held : Bool}
theorem open_names {fuel : Nat} {v : Value} {x : DataW H × List MemPlace} (h : DataW.trod enc Try.prog w base sp held fuel 22 [v] = some x) :
  ∃ (A : Option Addr) (c : Nat) (l : List ByteArray), v = .slice A l.length c ∧ l.length ≤ maxLen ∧ NamesAt w A l := by
 rcases open_strings Try.underlying22 Try.underlying9 tyCellsStr h with ⟨hc, -⟩ | ⟨a, len, cap, ss, hc, hb, hl, hm, hss, -, hcell, hz⟩
 ·obtain rfl := List.head_eq_of_cons_eq hc
  exact ⟨none, 0, [], rfl, Nat.zero_le _, fun i s hs => by simp at hs⟩
 ·obtain rfl := List.head_eq_of_cons_eq hc
  have hlen : len ≤ ss.length := by
   rw [hss]; split
   ·exact hl
   ·exact Nat.le_refl _
  refine ⟨some a, cap, ss.take len, by rw [List.length_take, Nat.min_eq_left hlen], by rw [List.length_take, Nat.min_eq_left hlen]; exact Nat.le_trans hl hm, fun i s hs => ?_⟩
  rw [List.getElem?_take] at hs
  split at hs
  ·rename_i hil
   have hi : i < ss.length := Nat.lt_of_lt_of_le hil hlen
   obtain ⟨b, o, spot⟩ := a
   have h0 := hcell 0 (by omega)
   have hspot : spot = none := by simpa [Addr.add] using World.cell?_spot h0
   subst hspot
   have hc := hcell i hi
   rw [WideShapes.add_plain] at hc
   have he : ss.getD i ByteArray.empty = s := by simp [List.getD_eq_getElem?_getD, hs]
   rw [he] at hc
   have hm := hz s (List.mem_of_getElem? hs)
   unfold maxLen at hm
   exact ⟨b, o, rfl, World.block_lt_of_cell? w _ hc, hc, hm⟩
  ·cases hs
theorem open_tree : ∀ (fuel : Nat) (cs : List Value) (x : DataW H × List MemPlace), DataW.trod enc Try.prog w base sp held fuel 25 cs = some x → ∃ t, TyAt w cs t := by
 intro fuel
 induction fuel using Nat.strongRecOn with
 | ind fuel ih =>
  intro cs x h
  obtain ⟨xs, n, hfuel, -, hlen, hxl, hf⟩ := DataW.trod_struct Try.underlying25 h
  rw [tyCells] at hlen
  obtain ⟨c0, c1, c2, c3, c4, c5, c6, rfl⟩ := list7 cs hlen
  have q : ∀ j, j < 7 → ∃ y, xs[j]? = some y := fun j hj => ⟨_, List.getElem?_eq_getElem (by rw [hxl]; exact hj)⟩
  obtain ⟨y0, e0⟩ := q 0 (by omega); obtain ⟨y1, e1⟩ := q 1 (by omega); obtain ⟨y2, e2⟩ := q 2 (by omega); obtain ⟨y3, e3⟩ := q 3 (by omega)
  obtain ⟨y4, e4⟩ := q 4 (by omega); obtain ⟨y5, e5⟩ := q 5 (by omega); obtain ⟨y6, e6⟩ := q 6 (by omega)
  have g0 : DataW.trod enc Try.prog w base sp held n 3 (([c0, c1, c2, c3, c4, c5, c6].drop 0).take (Try.prog.cellsOf 3)) = some y0 := (hf 0 _ rfl).trans e0
  rw [tyCellsInt] at g0
  have g1 : DataW.trod enc Try.prog w base sp held n 9 (([c0, c1, c2, c3, c4, c5, c6].drop 1).take (Try.prog.cellsOf 9)) = some y1 := (hf 1 _ rfl).trans e1
  rw [tyCellsStr] at g1
  have g2 : DataW.trod enc Try.prog w base sp held n 3 (([c0, c1, c2, c3, c4, c5, c6].drop 2).take (Try.prog.cellsOf 3)) = some y2 := (hf 2 _ rfl).trans e2
  rw [tyCellsInt] at g2
  have g3 : DataW.trod enc Try.prog w base sp held n 9 (([c0, c1, c2, c3, c4, c5, c6].drop 3).take (Try.prog.cellsOf 9)) = some y3 := (hf 3 _ rfl).trans e3
  rw [tyCellsStr] at g3
  have g4 : DataW.trod enc Try.prog w base sp held n 9 (([c0, c1, c2, c3, c4, c5, c6].drop 4).take (Try.prog.cellsOf 9)) = some y4 := (hf 4 _ rfl).trans e4
  rw [tyCellsStr] at g4
  have g5 : DataW.trod enc Try.prog w base sp held n 22 (([c0, c1, c2, c3, c4, c5, c6].drop 5).take (Try.prog.cellsOf 22)) = some y5 := (hf 5 _ rfl).trans e5
  rw [tyCellsNames] at g5
  have g6 : DataW.trod enc Try.prog w base sp held n 23 (([c0, c1, c2, c3, c4, c5, c6].drop 6).take (Try.prog.cellsOf 23)) = some y6 := (hf 6 _ rfl).trans e6
  rw [tyCellsSubs] at g6
  obtain ⟨k, k0, -, -⟩ := DataW.trod_int Try.underlying3 g0
  obtain ⟨p, k1, -, zp⟩ := DataW.trod_string Try.underlying9 g1
  obtain ⟨m, k2, -, -⟩ := DataW.trod_int Try.underlying3 g2
  obtain ⟨d, k3, -, zd⟩ := DataW.trod_string Try.underlying9 g3
  obtain ⟨a, k4, -, za⟩ := DataW.trod_string Try.underlying9 g4
  have h5 : DataW.trod enc Try.prog w base sp held n 22 [c5] = some y5 := g5
  have h6 : DataW.trod enc Try.prog w base sp held n 23 [c6] = some y6 := g6
  simp at k0 k1 k2 k3 k4
  subst k0 k1 k2 k3 k4
  clear g0 g1 g2 g3 g4 g5 g6 e0 e1 e2 e3 e4 e5 e6 q hf h
  obtain ⟨An, cn, names, rfl, ln, hN⟩ := open_names h5
  unfold maxLen at zp zd za ln
  rcases DataW.trod_slice Try.underlying23 h6 with ⟨hc, -⟩ | ⟨a', len, cap, elems, rest, n', hn', hc, -, -, hl, hm, hlen', hel, -, -⟩
  ·obtain rfl := List.head_eq_of_cons_eq hc
   exact ⟨_, .mk k p m d a names [] An cn none 0 (fun _ => [.nilIface, .nilIface, .nilIface, .nilIface, .nilIface, .nilIface, .nilIface]) zp zd za ln (by simp) (by simp) hN (fun _ => rfl) (fun i t ht => by simp at ht) (fun i t ht => by simp at ht)⟩
  ·obtain rfl := List.head_eq_of_cons_eq hc
   rw [tyCells] at hel
   have hall : ∀ i, ∃ q : Ty × List Value, q.2.length = 7 ∧ (i < len → w.cells? base (a'.add (i * 7)) 7 = some q.2 ∧ TyAt w q.2 q.1) := by
    intro i
    by_cases hi : i < len
    ·have h1 := hel i hi
     rw [List.getElem?_eq_getElem (by rw [hlen']; exact hi)] at h1
     obtain ⟨cs', h2, h3⟩ := Option.bind_eq_some_iff.1 h1
     obtain ⟨t, ht⟩ := ih n' (by omega) cs' _ h3
     exact ⟨(t, cs'), (World.cells?_some h2).2.1, fun _ => ⟨h2, ht⟩⟩
    ·exact ⟨(.mk 0 ⟨#[]⟩ 0 ⟨#[]⟩ ⟨#[]⟩ [] [], [.nilIface, .nilIface, .nilIface, .nilIface, .nilIface, .nilIface, .nilIface]), rfl, fun h => absurd h hi⟩
   obtain ⟨F, hF⟩ := Classical.axiomOfChoice hall
   clear hall hel ih
   have hsome : ∀ i t, ((List.range len).map fun i => (F i).1)[i]? = some t → i < len ∧ t = (F i).1 := by
    intro i t ht
    rw [List.getElem?_map] at ht
    rcases Nat.lt_or_ge i len with hi | hi
    ·rw [List.getElem?_range hi] at ht
     exact ⟨hi, (Option.some.inj ht).symm⟩
    ·rw [List.getElem?_eq_none (by simpa using hi)] at ht
     cases ht
   have hle : ((List.range len).map fun i => (F i).1).length = len := by simp
   have hlz : ((List.range len).map fun i => (F i).1).length ≤ 9223372036854775807 := by
    rw [hle]; unfold maxLen at hm; exact Nat.le_trans hl hm
   have T := TyAt.mk (w := w) k p m d a names ((List.range len).map fun i => (F i).1) An cn (some a') cap (fun i => (F i).2) zp zd za ln hlz (by rw [hle]; exact hl) hN (fun i => (hF i).1)
    (fun i t ht => by
     obtain ⟨hi, -⟩ := hsome i t ht
     obtain ⟨b, o, spot⟩ := a'
     have hspot : spot = none := by
      have hc := (World.cells?_some ((hF 0).2 (by omega)).1).2.2 0 (by omega)
      rw [List.getElem?_eq_getElem (by rw [(hF 0).1]; omega)] at hc
      have := World.cell?_spot hc
      simpa [Addr.add] using this
     subst hspot
     have hat := (World.cells?_some ((hF i).2 hi).1).2.2
     have hcell : ∀ j v, (F i).2[j]? = some v → w.cell? ⟨b, o + i * 7 + j, none⟩ = some v := by
      intro j v hv
      have hj : j < 7 := by
       have := (List.getElem?_eq_some_iff.1 hv).1
       rw [(hF i).1] at this; exact this
      have := hat j hj
      rw [WideShapes.add_plain, WideShapes.add_plain] at this
      rw [this]; exact hv
     refine ⟨b, o, rfl, ?_, hcell⟩
     exact World.block_lt_of_cell? w _ (hcell 0 _ (List.getElem?_eq_getElem (by rw [(hF i).1]; omega))))
    (fun i t ht => by
     obtain ⟨hi, rfl⟩ := hsome i t ht
     exact ((hF i).2 hi).2)
   rw [hle] at T
   exact ⟨_, T⟩
set_option maxRecDepth 100000 in
theorem open_type {r : Reach} {b0 : Nat} {v : Value} {d : DataW H} {p : List MemPlace} (hv : Value.okWide Try.prog w r b0 25 v) (h : DataW.Trod enc Try.prog w base sp held 25 v d p) : ∃ t, TyV w v t := by
 obtain ⟨cs, rfl, -⟩ := okWide_struct Try.underlying25 hv
 obtain ⟨fuel, hf⟩ := h
 obtain ⟨t, ht⟩ := open_tree fuel _ _ hf
 obtain ⟨l⟩ := cs
 exact ⟨t, l, rfl, ht⟩
end
end Go.Proofs.Ytcdmgcgjonndpaa

/-  -/
namespace Go.Proofs.Ytcdmgcgjonndpaa
open Go.RowKit
open M
def boxed (w : World) (c : Array Value) : World := w.alloc (.cells c 25)
theorem box_cell {w w' : World} {c : Array Value} (hb : Below (boxed w c).heap.size (boxed w c) w') (i : Nat) : w'.cell? ⟨w.heap.size, i, none⟩ = c[i]? := by
  have h : (boxed w c).cell? ⟨w.heap.size, i, none⟩ = c[i]? := cell_of_row _ _ i c _ (0, 0) (heap_alloc_new w _)
  exact (hb.cell (p := ⟨w.heap.size, i, none⟩) (by simp [boxed])).trans h
theorem box_below {w w' : World} {c : Array Value} (hb : Below (boxed w c).heap.size (boxed w c) w') : Below w.heap.size w w' :=
  (below_new (Below.refl _ _) _).trans (hb.mono (by simp [boxed]))
theorem ret_int' {a b : Int} (h : b = a) : Ending.returned (.int .i64 a) = .returned (.int .i64 b) := by rw [h]
theorem manyL_eq (t : Ty) : many t = 1 + manyL t.subs := by cases t; rfl
theorem deep_eq (t : Ty) : deep t = deepL t.subs + 1 := by cases t; rfl
theorem plain_eq (t : Ty) : plainT t = (!(t.kind == 8) && plainL t.subs) := by cases t; rfl
theorem sub_many {t : Ty} {k : Nat} {s : Ty} (h : t.subs[k]? = some s) : many s < many t := by
  have := manyL_mem t.subs s (List.mem_of_getElem? h)
  rw [manyL_eq t]; omega
theorem deepL_append : ∀ (a b : List Ty), deepL (a ++ b) = max (deepL a) (deepL b)
  | [], b => by simp [deepL]
  | t :: r, b => by
    have := deepL_append r b
    simp only [List.cons_append, deepL, this]; omega
theorem deepL_take (l : List Ty) (k : Nat) (t : Ty) (h : l[k]? = some t) : deepL (l.take (k + 1)) = max (deepL (l.take k)) (deep t) := by
  rw [List.take_add_one, h, deepL_append]
  simp [deepL]
mutual
theorem deep_many : ∀ t : Ty, deep t ≤ many t
  | .mk _ _ _ _ _ _ subs => by
    have := deepL_many subs
    unfold deep many; omega
theorem deepL_many : ∀ l : List Ty, deepL l ≤ manyL l
  | [] => by simp [deepL]
  | t :: r => by
    have a := deep_many t
    have b := deepL_many r
    unfold deepL manyL; omega
end
theorem plainL_mem : ∀ (l : List Ty), plainL l = true ↔ ∀ t ∈ l, plainT t = true
  | [] => by simp [plainL]
  | t :: r => by simp [plainL, plainL_mem r]
theorem TyAt.seven {w : World} {v0 v1 v2 v3 v4 v5 v6 : Value} {t : Ty} (h : TyAt w [v0, v1, v2, v3, v4, v5, v6] t) : ∃ (An : Option Addr) (cn : Nat) (As : Option Addr) (cs : Nat),
    v0 = .int .i64 t.kind ∧ v1 = .string t.pkg ∧ v2 = .int .i64 t.major ∧ v3 = .string t.mod ∧ v4 = .string t.name ∧ v5 = .slice An t.names.length cn ∧ v6 = .slice As t.subs.length cs := by
  obtain ⟨An, cn, As, cs, e, -⟩ := h.parts
  exact ⟨An, cn, As, cs, by simpa using e⟩
end Go.Proofs.Ytcdmgcgjonndpaa

/-  -/
namespace Go.Proofs.Ytcdmgcgjonndpaa
open Go.RowKit
open M
set_option maxHeartbeats 2000000 in
theorem plain_any (N : Nat) : ∀ (t : Ty), many t ≤ N → ∀ (v : Value) (w : World), TyV w v t →
    Calls Try.prog 22 #[v] w fun e w' => e = .returned (.bool (plainT t)) ∧ Below w.heap.size w w' := by
  induction N with
  | zero => intro t h; have := many_pos t; omega
  | succ N ih =>
    intro t hN v w hv
    obtain ⟨l, rfl, hT⟩ := hv
    obtain ⟨An, cn, As, cs, rfl, -, -, -, hzn, hz, -, hS⟩ := hT.parts
    have HS := Lib.hid hS
    clear hT hS
    generalize hn : t.subs.length = n at hz
    have HN := Lib.hid hn
    clear hn
    have HE := Lib.hid (plain_eq t)
    rcases hid_or (t.kind == 8) with hk8 | hk8
    · have hk8' := hk8.out
      go_enter Try.func22, Try.ntmps22
      go_wp2_with fail
      go_loopw [3] (fun i wr => ∃ k : Nat, k ≤ n ∧ i = .int .i64 k ∧ Hid (∀ j s, j < k → t.subs[j]? = some s → plainT s = true) ∧ Below (boxed w #[.int .i64 t.kind, .string t.pkg, .int .i64 t.major, .string t.mod, .string t.name, .slice An t.names.length cn, .slice As n cs]).heap.size (boxed w #[.int .i64 t.kind, .string t.pkg, .int .i64 t.major, .string t.mod, .string t.name, .slice An t.names.length cn, .slice As n cs]) wr) (fun i _ => n - (intOf i).toNat)
      case atStart => exact ⟨0, by omega, rfl, Lib.hid (fun j s h => by omega), Below.refl _ _⟩
      case round =>
        obtain ⟨k, hk, rfl, HP, hb⟩ := hrel
        obtain ⟨wo, rfl⟩ : ∃ wo : World, wo = wr := ⟨_, rfl⟩
        have b6 := box_cell hb 6
        simp at b6
        have HB := Lib.hid (box_below hb)
        by_cases hlt : k < n
        · obtain ⟨s, hs⟩ : ∃ s, t.subs[k]? = some s := ⟨_, List.getElem?_eq_getElem (by rw [HN.out]; exact hlt)⟩
          obtain ⟨g, o, v0, v1, v2, v3, v4, v5, v6, rfl, -, h0, h1, h2, h3, h4, h5, h6, hs7⟩ := HS.out.below HB.out k s hs
          have hsm := sub_many hs
          have IH := Lib.hid (ih s (by omega) (.agg #[v0, v1, v2, v3, v4, v5, v6]) wo ⟨_, rfl, hs7⟩)
          have HSS := Lib.hid hs
          clear hs7 hs hsm
          rcases hid_or (plainT s) with hp | hp
          · have R : Hid (plainT t = false) := Lib.hid (by
              rw [HE.out, Bool.and_eq_false_iff]; right
              rw [Bool.eq_false_iff, ne_eq, plainL_mem]
              intro h
              have := h s (List.mem_of_getElem? HSS.out)
              rw [hp.out] at this; cases this)
            go_wp2_with fail
            refine IH.out.mono ?_; rintro e w2 ⟨rfl, hb2⟩; rw [hp.out]
            have hb3 := below_over hb hb2
            clear b6 h0 h1 h2 h3 h4 h5 h6 hb hb2
            go_wp2_with fail
            go_ret
            exact ⟨ret_bool R.out, box_below hb3⟩
          · go_wp2_with fail
            refine IH.out.mono ?_; rintro e w2 ⟨rfl, hb2⟩; rw [hp.out]
            have hb3 := below_over hb hb2
            clear b6 h0 h1 h2 h3 h4 h5 h6 hb hb2
            go_wp2_with fail
            go_roundw
            case rel => exact ⟨k + 1, by omega, by go_num, Lib.hid (fun j q hj hq => by
              rcases Nat.lt_or_ge j k with a | a
              · exact HP.out j q a hq
              · rw [show j = k by omega, HSS.out] at hq
                obtain rfl := Option.some.inj hq
                exact hp.out), hb3⟩
            case measure => simp [intOf]; omega
        · have R : Hid (plainT t = true) := Lib.hid (by
            rw [HE.out, hk8.out, (plainL_mem t.subs).2 (fun s hs => ?_)]
            · rfl
            · obtain ⟨j, hj⟩ := List.getElem?_of_mem hs
              have hjl := (List.getElem?_eq_some_iff.1 hj).1
              exact HP.out j s (by rw [HN.out] at hjl; omega) hj)
          go_wp2_with fail
          go_ret
          exact ⟨ret_bool R.out, HB.out⟩
    · have hk8' := hk8.out
      have R : Hid (plainT t = false) := Lib.hid (by rw [HE.out, hk8.out]; rfl)
      rw [R.out]
      go_enter Try.func22, Try.ntmps22
      go_wp2_with fail
      go_ret
      exact ⟨rfl, below_new (Below.refl _ _) _⟩
end Go.Proofs.Ytcdmgcgjonndpaa

/-  -/
namespace Go.Proofs.Ytcdmgcgjonndpaa
open Go.RowKit
open M
set_option maxHeartbeats 2000000 in
theorem many_any (N : Nat) : ∀ (t : Ty), many t ≤ N → many t ≤ 9000 → ∀ (v : Value) (w : World), TyV w v t →
  Calls Try.prog 32 #[v] w fun e w' => e = .returned (.int .i64 (many t : Nat)) ∧ Below w.heap.size w w' := by
 induction N with
 | zero => intro t h; have := many_pos t; omega
 | succ N ih =>
  intro t hN hM v w hv
  obtain ⟨l, rfl, hT⟩ := hv
  obtain ⟨An, cn, As, cs, rfl, -, -, -, -, hz, -, hS⟩ := hT.parts
  have HS := Lib.hid hS
  have HE := Lib.hid (manyL_eq t)
  have HL := manyL_len t.subs
  have hM' : manyL t.subs ≤ 9000 := by have := HE.out; omega
  clear hT hS
  generalize hn : t.subs.length = n at hz HL
  have HN := Lib.hid hn
  clear hn
  go_enter Try.func32, Try.ntmps32
  go_wp2_with fail
  go_loopw [3, 4] (fun m i wr => ∃ k : Nat, k ≤ n ∧ i = .int .i64 k ∧ m = .int .i64 ((1 + manyL (t.subs.take k) : Nat) : Int) ∧ Below (boxed w #[.int .i64 t.kind, .string t.pkg, .int .i64 t.major, .string t.mod, .string t.name, .slice An t.names.length cn, .slice As n cs]).heap.size (boxed w #[.int .i64 t.kind, .string t.pkg, .int .i64 t.major, .string t.mod, .string t.name, .slice An t.names.length cn, .slice As n cs]) wr) (fun _ i _ => n - (intOf i).toNat)
  case atStart => exact ⟨0, by omega, rfl, by simp [manyL], Below.refl _ _⟩
  case round =>
   obtain ⟨k, hk, rfl, rfl, hb⟩ := hrel
   obtain ⟨wo, rfl⟩ : ∃ wo : World, wo = wr := ⟨_, rfl⟩
   have b6 := box_cell hb 6
   simp at b6
   have HB := Lib.hid (box_below hb)
   have htk := manyL_take_le t.subs k
   by_cases hlt : k < n
   ·obtain ⟨s, hs⟩ : ∃ s, t.subs[k]? = some s := ⟨_, List.getElem?_eq_getElem (by rw [HN.out]; exact hlt)⟩
    obtain ⟨g, o, v0, v1, v2, v3, v4, v5, v6, rfl, -, h0, h1, h2, h3, h4, h5, h6, hs7⟩ := HS.out.below HB.out k s hs
    have hsm := sub_many hs
    have T1 := Lib.hid (manyL_take t.subs k s hs)
    have htk1 := manyL_take_le t.subs (k + 1)
    have IH := Lib.hid (ih s (by omega) (by omega) (.agg #[v0, v1, v2, v3, v4, v5, v6]) wo ⟨_, rfl, hs7⟩)
    have hsz : many s ≤ 9000 := by omega
    clear hs7 hs hsm
    go_wp2_with fail
    refine IH.out.mono ?_; rintro e w2 ⟨rfl, hb2⟩
    have hb3 := below_over hb hb2
    clear b6 h0 h1 h2 h3 h4 h5 h6 hb hb2
    go_wp2_with fail
    go_roundw
    case rel => exact ⟨k + 1, by omega, by go_num, by rw [T1.out]; go_num, hb3⟩
    case measure => simp [intOf]; omega
   ·have hkn : k = n := by omega
    have T0 : Hid (many t = 1 + manyL (t.subs.take k)) := Lib.hid (by rw [HE.out, List.take_of_length_le (by rw [HN.out]; omega)])
    go_wp2_with fail
    go_ret
    exact ⟨ret_int' (by rw [T0.out]), HB.out⟩
set_option maxHeartbeats 2000000 in
theorem deep_any (N : Nat) : ∀ (t : Ty), many t ≤ N → many t ≤ 9000 → ∀ (v : Value) (w : World), TyV w v t →
  Calls Try.prog 33 #[v] w fun e w' => e = .returned (.int .i64 (deep t : Nat)) ∧ Below w.heap.size w w' := by
 induction N with
 | zero => intro t h; have := many_pos t; omega
 | succ N ih =>
  intro t hN hM v w hv
  obtain ⟨l, rfl, hT⟩ := hv
  obtain ⟨An, cn, As, cs, rfl, -, -, -, hzn, hz, -, hS⟩ := hT.parts
  have HS := Lib.hid hS
  clear hT hS
  generalize hn : t.subs.length = n at hz
  have HN := Lib.hid hn
  clear hn
  have HE := Lib.hid (deep_eq t)
  have hdm : deepL t.subs ≤ 9000 := by have := deep_many t; have := HE.out; omega
  have htk : ∀ k, deepL (t.subs.take k) ≤ deepL t.subs := fun k => by
   conv => rhs; rw [← List.take_append_drop k t.subs, deepL_append]
   omega
  have HK := Lib.hid htk
  clear htk
  go_enter Try.func33, Try.ntmps33
  go_wp2_with fail
  go_loopw [3, 4] (fun m i wr => ∃ k : Nat, k ≤ n ∧ i = .int .i64 k ∧ m = .int .i64 ((deepL (t.subs.take k) : Nat) : Int) ∧ Below (boxed w #[.int .i64 t.kind, .string t.pkg, .int .i64 t.major, .string t.mod, .string t.name, .slice An t.names.length cn, .slice As n cs]).heap.size (boxed w #[.int .i64 t.kind, .string t.pkg, .int .i64 t.major, .string t.mod, .string t.name, .slice An t.names.length cn, .slice As n cs]) wr) (fun _ i _ => n - (intOf i).toNat)
  case atStart => exact ⟨0, by omega, rfl, by simp [deepL], Below.refl _ _⟩
  case round =>
   obtain ⟨k, hk, rfl, rfl, hb⟩ := hrel
   obtain ⟨wo, rfl⟩ : ∃ wo : World, wo = wr := ⟨_, rfl⟩
   have b6 := box_cell hb 6
   simp at b6
   have HB := Lib.hid (box_below hb)
   have htk := HK.out k
   by_cases hlt : k < n
   ·skip
    obtain ⟨s, hs⟩ : ∃ s, t.subs[k]? = some s := ⟨_, List.getElem?_eq_getElem (by rw [HN.out]; exact hlt)⟩
    obtain ⟨g, o, v0, v1, v2, v3, v4, v5, v6, rfl, -, h0, h1, h2, h3, h4, h5, h6, hs7⟩ := HS.out.below HB.out k s hs
    have hsm := sub_many hs
    have T1 := Lib.hid (deepL_take t.subs k s hs)
    have htk1 := HK.out (k + 1)
    have hds := deep_many s
    have hsz : deep s ≤ 9000 := by omega
    have IH := Lib.hid (ih s (by omega) (by omega) (.agg #[v0, v1, v2, v3, v4, v5, v6]) wo ⟨_, rfl, hs7⟩)
    clear hs7 hs hsm hds
    by_cases hgt : deepL (t.subs.take k) < deep s
    ·have T2 : Hid (deepL (t.subs.take (k + 1)) = deep s) := Lib.hid (by rw [T1.out]; omega)
     go_wp2_with fail
     refine IH.out.mono ?_; rintro e w2 ⟨rfl, hb2⟩
     have hb3 := below_over hb hb2
     clear b6 h0 h1 h2 h3 h4 h5 h6 hb hb2
     go_wp2_with fail
     go_roundw
     case rel => exact ⟨k + 1, by omega, by go_num, by rw [T2.out], hb3⟩
     case measure => simp [intOf]; omega
    ·have T2 : Hid (deepL (t.subs.take (k + 1)) = deepL (t.subs.take k)) := Lib.hid (by rw [T1.out]; omega)
     go_wp2_with fail
     refine IH.out.mono ?_; rintro e w2 ⟨rfl, hb2⟩
     have hb3 := below_over hb hb2
     clear b6 h0 h1 h2 h3 h4 h5 h6 hb hb2
     go_wp2_with fail
     go_roundw
     case rel => exact ⟨k + 1, by omega, by go_num, by rw [T2.out], hb3⟩
     case measure => simp [intOf]; omega
   ·have T0 : Hid (deep t = deepL (t.subs.take k) + 1) := Lib.hid (by rw [HE.out, List.take_of_length_le (by rw [HN.out]; omega)])
    go_wp2_with fail
    go_ret
    exact ⟨ret_int' (by rw [T0.out]; go_num), HB.out⟩
theorem few_eq (t : Ty) (most : Int) : fewT t most = if most - 1 < 0 ∨ 200 < t.names.length then -1 else fewL t.subs (most - 1) := by cases t; rfl
theorem fewL_take : ∀ (l : List Ty) (k : Nat) (most : Int), fewL l most = fewL (l.drop k) (fewL (l.take k) most)
 | [], k, most => by simp [fewL]
 | t :: r, 0, most => rfl
 | t :: r, k + 1, most => by
  show (if 0 ≤ most then fewL r (fewT t most) else most) = fewL (r.drop k) (if 0 ≤ most then fewL (r.take k) (fewT t most) else most)
  split
  ·exact fewL_take r k _
  ·rw [fewL_neg _ _ (by omega)]
theorem fewL_snoc (l : List Ty) (k : Nat) (t : Ty) (most : Int) (h : l[k]? = some t) (h0 : 0 ≤ fewL (l.take k) most) : fewL (l.take (k + 1)) most = fewT t (fewL (l.take k) most) := by
 have hk := (List.getElem?_eq_some_iff.1 h).1
 have e := fewL_take (l.take (k + 1)) k most
 rw [List.take_take, Nat.min_eq_left (by omega)] at e
 have d : (l.take (k + 1)).drop k = [t] := by
  rw [List.take_add_one, h, List.drop_append_of_le_length (by simp; omega), List.drop_eq_nil_of_le (List.length_take_le _ _)]
  rfl
 rw [e, d]
 show (if 0 ≤ _ then fewL [] _ else _) = _
 rw [if_pos h0]; rfl
set_option maxHeartbeats 2000000 in
theorem few_any (N : Nat) : ∀ (t : Ty), many t ≤ N → ∀ (most : Int), -1 ≤ most → most ≤ 3000 → ∀ (v : Value) (w : World), TyV w v t →
  Calls Try.prog 21 #[v, .int .i64 most] w fun e w' => e = .returned (.int .i64 (fewT t most)) ∧ Below w.heap.size w w' := by
 induction N with
 | zero => intro t h; have := many_pos t; omega
 | succ N ih =>
  intro t hN most hlo hhi v w hv
  obtain ⟨l, rfl, hT⟩ := hv
  obtain ⟨An, cn, As, cs, rfl, -, -, -, hzn, hz, -, hS⟩ := hT.parts
  have HS := Lib.hid hS
  clear hT hS
  generalize hn : t.subs.length = n at hz
  have HN := Lib.hid hn
  clear hn
  have HE := Lib.hid (few_eq t most)
  by_cases hm : most - 1 < 0
  ·have R : Hid (fewT t most = -1) := Lib.hid (by rw [HE.out, if_pos (.inl hm)])
   rw [R.out]
   go_enter Try.func21, Try.ntmps21
   go_wp2_with fail
   go_ret
   exact ⟨rfl, below_new (Below.refl _ _) _⟩
  generalize hq : t.names.length = q at hzn HE
  by_cases hl : 200 < q
  ·have R : Hid (fewT t most = -1) := Lib.hid (by rw [HE.out, if_pos (.inr hl)])
   have hl' : (200 : Int) < q := by omega
   rw [R.out]
   clear hq
   go_enter Try.func21, Try.ntmps21
   go_wp2_with fail
   go_ret
   exact ⟨rfl, below_new (Below.refl _ _) _⟩
  have HR : Hid (fewT t most = fewL t.subs (most - 1)) := Lib.hid (by rw [HE.out, if_neg (by omega)])
  have hl' : ¬ (200 : Int) < q := by omega
  clear HE hq
  go_enter Try.func21, Try.ntmps21
  go_wp2_with fail
  go_loopw [1, 5] (fun m i wr => ∃ k : Nat, k ≤ n ∧ i = .int .i64 k ∧ m = .int .i64 (fewL (t.subs.take k) (most - 1)) ∧ Below (boxed w #[.int .i64 t.kind, .string t.pkg, .int .i64 t.major, .string t.mod, .string t.name, .slice An q cn, .slice As n cs]).heap.size (boxed w #[.int .i64 t.kind, .string t.pkg, .int .i64 t.major, .string t.mod, .string t.name, .slice An q cn, .slice As n cs]) wr) (fun _ i _ => n - (intOf i).toNat)
  case atStart => exact ⟨0, by omega, rfl, by simp [fewL], Below.refl _ _⟩
  case round =>
   obtain ⟨k, hk, rfl, rfl, hb⟩ := hrel
   obtain ⟨wo, rfl⟩ : ∃ wo : World, wo = wr := ⟨_, rfl⟩
   have b6 := box_cell hb 6
   simp at b6
   have HB := Lib.hid (box_below hb)
   have bd := fewL_bd (t.subs.take k) (most - 1) (by omega)
   by_cases hlt : k < n
   ·by_cases h0 : 0 ≤ fewL (t.subs.take k) (most - 1)
    ·obtain ⟨s, hs⟩ : ∃ s, t.subs[k]? = some s := ⟨_, List.getElem?_eq_getElem (by rw [HN.out]; exact hlt)⟩
     obtain ⟨g, o, v0, v1, v2, v3, v4, v5, v6, rfl, -, h0', h1, h2, h3, h4, h5, h6, hs7⟩ := HS.out.below HB.out k s hs
     have hsm := sub_many hs
     have T1 := Lib.hid (fewL_snoc t.subs k s (most - 1) hs h0)
     have IH := Lib.hid (ih s (by omega) (fewL (t.subs.take k) (most - 1)) (by omega) (by omega) (.agg #[v0, v1, v2, v3, v4, v5, v6]) wo ⟨_, rfl, hs7⟩)
     clear hs7 hs hsm
     generalize fewL (t.subs.take k) (most - 1) = z at h0 IH T1 bd
     go_wp2_with fail
     refine IH.out.mono ?_; rintro e w2 ⟨rfl, hb2⟩
     have hb3 := below_over hb hb2
     clear b6 h0' h1 h2 h3 h4 h5 h6 hb hb2
     go_wp2_with fail
     go_roundw
     case rel => exact ⟨k + 1, by omega, by go_num, by rw [T1.out], hb3⟩
     case measure => simp [intOf]; omega
    ·have T0 : Hid (fewT t most = fewL (t.subs.take k) (most - 1)) := Lib.hid (by rw [HR.out, fewL_take t.subs k, fewL_neg _ _ (by omega)])
     generalize fewL (t.subs.take k) (most - 1) = z at h0 T0 bd
     go_wp2_with fail
     go_ret
     exact ⟨ret_int' T0.out, HB.out⟩
   ·have T0 : Hid (fewT t most = fewL (t.subs.take k) (most - 1)) := Lib.hid (by rw [HR.out, List.take_of_length_le (by rw [HN.out]; omega)])
    generalize fewL (t.subs.take k) (most - 1) = z at T0 bd
    go_wp2_with fail
    go_ret
    exact ⟨ret_int' T0.out, HB.out⟩
end Go.Proofs.Ytcdmgcgjonndpaa

/-  -/
namespace Go.Proofs.Ytcdmgcgjonndpaa
open Go.RowKit
open M
set_option maxRecDepth 100000 in
set_option maxHeartbeats 4000000 in
theorem index_local (As : Option Addr) (cs n : Nat) (ss : List Ty) (w : World) (hn : ss.length = n) (hz : n ≤ 9223372036854775807) (hS : SubsAt w As ss)
    (IH : ∀ s, s ∈ ss → ∀ (v : Value) (w : World), TyV w v s → Calls Try.prog 35 #[v] w fun e w' => e = .returned (.bool (!plainT s)) ∧ Below w.heap.size w w') :
    Calls Try.prog 58 #[.slice As n cs, .func (.func 35) #[] #[]] w fun e w' => ∃ r : Int, e = .returned (.int .i64 r) ∧ decide (0 ≤ r) = !plainL ss ∧ Below w.heap.size w w' := by
  have HS := Lib.hid hS
  have HN := Lib.hid hn
  have HIH := Lib.hid IH
  clear hS hn IH
  go_enter Try.func58, Try.ntmps58
  go_wp2_with fail
  go_loopw [8] (fun i wr => ∃ k : Nat, k ≤ n ∧ i = .int .i64 k ∧ Hid (∀ j s, j < k → ss[j]? = some s → plainT s = true) ∧ Below w.heap.size w wr) (fun i _ => n - (intOf i).toNat)
  case atStart => exact ⟨0, by omega, rfl, Lib.hid (fun j s h => by omega), Below.refl _ _⟩
  case round =>
    obtain ⟨k, hk, rfl, HP, hb⟩ := hrel
    obtain ⟨wo, rfl⟩ : ∃ wo : World, wo = wr := ⟨_, rfl⟩
    by_cases hlt : k < n
    · obtain ⟨s, hs⟩ : ∃ s, ss[k]? = some s := ⟨_, List.getElem?_eq_getElem (by rw [HN.out]; exact hlt)⟩
      obtain ⟨g, o, v0, v1, v2, v3, v4, v5, v6, rfl, -, h0, h1, h2, h3, h4, h5, h6, hs7⟩ := HS.out.below hb k s hs
      have IHs := Lib.hid (HIH.out s (List.mem_of_getElem? hs) (.agg #[v0, v1, v2, v3, v4, v5, v6]) wo ⟨_, rfl, hs7⟩)
      have HSS := Lib.hid hs
      clear hs7 hs
      rcases hid_or (plainT s) with hp | hp
      · have R : Hid (decide (0 ≤ (k : Int)) = !plainL ss) := Lib.hid (by
          rw [show plainL ss = false by
            rw [Bool.eq_false_iff, ne_eq, plainL_mem]
            intro h
            have := h s (List.mem_of_getElem? HSS.out)
            rw [hp.out] at this; cases this]
          simp)
        go_wp2_with fail
        refine IHs.out.mono ?_; rintro e w2 ⟨rfl, hb2⟩; rw [hp.out]
        have hb3 := below_over hb hb2
        clear h0 h1 h2 h3 h4 h5 h6 hb hb2
        go_wp2_with fail
        go_ret
        exact ⟨_, rfl, R.out, hb3⟩
      · go_wp2_with fail
        refine IHs.out.mono ?_; rintro e w2 ⟨rfl, hb2⟩; rw [hp.out]
        have hb3 := below_over hb hb2
        clear h0 h1 h2 h3 h4 h5 h6 hb hb2
        go_wp2_with fail
        go_roundw
        case rel => exact ⟨k + 1, by omega, by go_num, Lib.hid (fun j q hj hq => by
          rcases Nat.lt_or_ge j k with a | a
          · exact HP.out j q a hq
          · rw [show j = k by omega, HSS.out] at hq
            obtain rfl := Option.some.inj hq
            exact hp.out), hb3⟩
        case measure => simp [intOf]; omega
    · have R : Hid (decide (0 ≤ (-1 : Int)) = !plainL ss) := Lib.hid (by
        rw [(plainL_mem ss).2 (fun s hs => ?_)]
        · rfl
        · obtain ⟨j, hj⟩ := List.getElem?_of_mem hs
          have hjl := (List.getElem?_eq_some_iff.1 hj).1
          exact HP.out j s (by rw [HN.out] at hjl; omega) hj)
      go_wp2_with fail
      go_ret
      exact ⟨_, rfl, R.out, hb⟩
set_option maxRecDepth 100000 in
set_option maxHeartbeats 1000000 in
theorem contains_local (As : Option Addr) (cs n : Nat) (ss : List Ty) (w : World) (hn : ss.length = n) (hz : n ≤ 9223372036854775807) (hS : SubsAt w As ss)
    (IH : ∀ s, s ∈ ss → ∀ (v : Value) (w : World), TyV w v s → Calls Try.prog 35 #[v] w fun e w' => e = .returned (.bool (!plainT s)) ∧ Below w.heap.size w w') :
    Calls Try.prog 46 #[.slice As n cs, .func (.func 35) #[] #[]] w fun e w' => e = .returned (.bool (!plainL ss)) ∧ Below w.heap.size w w' := by
  have HC := Lib.hid (index_local As cs n ss w hn hz hS IH)
  clear hn hS IH
  go_enter Try.func46, Try.ntmps46
  go_wp2_with fail
  refine HC.out.mono ?_; rintro e w2 ⟨r, rfl, hr, hb2⟩
  have HR := Lib.hid hr
  clear hr HC
  go_wp2_with fail
  go_ret
  exact ⟨ret_bool HR.out.symm, hb2⟩
set_option maxRecDepth 100000 in
set_option maxHeartbeats 1000000 in
theorem local_any (N : Nat) : ∀ (t : Ty), many t ≤ N → ∀ (v : Value) (w : World), TyV w v t →
    Calls Try.prog 35 #[v] w fun e w' => e = .returned (.bool (!plainT t)) ∧ Below w.heap.size w w' := by
  induction N with
  | zero => intro t h; have := many_pos t; omega
  | succ N ih =>
    intro t hN v w hv
    obtain ⟨l, rfl, hT⟩ := hv
    obtain ⟨An, cn, As, cs, rfl, -, -, -, hzn, hz, -, hS⟩ := hT.parts
    have HS := Lib.hid hS
    clear hT hS
    have HE := Lib.hid (plain_eq t)
    have IH : Hid (∀ s, s ∈ t.subs → ∀ (v : Value) (w : World), TyV w v s → Calls Try.prog 35 #[v] w fun e w' => e = .returned (.bool (!plainT s)) ∧ Below w.heap.size w w') :=
      Lib.hid (fun s hs v w hv => ih s (by have := manyL_mem t.subs s hs; have := manyL_eq t; omega) v w hv)
    clear ih hN
    generalize hn : t.subs.length = n at hz
    have HN := Lib.hid hn
    clear hn
    rcases hid_or (t.kind == 8) with h8 | h8
    · have h8' := h8.out
      have R : Hid ((!plainT t) = !plainL t.subs) := Lib.hid (by rw [HE.out, h8']; rfl)
      rw [R.out]
      clear R
      go_enter Try.func35, Try.ntmps35
      go_wp2_with fail
      refine (contains_local As cs n t.subs _ HN.out hz (HS.out.below (below_new (Below.refl _ _) _)) IH.out).mono ?_; rintro e w2 ⟨rfl, hb2⟩
      go_wp2_with fail
      go_ret
      exact ⟨rfl, (below_new (Below.refl _ _) _).trans (hb2.mono (by simp))⟩
    · have h8' := h8.out
      have R : Hid ((!plainT t) = true) := Lib.hid (by rw [HE.out, h8']; rfl)
      rw [R.out]
      clear R
      go_enter Try.func35, Try.ntmps35
      go_wp2_with fail
      go_ret
      exact ⟨rfl, below_new (Below.refl _ _) _⟩
end Go.Proofs.Ytcdmgcgjonndpaa

/-  -/
namespace Go.Proofs.Ytcdmgcgjonndpaa.M
open Go
structure Toks where
  n : Nat
  K : Nat → Int
  T : Nat → ByteArray
namespace Toks
variable (S : Toks)
end Toks
end Go.Proofs.Ytcdmgcgjonndpaa.M

/-  -/
namespace Go.Proofs.Ytcdmgcgjonndpaa
open Go.RowKit
open M
open Classical in
noncomputable def strike (S : Nat → Prop) (w : World) : World := { w with heap := w.heap.mapIdx fun i o => if S i then .cells #[] 0 (0, 0) else o }
theorem strike_size (S : Nat → Prop) (w : World) : (strike S w).heap.size = w.heap.size := by simp [strike]
theorem strike_cell {S : Nat → Prop} {w : World} {b o : Nat} {x : Value} : (strike S w).cell? ⟨b, o, none⟩ = some x ↔ ¬ S b ∧ w.cell? ⟨b, o, none⟩ = some x := by
  by_cases hb : S b
  · simp only [hb, not_true, false_and, iff_false]
    intro h
    have hlt := World.block_lt_of_cell? _ _ h
    rw [strike_size] at hlt
    rw [Lib.cell_of_heap (cs := #[]) (T := 0) (fr := (0, 0)) (by simp [strike, hlt, hb])] at h
    simp at h
  · simp only [hb, not_false_eq_true, true_and]
    have e : (strike S w).heap[b]? = w.heap[b]? := by
      rcases Nat.lt_or_ge b w.heap.size with h | h
      · simp [strike, h, hb]
      · rw [Array.getElem?_eq_none h, Array.getElem?_eq_none (by rw [strike_size]; exact h)]
    rw [World.cell?_of_block (w := w) (w' := strike S w) (a := ⟨b, o, none⟩) e]
theorem NamesAt.cells {w w' : World} {A : Option Addr} {l : List ByteArray} (hz : w.heap.size ≤ w'.heap.size) (hc : ∀ b o x, w.cell? ⟨b, o, none⟩ = some x → w'.cell? ⟨b, o, none⟩ = some x) (h : NamesAt w A l) : NamesAt w' A l := by
  intro i s hs
  obtain ⟨g, o, hA, hg, h1, h2⟩ := h i s hs
  exact ⟨g, o, hA, Nat.lt_of_lt_of_le hg hz, hc _ _ _ h1, h2⟩
theorem TyAt.cells {w w' : World} (hz : w.heap.size ≤ w'.heap.size) (hc : ∀ b o x, w.cell? ⟨b, o, none⟩ = some x → w'.cell? ⟨b, o, none⟩ = some x) {l : List Value} {t : Ty} (h : TyAt w l t) : TyAt w' l t := by
  induction h with
  | mk kind pkg major mod name names subs An cn As cs C hp hm hn hln hls hcs hN hl hS hT ih =>
    refine .mk kind pkg major mod name names subs An cn As cs C hp hm hn hln hls hcs (hN.cells hz hc) hl (fun i t ht => ?_) ih
    obtain ⟨g, o, hA, hg, h1⟩ := hS i t ht
    exact ⟨g, o, hA, Nat.lt_of_lt_of_le hg hz, fun j v hv => hc _ _ _ (h1 j v hv)⟩
theorem run_append_empty {P : Program} {w : World} (base : Nat) (t ty e : TypeId) (i : TypeInfo) (size : Nat) (ht : P.underlying t = some (.slice e)) (hi : P.info? e = some i)
    (v : Value) (n c : Nat) (xs : List Value) (hown : w.ownsRow base e size v n xs) : (Builtin.append_ #[t, t] ty #[v, .slice none 0 c]).run P w = .ok v w := by
  rcases hown.2 with ⟨rfl, rfl⟩ | ⟨g, cap, cur, rfl, _, _, hnc, _⟩
  · simp [Builtin.append_, run_underlying ht, sizeOf, typeInfo, hi, Builtin.lenOf, Builtin.firstCells]
  · simp [Builtin.append_, run_underlying ht, sizeOf, typeInfo, hi, Builtin.lenOf, Builtin.firstCells, hnc, storeCells]
theorem str_info : (Try.prog.info? 9).map (fun i => (i.zero, i.size, i.bytes)) = some (some (.string ⟨#[]⟩), 1, 16) := by kernel_rfl
theorem typ_info : (Try.prog.info? 25).map (fun i => (i.zero, i.size, i.bytes)) = some (some (.agg #[.int .i64 0, .string ⟨#[]⟩, .int .i64 0, .string ⟨#[]⟩, .string ⟨#[]⟩, .slice none 0 0, .slice none 0 0]), 7, 112) := by kernel_rfl
structure Cp (w : World) (t : Ty) (A5 : Option Addr) (c5 : Nat) (j : Nat) (A6 : Option Addr) (c6 : Nat) (wr : World) : Prop where
  below : Below w.heap.size w wr
  box : wr.heap[w.heap.size]? = some (.cells #[.int .i64 t.kind, .string t.pkg, .int .i64 t.major, .string t.mod, .string t.name, .slice A5 t.names.length c5, .slice A6 j c6] 25 (0, 0))
  res : wr.heap[w.heap.size + 1]? = some (.cells #[.int .i64 0, .string ⟨#[]⟩, .int .i64 0, .string ⟨#[]⟩, .string ⟨#[]⟩, .slice none 0 0, .slice none 0 0] 25 (0, 0))
  names : NamesAt (strike (fun b => b < w.heap.size + 2 ∨ (Value.slice A6 j c6).ownBlock = some b) wr) A5 t.names
  subs : ∃ C : Nat → List Value, (∀ i, (C i).length = 7) ∧ wr.ownsRow (w.heap.size + 2) 25 7 (.slice A6 j c6) j ((List.range j).map C).flatten ∧
    ∀ i s, i < j → t.subs[i]? = some s → TyAt (strike (fun b => b < w.heap.size + 2 ∨ (Value.slice A6 j c6).ownBlock = some b) wr) (C i) s
end Go.Proofs.Ytcdmgcgjonndpaa

/-  -/
namespace Go.Proofs.Ytcdmgcgjonndpaa
open Go.RowKit
open M
set_option maxHeartbeats 400000 in
theorem lower_any (n : Int) (w : World) : Calls Try.prog 98 #[.int .u8 n] w fun e w' => e = .returned (.bool (lowC n)) ∧ w = w' := by
  go_enter Try.func98, Try.ntmps98
  go_wp2
  all_goals go_ret
  all_goals exact ⟨ret_bool (by unfold lowC; simp_all; try omega), rfl⟩
set_option maxHeartbeats 400000 in
theorem upper_any (n : Int) (w : World) : Calls Try.prog 101 #[.int .u8 n] w fun e w' => e = .returned (.bool (upC n)) ∧ w = w' := by
  go_enter Try.func101, Try.ntmps101
  go_wp2
  all_goals go_ret
  all_goals exact ⟨ret_bool (by unfold upC; simp_all; try omega), rfl⟩
set_option maxHeartbeats 400000 in
theorem digit_any (n : Int) (w : World) : Calls Try.prog 105 #[.int .u8 n] w fun e w' => e = .returned (.bool (digC n)) ∧ w = w' := by
  go_enter Try.func105, Try.ntmps105
  go_wp2
  all_goals go_ret
  all_goals exact ⟨ret_bool (by unfold digC; simp_all; try omega), rfl⟩
set_option maxHeartbeats 400000 in
theorem lowDig_any (n : Int) (w : World) : Calls Try.prog 99 #[.int .u8 n] w fun e w' => e = .returned (.bool (lowDigC n)) ∧ w = w' := by
  unfold lowDigC
  rcases hid_or (lowC n) with h | h <;> rw [h.out]
  all_goals
    go_enter Try.func99, Try.ntmps99
    go_wp2_with fail
    refine (lower_any _ _).mono ?_; rintro e w' ⟨rfl, rfl⟩; rw [h.out]
    go_wp2_with (go_at_call 105; refine (digit_any _ _).mono ?_; rintro e w' ⟨rfl, rfl⟩)
    go_ret
    exact ⟨rfl, rfl⟩
set_option maxHeartbeats 400000 in
theorem any_any (n : Int) (w : World) : Calls Try.prog 102 #[.int .u8 n] w fun e w' => e = .returned (.bool (anyC n)) ∧ w = w' := by
  unfold anyC
  rcases hid_or (lowC n) with h | h <;> rw [h.out]
  · rcases hid_or (upC n) with h2 | h2 <;> rw [h2.out]
    all_goals
      go_enter Try.func102, Try.ntmps102
      go_wp2_with fail
      refine (lower_any _ _).mono ?_; rintro e w' ⟨rfl, rfl⟩; rw [h.out]
      go_wp2_with fail
      refine (upper_any _ _).mono ?_; rintro e w' ⟨rfl, rfl⟩; rw [h2.out]
      go_wp2_with (go_at_call 105; refine (digit_any _ _).mono ?_; rintro e w' ⟨rfl, rfl⟩)
      go_ret
      exact ⟨rfl, rfl⟩
  · go_enter Try.func102, Try.ntmps102
    go_wp2_with fail
    refine (lower_any _ _).mono ?_; rintro e w' ⟨rfl, rfl⟩; rw [h.out]
    go_wp2
    go_ret
    exact ⟨rfl, rfl⟩
set_option maxHeartbeats 1000000 in
theorem key_any (s : ByteArray) (w : World) : Calls Try.prog 100 #[.string s] w fun e w' => e = .returned (.bool (keyB s.data.toList)) ∧ w = w' := by
  have E := Lib.hid (show s.toList = s.data.toList from Lib.toList_data s)
  go_enter Try.func100, Try.ntmps100
  go_wp2
  all_goals go_ret
  all_goals refine ⟨ret_bool ?_, rfl⟩
  all_goals (rw [← E.out]; clear E; simp_all [keyB, keys])
set_option maxHeartbeats 1000000 in
theorem word_any (s : ByteArray) (w : World) : Calls Try.prog 103 #[.string s] w fun e w' => e = .returned (.bool (wordB s.data.toList)) ∧ w = w' := by
  have E := Lib.hid (show s.toList = s.data.toList from Lib.toList_data s)
  go_enter Try.func103, Try.ntmps103
  go_wp2
  all_goals go_ret
  all_goals refine ⟨ret_bool ?_, rfl⟩
  all_goals (rw [← E.out]; clear E; simp_all [wordB, words])
end Go.Proofs.Ytcdmgcgjonndpaa

/-  -/
namespace Go.Proofs.Ytcdmgcgjonndpaa
open Go.RowKit
open M
theorem empty_facts (s : ByteArray) (h : s.size = 0) : s.toList = [] ∧ s.toList.isEmpty = true := by
  have hl : s.data.toList = [] := by rw [← List.length_eq_zero_iff, len_size]; exact h
  have g1 : s.toList = [] := by rw [Lib.toList_data, hl]
  exact ⟨g1, by rw [g1]; rfl⟩
theorem full_facts (s : ByteArray) (h : ¬ s.size = 0) : ¬ s.toList = [] ∧ s.toList.isEmpty = false := by
  have hl : s.data.toList ≠ [] := by intro e; apply h; rw [← len_size, e]; rfl
  have g1 : ¬ s.toList = [] := by rw [Lib.toList_data]; exact hl
  exact ⟨g1, by simpa using g1⟩
set_option maxHeartbeats 1000000 in
theorem spelled_low (s : ByteArray) (w : World) (hs : s.size ≤ 9223372036854775807) :
    Calls Try.prog 97 #[.string s, .func (.func 98) #[] #[], .func (.func 99) #[] #[]] w fun e w' => e = .returned (.bool (spell lowC lowDigC s.data.toList)) ∧ w = w' := by
  by_cases h0 : s.size = 0
  · have R := Lib.hid (spell_empty lowC lowDigC s h0)
    rw [R.out]
    obtain ⟨g1, g2⟩ := empty_facts s h0
    clear h0 R
    go_enter Try.func97, Try.ntmps97
    go_wp2
    go_ret
    exact ⟨rfl, rfl⟩
  obtain ⟨g1, g2⟩ := full_facts s h0
  have hp : 0 < s.size := by omega
  clear h0
  by_cases h1 : 20 < s.size
  · have R := Lib.hid (spell_long lowC lowDigC s h1)
    rw [R.out]
    have h1' : (20 : Int) < ↑s.size := by omega
    clear h1 R
    go_enter Try.func97, Try.ntmps97
    go_wp2
    go_ret
    exact ⟨rfl, rfl⟩
  have h1' : (↑s.size : Int) ≤ 20 := by omega
  have h1'' : ¬ (20 : Int) < ↑s.size := by omega
  have B0 := Lib.hid (bt_eq s 0 hp)
  rcases hid_or (lowC (bt s.data.toList 0)) with hf | hf
  · have R := Lib.hid (spell_first lowC lowDigC s hf.out)
    rw [R.out]
    clear h1 R
    go_enter Try.func97, Try.ntmps97
    go_wp2_with fail
    rw [B0.out]
    refine (lower_any _ _).mono ?_; rintro e w' ⟨rfl, rfl⟩; rw [hf.out]
    go_wp2
    go_ret
    exact ⟨rfl, rfl⟩
  go_enter Try.func97, Try.ntmps97
  go_wp2_with fail
  rw [B0.out]
  refine (lower_any _ _).mono ?_; rintro e w' ⟨rfl, rfl⟩; rw [hf.out]
  go_wp2
  go_loop [7] (fun i => ∃ k : Nat, 1 ≤ k ∧ k ≤ s.size ∧ i = .int .i64 k ∧ Hid (∀ j, 1 ≤ j → j < k → lowDigC (bt s.data.toList j) = true)) (fun i => s.size - (intOf i).toNat)
  case atStart => exact ⟨1, by omega, by omega, rfl, Lib.hid (fun j a b => by omega)⟩
  case round =>
    obtain ⟨k, hk1, hk, rfl, HK⟩ := hrel
    by_cases hlt : k < s.size
    · have BK := Lib.hid (bt_eq s k hlt)
      rcases hid_or (lowDigC (bt s.data.toList k)) with hg | hg
      · go_wp2_with fail
        rw [BK.out]
        refine (lowDig_any _ _).mono ?_; rintro e w' ⟨rfl, rfl⟩; rw [hg.out]
        go_wp2
        go_ret
        exact ⟨ret_bool (spell_later lowC lowDigC s k hk1 hlt hg.out), rfl⟩
      · go_wp2_with fail
        rw [BK.out]
        refine (lowDig_any _ _).mono ?_; rintro e w' ⟨rfl, rfl⟩; rw [hg.out]
        go_wp2
        go_round
        case rel => exact ⟨k + 1, by omega, by omega, by go_num, Lib.hid (upto_step (P := fun j => lowDigC (bt s.data.toList j)) HK.out hg.out)⟩
        case measure => simp [intOf]; omega
    · go_wp2
      go_ret
      exact ⟨ret_bool (spell_all lowC lowDigC s hp (by omega) hf.out (fun j a b => HK.out j a (by omega))), rfl⟩
set_option maxHeartbeats 1000000 in
theorem spelled_up (s : ByteArray) (w : World) (hs : s.size ≤ 9223372036854775807) :
    Calls Try.prog 97 #[.string s, .func (.func 101) #[] #[], .func (.func 102) #[] #[]] w fun e w' => e = .returned (.bool (spell upC anyC s.data.toList)) ∧ w = w' := by
  by_cases h0 : s.size = 0
  · have R := Lib.hid (spell_empty upC anyC s h0)
    rw [R.out]
    obtain ⟨g1, g2⟩ := empty_facts s h0
    clear h0 R
    go_enter Try.func97, Try.ntmps97
    go_wp2
    go_ret
    exact ⟨rfl, rfl⟩
  obtain ⟨g1, g2⟩ := full_facts s h0
  have hp : 0 < s.size := by omega
  clear h0
  by_cases h1 : 20 < s.size
  · have R := Lib.hid (spell_long upC anyC s h1)
    rw [R.out]
    have h1' : (20 : Int) < ↑s.size := by omega
    clear h1 R
    go_enter Try.func97, Try.ntmps97
    go_wp2
    go_ret
    exact ⟨rfl, rfl⟩
  have h1' : (↑s.size : Int) ≤ 20 := by omega
  have h1'' : ¬ (20 : Int) < ↑s.size := by omega
  have B0 := Lib.hid (bt_eq s 0 hp)
  rcases hid_or (upC (bt s.data.toList 0)) with hf | hf
  · have R := Lib.hid (spell_first upC anyC s hf.out)
    rw [R.out]
    clear h1 R
    go_enter Try.func97, Try.ntmps97
    go_wp2_with fail
    rw [B0.out]
    refine (upper_any _ _).mono ?_; rintro e w' ⟨rfl, rfl⟩; rw [hf.out]
    go_wp2
    go_ret
    exact ⟨rfl, rfl⟩
  go_enter Try.func97, Try.ntmps97
  go_wp2_with fail
  rw [B0.out]
  refine (upper_any _ _).mono ?_; rintro e w' ⟨rfl, rfl⟩; rw [hf.out]
  go_wp2
  go_loop [7] (fun i => ∃ k : Nat, 1 ≤ k ∧ k ≤ s.size ∧ i = .int .i64 k ∧ Hid (∀ j, 1 ≤ j → j < k → anyC (bt s.data.toList j) = true)) (fun i => s.size - (intOf i).toNat)
  case atStart => exact ⟨1, by omega, by omega, rfl, Lib.hid (fun j a b => by omega)⟩
  case round =>
    obtain ⟨k, hk1, hk, rfl, HK⟩ := hrel
    by_cases hlt : k < s.size
    · have BK := Lib.hid (bt_eq s k hlt)
      rcases hid_or (anyC (bt s.data.toList k)) with hg | hg
      · go_wp2_with fail
        rw [BK.out]
        refine (any_any _ _).mono ?_; rintro e w' ⟨rfl, rfl⟩; rw [hg.out]
        go_wp2
        go_ret
        exact ⟨ret_bool (spell_later upC anyC s k hk1 hlt hg.out), rfl⟩
      · go_wp2_with fail
        rw [BK.out]
        refine (any_any _ _).mono ?_; rintro e w' ⟨rfl, rfl⟩; rw [hg.out]
        go_wp2
        go_round
        case rel => exact ⟨k + 1, by omega, by omega, by go_num, Lib.hid (upto_step (P := fun j => anyC (bt s.data.toList j)) HK.out hg.out)⟩
        case measure => simp [intOf]; omega
    · go_wp2
      go_ret
      exact ⟨ret_bool (spell_all upC anyC s hp (by omega) hf.out (fun j a b => HK.out j a (by omega))), rfl⟩
set_option maxHeartbeats 400000 in
theorem small_any (s : ByteArray) (w : World) (hs : s.size ≤ 9223372036854775807) :
    Calls Try.prog 87 #[.string s] w fun e w' => e = .returned (.bool (smallB s.data.toList)) ∧ w = w' := by
  unfold smallB
  rcases hid_or (spell lowC lowDigC s.data.toList) with h | h <;> rw [h.out]
  · go_enter Try.func87, Try.ntmps87
    go_wp2_with fail
    refine (spelled_low _ _ hs).mono ?_; rintro e w' ⟨rfl, rfl⟩; rw [h.out]
    go_wp2
    go_ret
    exact ⟨rfl, rfl⟩
  · go_enter Try.func87, Try.ntmps87
    go_wp2_with fail
    refine (spelled_low _ _ hs).mono ?_; rintro e w' ⟨rfl, rfl⟩; rw [h.out]
    go_wp2_with fail
    refine (key_any _ _).mono ?_; rintro e w' ⟨rfl, rfl⟩
    go_wp2
    go_ret
    exact ⟨rfl, rfl⟩
set_option maxHeartbeats 400000 in
theorem great_any (s : ByteArray) (w : World) (hs : s.size ≤ 9223372036854775807) :
    Calls Try.prog 88 #[.string s] w fun e w' => e = .returned (.bool (greatB s.data.toList)) ∧ w = w' := by
  unfold greatB
  rcases hid_or (spell upC anyC s.data.toList) with h | h <;> rw [h.out]
  · go_enter Try.func88, Try.ntmps88
    go_wp2_with fail
    refine (spelled_up _ _ hs).mono ?_; rintro e w' ⟨rfl, rfl⟩; rw [h.out]
    go_wp2
    go_ret
    exact ⟨rfl, rfl⟩
  · go_enter Try.func88, Try.ntmps88
    go_wp2_with fail
    refine (spelled_up _ _ hs).mono ?_; rintro e w' ⟨rfl, rfl⟩; rw [h.out]
    go_wp2_with fail
    refine (word_any _ _).mono ?_; rintro e w' ⟨rfl, rfl⟩
    go_wp2
    go_ret
    exact ⟨rfl, rfl⟩
end Go.Proofs.Ytcdmgcgjonndpaa
