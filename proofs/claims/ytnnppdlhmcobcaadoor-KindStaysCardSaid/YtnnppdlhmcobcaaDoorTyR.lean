/-
  Types in memory: what a value of api.Type reads as, as a tree; a type handed in is one.
-/
import Derived.Test.YtnnppdlhmcobcaaDoorTyM
import Derived.Test.YtnnppdlhmcobcaaDoorChecked
import Derived.Test.YtnnppdlhmcobcaaDoorBase
import Derived.ProofKit
import Derived.OpenShut
import Derived.Lib.SmallJoins
import Derived.Deep.Slices
import Derived.Deep.Strs
import Derived.DataReads
import Derived.WideShapes
import Derived.SliceStrings
import Derived.Below
namespace Go.Proofs.YtnnppdlhmcobcaaDoor
open Go Go.ChangeShapes Go.WideShapes Go.ChangeAt Go.RowKit Go.Joins Go.Deep
open M

/-- A slice's cells hold these texts. -/
def NamesAt (w : World) (A : Option Addr) (l : List ByteArray) : Prop :=
  ∀ i s, l[i]? = some s → ∃ g o, A = some ⟨g, o, none⟩ ∧ g < w.heap.size ∧ w.cell? ⟨g, o + i, none⟩ = some (.string s) ∧ s.size ≤ 9223372036854775807

/-- Seven cells read as this type, down to the bottom. -/
inductive TyAt (w : World) : List Value → Ty → Prop where
  | mk (kind : Int) (pkg : ByteArray) (major : Int) (mod name : ByteArray) (names : List ByteArray) (subs : List Ty) (An : Option Addr) (cn : Nat) (As : Option Addr) (cs : Nat) (C : Nat → List Value)
      (hp : pkg.size ≤ 9223372036854775807) (hm : mod.size ≤ 9223372036854775807) (hn : name.size ≤ 9223372036854775807) (hln : names.length ≤ 9223372036854775807) (hls : subs.length ≤ 9223372036854775807) (hcs : subs.length ≤ cs)
      (hN : NamesAt w An names) (hl : ∀ i, (C i).length = 7)
      (hS : ∀ i t, subs[i]? = some t → ∃ g o, As = some ⟨g, o, none⟩ ∧ g < w.heap.size ∧ ∀ j v, (C i)[j]? = some v → w.cell? ⟨g, o + i * 7 + j, none⟩ = some v)
      (hT : ∀ i t, subs[i]? = some t → TyAt w (C i) t) :
      TyAt w [.int .i64 kind, .string pkg, .int .i64 major, .string mod, .string name, .slice An names.length cn, .slice As subs.length cs] (.mk kind pkg major mod name names subs)

theorem NamesAt.below {w w' : World} {A : Option Addr} {l : List ByteArray} (h : NamesAt w A l) (hb : Below w.heap.size w w') : NamesAt w' A l := by
  intro i s hs
  obtain ⟨g, o, hA, hg, hc, hz⟩ := h i s hs
  exact ⟨g, o, hA, Nat.lt_of_lt_of_le hg hb.size, (hb.cell (p := ⟨g, _, none⟩) hg).trans hc, hz⟩
theorem TyAt.keep {w w' : World} (hb : Below w.heap.size w w') {l : List Value} {t : Ty} (h : TyAt w l t) : TyAt w' l t := by
  induction h with
  | mk kind pkg major mod name names subs An cn As cs C hp hm hn hln hls hcs hN hl hS hT ih =>
    refine .mk kind pkg major mod name names subs An cn As cs C hp hm hn hln hls hcs (hN.below hb) hl (fun i t ht => ?_) ih
    obtain ⟨g, o, hA, hg, hc⟩ := hS i t ht
    exact ⟨g, o, hA, Nat.lt_of_lt_of_le hg hb.size, fun j v hv => (hb.cell (p := ⟨g, _, none⟩) hg).trans (hc j v hv)⟩

/-- A slice's cells hold these types. -/
def SubsAt (w : World) (A : Option Addr) (l : List Ty) : Prop :=
  ∀ i t, l[i]? = some t → ∃ (g o : Nat) (v0 v1 v2 v3 v4 v5 v6 : Value), A = some ⟨g, o, none⟩ ∧ g < w.heap.size ∧ w.cell? ⟨g, o + i * 7, none⟩ = some v0 ∧ w.cell? ⟨g, o + i * 7 + 1, none⟩ = some v1 ∧ w.cell? ⟨g, o + i * 7 + 2, none⟩ = some v2 ∧
    w.cell? ⟨g, o + i * 7 + 3, none⟩ = some v3 ∧ w.cell? ⟨g, o + i * 7 + 4, none⟩ = some v4 ∧ w.cell? ⟨g, o + i * 7 + 5, none⟩ = some v5 ∧ w.cell? ⟨g, o + i * 7 + 6, none⟩ = some v6 ∧ TyAt w [v0, v1, v2, v3, v4, v5, v6] t
theorem SubsAt.below {w w' : World} {A : Option Addr} {l : List Ty} (h : SubsAt w A l) (hb : Below w.heap.size w w') : SubsAt w' A l := by
  intro i t ht
  obtain ⟨g, o, v0, v1, v2, v3, v4, v5, v6, hA, hg, h0, h1, h2, h3, h4, h5, h6, hT⟩ := h i t ht
  have e : ∀ k v, w.cell? ⟨g, k, none⟩ = some v → w'.cell? ⟨g, k, none⟩ = some v := fun k v hv => (hb.cell (p := ⟨g, _, none⟩) hg).trans hv
  exact ⟨g, o, v0, v1, v2, v3, v4, v5, v6, hA, Nat.lt_of_lt_of_le hg hb.size, e _ _ h0, e _ _ h1, e _ _ h2, e _ _ h3, e _ _ h4, e _ _ h5, e _ _ h6, hT.keep hb⟩

theorem list7 {α : Type} : ∀ l : List α, l.length = 7 → ∃ a b c d e f g, l = [a, b, c, d, e, f, g]
  | [a, b, c, d, e, f, g], _ => ⟨a, b, c, d, e, f, g, rfl⟩
  | [], h => by simp at h
  | [_], h => by simp at h
  | [_, _], h => by simp at h
  | [_, _, _], h => by simp at h
  | [_, _, _, _], h => by simp at h
  | [_, _, _, _, _], h => by simp at h
  | [_, _, _, _, _, _], h => by simp at h
  | _ :: _ :: _ :: _ :: _ :: _ :: _ :: _ :: _, h => by simp at h

/-- A type's seven cells, and what hangs on them. -/
theorem TyAt.parts {w : World} {l : List Value} {t : Ty} (h : TyAt w l t) : ∃ (An : Option Addr) (cn : Nat) (As : Option Addr) (cs : Nat),
    l = [.int .i64 t.kind, .string t.pkg, .int .i64 t.major, .string t.mod, .string t.name, .slice An t.names.length cn, .slice As t.subs.length cs] ∧
    t.pkg.size ≤ 9223372036854775807 ∧ t.mod.size ≤ 9223372036854775807 ∧ t.name.size ≤ 9223372036854775807 ∧ t.names.length ≤ 9223372036854775807 ∧ t.subs.length ≤ 9223372036854775807 ∧ NamesAt w An t.names ∧ SubsAt w As t.subs := by
  cases h with
  | mk kind pkg major mod name names subs An cn As cs C hp hm hn hln hls hcs hN hl hS hT =>
    refine ⟨An, cn, As, cs, rfl, hp, hm, hn, hln, hls, hN, fun i t ht => ?_⟩
    obtain ⟨g, o, hA, hg, hc⟩ := hS i t ht
    have h7 := hT i t ht
    obtain ⟨v0, v1, v2, v3, v4, v5, v6, e⟩ := list7 (C i) (hl i)
    rw [e] at hc h7
    exact ⟨g, o, v0, v1, v2, v3, v4, v5, v6, hA, hg, hc 0 _ rfl, hc 1 _ rfl, hc 2 _ rfl, hc 3 _ rfl, hc 4 _ rfl, hc 5 _ rfl, hc 6 _ rfl, h7⟩

/-- The subs' slice has room for them. -/
theorem TyAt.cap {w : World} {v0 v1 v2 v3 v4 v5 : Value} {As : Option Addr} {n cs : Nat} {t : Ty} (h : TyAt w [v0, v1, v2, v3, v4, v5, .slice As n cs] t) : t.subs.length ≤ cs := by
  cases h with
  | mk kind pkg major mod name names subs An cn As cs C hp hm hn hln hls hcs hN hl hS hT => exact hcs

/-- A value that is a type. -/
def TyV (w : World) (v : Value) (t : Ty) : Prop := ∃ l : List Value, v = .agg l.toArray ∧ TyAt w l t
theorem TyV.below {w w' : World} {v : Value} {t : Ty} (h : TyV w v t) (hb : Below w.heap.size w w') : TyV w' v t := by
  obtain ⟨l, e, h⟩ := h
  exact ⟨l, e, h.keep hb⟩

theorem tyCells : Tryd.prog.cellsOf 25 = 7 := by kernel_rfl
theorem tyCellsInt : Tryd.prog.cellsOf 3 = 1 := by kernel_rfl
theorem tyCellsStr : Tryd.prog.cellsOf 9 = 1 := by kernel_rfl
theorem tyCellsNames : Tryd.prog.cellsOf 22 = 1 := by kernel_rfl
theorem tyCellsSubs : Tryd.prog.cellsOf 23 = 1 := by kernel_rfl

section
variable {H : Type} {enc : TypeId × Value → H} {w : World} {base : Nat} {sp : Nat → Bool} {held : Bool}

theorem open_names {fuel : Nat} {v : Value} {x : DataW H × List MemPlace} (h : DataW.trod enc Tryd.prog w base sp held fuel 22 [v] = some x) :
    ∃ (A : Option Addr) (c : Nat) (l : List ByteArray), v = .slice A l.length c ∧ l.length ≤ maxLen ∧ NamesAt w A l := by
  rcases open_strings Tryd.underlying22 Tryd.underlying9 tyCellsStr h with ⟨hc, -⟩ | ⟨a, len, cap, ss, hc, hb, hl, hm, hss, -, hcell, hz⟩
  · obtain rfl := List.head_eq_of_cons_eq hc
    exact ⟨none, 0, [], rfl, Nat.zero_le _, fun i s hs => by simp at hs⟩
  · obtain rfl := List.head_eq_of_cons_eq hc
    have hlen : len ≤ ss.length := by
      rw [hss]; split
      · exact hl
      · exact Nat.le_refl _
    refine ⟨some a, cap, ss.take len, by rw [List.length_take, Nat.min_eq_left hlen], by rw [List.length_take, Nat.min_eq_left hlen]; exact Nat.le_trans hl hm, fun i s hs => ?_⟩
    rw [List.getElem?_take] at hs
    split at hs
    · rename_i hil
      have hi : i < ss.length := Nat.lt_of_lt_of_le hil hlen
      obtain ⟨b, o, spot⟩ := a
      have h0 := hcell 0 (by omega)
      have hspot : spot = none := by simpa [Addr.add] using World.cell?_spot h0
      subst hspot
      have hc := hcell i hi
      rw [WideShapes.add_plain] at hc
      have he : ss.getD i ByteArray.empty = s := by simp [List.getD_eq_getElem?_getD, hs]
      rw [he] at hc
      have hm := hz s (List.mem_of_getElem? hs)
      unfold maxLen at hm
      exact ⟨b, o, rfl, World.block_lt_of_cell? w _ hc, hc, hm⟩
    · cases hs

theorem one_of {v : Value} {c0 c1 c2 c3 c4 c5 c6 : Value} (j : Nat) (h : (([c0, c1, c2, c3, c4, c5, c6] : List Value).drop j).take 1 = [v]) : ([c0, c1, c2, c3, c4, c5, c6] : List Value)[j]? = some v := by
  have : (([c0, c1, c2, c3, c4, c5, c6] : List Value).drop j)[0]? = some v := by
    have e : ((([c0, c1, c2, c3, c4, c5, c6] : List Value).drop j).take 1)[0]? = some v := by rw [h]; rfl
    rw [List.getElem?_take] at e
    simpa using e
  simpa using this

/-- The cells of a type that is read: a tree. -/
theorem open_tree : ∀ (fuel : Nat) (cs : List Value) (x : DataW H × List MemPlace), DataW.trod enc Tryd.prog w base sp held fuel 25 cs = some x → ∃ t, TyAt w cs t := by
  intro fuel
  induction fuel using Nat.strongRecOn with
  | ind fuel ih =>
    intro cs x h
    obtain ⟨xs, n, hfuel, -, hlen, hxl, hf⟩ := DataW.trod_struct Tryd.underlying25 h
    rw [tyCells] at hlen
    obtain ⟨c0, c1, c2, c3, c4, c5, c6, rfl⟩ := list7 cs hlen
    have q : ∀ j, j < 7 → ∃ y, xs[j]? = some y := fun j hj => ⟨_, List.getElem?_eq_getElem (by rw [hxl]; exact hj)⟩
    obtain ⟨y0, e0⟩ := q 0 (by omega); obtain ⟨y1, e1⟩ := q 1 (by omega); obtain ⟨y2, e2⟩ := q 2 (by omega); obtain ⟨y3, e3⟩ := q 3 (by omega)
    obtain ⟨y4, e4⟩ := q 4 (by omega); obtain ⟨y5, e5⟩ := q 5 (by omega); obtain ⟨y6, e6⟩ := q 6 (by omega)
    have g0 : DataW.trod enc Tryd.prog w base sp held n 3 (([c0, c1, c2, c3, c4, c5, c6].drop 0).take (Tryd.prog.cellsOf 3)) = some y0 := (hf 0 _ rfl).trans e0
    rw [tyCellsInt] at g0
    have g1 : DataW.trod enc Tryd.prog w base sp held n 9 (([c0, c1, c2, c3, c4, c5, c6].drop 1).take (Tryd.prog.cellsOf 9)) = some y1 := (hf 1 _ rfl).trans e1
    rw [tyCellsStr] at g1
    have g2 : DataW.trod enc Tryd.prog w base sp held n 3 (([c0, c1, c2, c3, c4, c5, c6].drop 2).take (Tryd.prog.cellsOf 3)) = some y2 := (hf 2 _ rfl).trans e2
    rw [tyCellsInt] at g2
    have g3 : DataW.trod enc Tryd.prog w base sp held n 9 (([c0, c1, c2, c3, c4, c5, c6].drop 3).take (Tryd.prog.cellsOf 9)) = some y3 := (hf 3 _ rfl).trans e3
    rw [tyCellsStr] at g3
    have g4 : DataW.trod enc Tryd.prog w base sp held n 9 (([c0, c1, c2, c3, c4, c5, c6].drop 4).take (Tryd.prog.cellsOf 9)) = some y4 := (hf 4 _ rfl).trans e4
    rw [tyCellsStr] at g4
    have g5 : DataW.trod enc Tryd.prog w base sp held n 22 (([c0, c1, c2, c3, c4, c5, c6].drop 5).take (Tryd.prog.cellsOf 22)) = some y5 := (hf 5 _ rfl).trans e5
    rw [tyCellsNames] at g5
    have g6 : DataW.trod enc Tryd.prog w base sp held n 23 (([c0, c1, c2, c3, c4, c5, c6].drop 6).take (Tryd.prog.cellsOf 23)) = some y6 := (hf 6 _ rfl).trans e6
    rw [tyCellsSubs] at g6
    obtain ⟨k, k0, -, -⟩ := DataW.trod_int Tryd.underlying3 g0
    obtain ⟨p, k1, -, zp⟩ := DataW.trod_string Tryd.underlying9 g1
    obtain ⟨m, k2, -, -⟩ := DataW.trod_int Tryd.underlying3 g2
    obtain ⟨d, k3, -, zd⟩ := DataW.trod_string Tryd.underlying9 g3
    obtain ⟨a, k4, -, za⟩ := DataW.trod_string Tryd.underlying9 g4
    have h5 : DataW.trod enc Tryd.prog w base sp held n 22 [c5] = some y5 := g5
    have h6 : DataW.trod enc Tryd.prog w base sp held n 23 [c6] = some y6 := g6
    simp at k0 k1 k2 k3 k4
    subst k0 k1 k2 k3 k4
    clear g0 g1 g2 g3 g4 g5 g6 e0 e1 e2 e3 e4 e5 e6 q hf h
    obtain ⟨An, cn, names, rfl, ln, hN⟩ := open_names h5
    unfold maxLen at zp zd za ln
    rcases DataW.trod_slice Tryd.underlying23 h6 with ⟨hc, -⟩ | ⟨a', len, cap, elems, rest, n', hn', hc, -, -, hl, hm, hlen', hel, -, -⟩
    · obtain rfl := List.head_eq_of_cons_eq hc
      exact ⟨_, .mk k p m d a names [] An cn none 0 (fun _ => [.nilIface, .nilIface, .nilIface, .nilIface, .nilIface, .nilIface, .nilIface]) zp zd za ln (by simp) (by simp) hN (fun _ => rfl) (fun i t ht => by simp at ht) (fun i t ht => by simp at ht)⟩
    · obtain rfl := List.head_eq_of_cons_eq hc
      rw [tyCells] at hel
      have hall : ∀ i, ∃ q : Ty × List Value, q.2.length = 7 ∧ (i < len → w.cells? base (a'.add (i * 7)) 7 = some q.2 ∧ TyAt w q.2 q.1) := by
        intro i
        by_cases hi : i < len
        · have h1 := hel i hi
          rw [List.getElem?_eq_getElem (by rw [hlen']; exact hi)] at h1
          obtain ⟨cs', h2, h3⟩ := Option.bind_eq_some_iff.1 h1
          obtain ⟨t, ht⟩ := ih n' (by omega) cs' _ h3
          exact ⟨(t, cs'), (World.cells?_some h2).2.1, fun _ => ⟨h2, ht⟩⟩
        · exact ⟨(.mk 0 ⟨#[]⟩ 0 ⟨#[]⟩ ⟨#[]⟩ [] [], [.nilIface, .nilIface, .nilIface, .nilIface, .nilIface, .nilIface, .nilIface]), rfl, fun h => absurd h hi⟩
      obtain ⟨F, hF⟩ := Classical.axiomOfChoice hall
      clear hall hel ih
      have hsome : ∀ i t, ((List.range len).map fun i => (F i).1)[i]? = some t → i < len ∧ t = (F i).1 := by
        intro i t ht
        rw [List.getElem?_map] at ht
        rcases Nat.lt_or_ge i len with hi | hi
        · rw [List.getElem?_range hi] at ht
          exact ⟨hi, (Option.some.inj ht).symm⟩
        · rw [List.getElem?_eq_none (by simpa using hi)] at ht
          cases ht
      have hle : ((List.range len).map fun i => (F i).1).length = len := by simp
      have hlz : ((List.range len).map fun i => (F i).1).length ≤ 9223372036854775807 := by
        rw [hle]; unfold maxLen at hm; exact Nat.le_trans hl hm
      have T := TyAt.mk (w := w) k p m d a names ((List.range len).map fun i => (F i).1) An cn (some a') cap (fun i => (F i).2) zp zd za ln hlz (by rw [hle]; exact hl) hN (fun i => (hF i).1)
        (fun i t ht => by
          obtain ⟨hi, -⟩ := hsome i t ht
          obtain ⟨b, o, spot⟩ := a'
          have hspot : spot = none := by
            have hc := (World.cells?_some ((hF 0).2 (by omega)).1).2.2 0 (by omega)
            rw [List.getElem?_eq_getElem (by rw [(hF 0).1]; omega)] at hc
            have := World.cell?_spot hc
            simpa [Addr.add] using this
          subst hspot
          have hat := (World.cells?_some ((hF i).2 hi).1).2.2
          have hcell : ∀ j v, (F i).2[j]? = some v → w.cell? ⟨b, o + i * 7 + j, none⟩ = some v := by
            intro j v hv
            have hj : j < 7 := by
              have := (List.getElem?_eq_some_iff.1 hv).1
              rw [(hF i).1] at this; exact this
            have := hat j hj
            rw [WideShapes.add_plain, WideShapes.add_plain] at this
            rw [this]; exact hv
          refine ⟨b, o, rfl, ?_, hcell⟩
          exact World.block_lt_of_cell? w _ (hcell 0 _ (List.getElem?_eq_getElem (by rw [(hF i).1]; omega))))
        (fun i t ht => by
          obtain ⟨hi, rfl⟩ := hsome i t ht
          exact ((hF i).2 hi).2)
      rw [hle] at T
      exact ⟨_, T⟩

/-- A type handed in is a tree. -/
theorem open_type {r : Reach} {b0 : Nat} {v : Value} {d : DataW H} {p : List MemPlace} (hv : Value.okWide Tryd.prog w r b0 25 v) (h : DataW.Trod enc Tryd.prog w base sp held 25 v d p) : ∃ t, TyV w v t := by
  obtain ⟨cs, rfl, -⟩ := okWide_struct Tryd.underlying25 hv
  obtain ⟨fuel, hf⟩ := h
  obtain ⟨t, ht⟩ := open_tree fuel _ _ hf
  obtain ⟨l⟩ := cs
  exact ⟨t, l, rfl, ht⟩
end
end Go.Proofs.YtnnppdlhmcobcaaDoor
