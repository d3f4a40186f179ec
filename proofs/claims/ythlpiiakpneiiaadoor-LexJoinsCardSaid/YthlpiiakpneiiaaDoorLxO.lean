/-
  Tokens that come in: a slice of tokens handed in is a slice whose cells hold two ints and a text each.
-/
import Derived.Test.YthlpiiakpneiiaaDoorLxM
import Derived.Test.YthlpiiakpneiiaaDoorChecked
import Derived.ProofKit
import Derived.OpenShut
import Derived.Lib.SmallJoins
import Derived.Deep.Slices
import Derived.Deep.Strs
import Derived.DataReads
import Derived.WideShapes
import Derived.Below
namespace Go.Proofs.YthlpiiakpneiiaaDoor
open Go Go.ChangeShapes Go.WideShapes Go.ChangeAt Go.RowKit Go.Joins Go.Deep

/-- A slice of n tokens with these texts. -/
def TextsAt (w : World) (A : Option Addr) (n : Nat) (T : Nat → ByteArray) : Prop :=
  ∀ i, i < n → ∃ (g o : Nat) (x y : Int), A = some ⟨g, o, none⟩ ∧ g < w.heap.size ∧ w.cell? ⟨g, o + i * 3, none⟩ = some (.int .i64 x) ∧ w.cell? ⟨g, o + i * 3 + 1, none⟩ = some (.int .i64 y) ∧ w.cell? ⟨g, o + i * 3 + 2, none⟩ = some (.string (T i))
theorem TextsAt.below {w w' : World} {A : Option Addr} {n : Nat} {T : Nat → ByteArray} (h : TextsAt w A n T) (hb : Below w.heap.size w w') : TextsAt w' A n T := by
  intro i hi
  obtain ⟨g, o, x, y, hA, hg, h0, h1, h2⟩ := h i hi
  exact ⟨g, o, x, y, hA, Nat.lt_of_lt_of_le hg hb.size, (hb.cell (p := ⟨g, _, none⟩) hg).trans h0, (hb.cell (p := ⟨g, _, none⟩) hg).trans h1, (hb.cell (p := ⟨g, _, none⟩) hg).trans h2⟩

theorem tokCellsOf : Tryd.prog.cellsOf 35 = 3 := by kernel_rfl
theorem tokenCells1 : Tryd.prog.cellsOf 3 = 1 := by kernel_rfl
theorem tokenCells2 : Tryd.prog.cellsOf 9 = 1 := by kernel_rfl

section
variable {H : Type} {enc : TypeId × Value → H} {w : World} {base : Nat} {sp : Nat → Bool} {held : Bool}
/-- The cells of a token: two ints and a text. -/
theorem tok_cells {fuel : Nat} {c0 c1 c2 : Value} {x : DataW H × List MemPlace} (h : DataW.trod enc Tryd.prog w base sp held fuel 35 [c0, c1, c2] = some x) : ∃ (a b : Int) (s : ByteArray), c0 = .int .i64 a ∧ c1 = .int .i64 b ∧ c2 = .string s := by
  obtain ⟨y0, y1, y2, n, -, -, h0, h1, h2⟩ := trod_struct3 Tryd.underlying35 h
  obtain ⟨a, e0, -, -⟩ := DataW.trod_int Tryd.underlying3 h0
  obtain ⟨b, e1, -, -⟩ := DataW.trod_int Tryd.underlying3 h1
  obtain ⟨s, e2, -, -⟩ := DataW.trod_string Tryd.underlying9 h2
  simp [tokenCells1, tokenCells2] at e0 e1 e2
  exact ⟨a, b, s, e0, e1, e2⟩
theorem list3 {α : Type} : ∀ l : List α, l.length = 3 → ∃ a b c, l = [a, b, c]
  | [a, b, c], _ => ⟨a, b, c, rfl⟩
  | [], h => by simp at h
  | [_], h => by simp at h
  | [_, _], h => by simp at h
  | _ :: _ :: _ :: _ :: _, h => by simp at h

set_option maxRecDepth 100000 in
/-- A slice of tokens handed in. -/
theorem open_toks {r : Reach} {b0 : Nat} {v : Value} {d : DataW H} {p : List MemPlace} (hv : Value.okWide Tryd.prog w r b0 23 v) (h : DataW.Trod enc Tryd.prog w base sp held 23 v d p) :
    ∃ (A : Option Addr) (n c : Nat) (T : Nat → ByteArray), v = .slice A n c ∧ n ≤ maxLen ∧ TextsAt w A n T := by
  obtain ⟨a, n, c, rfl⟩ := okWide_slice Tryd.underlying23 hv
  obtain ⟨fuel, hf⟩ := h
  rcases open_slice Tryd.underlying23 hf with ⟨hc, -⟩ | ⟨a', len, cap, m, k, D, Pl, hc, hb, hl, hm, hmm, -, hi⟩
  · simp [Value.cells] at hc
    obtain ⟨rfl, rfl, rfl⟩ := hc
    exact ⟨none, 0, 0, fun _ => ⟨#[]⟩, rfl, Nat.zero_le _, fun i hi => absurd hi (Nat.not_lt_zero i)⟩
  · simp [Value.cells] at hc
    obtain ⟨rfl, rfl, rfl⟩ := hc
    have hnm : n ≤ m := by
      rw [hmm]; split
      · exact hl
      · exact Nat.le_refl _
    have hall : ∀ i, i < n → ∃ (g o : Nat) (x y : Int) (s : ByteArray), some a' = some (⟨g, o, none⟩ : Addr) ∧ g < w.heap.size ∧ w.cell? ⟨g, o + i * 3, none⟩ = some (.int .i64 x) ∧ w.cell? ⟨g, o + i * 3 + 1, none⟩ = some (.int .i64 y) ∧ w.cell? ⟨g, o + i * 3 + 2, none⟩ = some (.string s) := by
      have hplain : ∀ i, i < n → ∃ (x y : Int) (s : ByteArray), w.cell? ((a'.add (i * 3)).add 0) = some (.int .i64 x) ∧ w.cell? ((a'.add (i * 3)).add 1) = some (.int .i64 y) ∧ w.cell? ((a'.add (i * 3)).add 2) = some (.string s) := by
        intro i hin
        obtain ⟨cs', h1, h2⟩ := hi i (by omega)
        rw [tokCellsOf] at h1
        obtain ⟨-, hlen, hat⟩ := World.cells?_some h1
        obtain ⟨c0, c1, c2, rfl⟩ := list3 cs' hlen
        obtain ⟨x, y, s, rfl, rfl, rfl⟩ := tok_cells h2
        exact ⟨x, y, s, hat 0 (by omega), hat 1 (by omega), hat 2 (by omega)⟩
      intro i hin
      obtain ⟨b, o, spot⟩ := a'
      obtain ⟨x0, y0, s0, k0, -, -⟩ := hplain 0 (by omega)
      have hspot : spot = none := by simpa [Addr.add] using World.cell?_spot k0
      subst hspot
      obtain ⟨x, y, s, k0', k1, k2⟩ := hplain i hin
      rw [WideShapes.add_plain, WideShapes.add_plain] at k0' k1 k2
      refine ⟨b, o, x, y, s, rfl, ?_, by simpa using k0', k1, k2⟩
      exact World.block_lt_of_cell? w _ k2
    refine ⟨some a', n, c, fun i => if h : i < n then (hall i h).choose_spec.choose_spec.choose_spec.choose_spec.choose else ⟨#[]⟩, rfl, Nat.le_trans hl hm, fun i hin => ?_⟩
    have hs := (hall i hin).choose_spec.choose_spec.choose_spec.choose_spec.choose_spec
    refine ⟨_, _, _, _, hs.1, hs.2.1, hs.2.2.1, hs.2.2.2.1, ?_⟩
    simp only [dif_pos hin]
    exact hs.2.2.2.2
end
end Go.Proofs.YthlpiiakpneiiaaDoor
