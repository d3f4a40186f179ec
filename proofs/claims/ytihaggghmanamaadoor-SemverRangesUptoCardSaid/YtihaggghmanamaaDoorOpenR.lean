/-
  Arguments opened: a range handed in is six ints.
-/
import Derived.Test.YtihaggghmanamaaDoorOpen
namespace Go.Proofs.YtihaggghmanamaaDoor
open Go Go.ChangeShapes Go.WideShapes Go.ChangeAt Go.RowKit Go.Joins Go.Deep

theorem rngCells : Tryd.prog.cellsOf 38 = 6 := by kernel_rfl
theorem list6 {α : Type} : ∀ l : List α, l.length = 6 → ∃ a b c d e f, l = [a, b, c, d, e, f]
  | [a, b, c, d, e, f], _ => ⟨a, b, c, d, e, f, rfl⟩
  | [], h => by simp at h
  | [_], h => by simp at h
  | [_, _], h => by simp at h
  | [_, _, _], h => by simp at h
  | [_, _, _, _], h => by simp at h
  | [_, _, _, _, _], h => by simp at h
  | _ :: _ :: _ :: _ :: _ :: _ :: _ :: _, h => by simp at h

section
variable {H : Type} {enc : TypeId × Value → H} {w : World} {base : Nat} {sp : Nat → Bool} {held : Bool}
/-- The cells of a version: three ints. -/
theorem ver_cells {fuel : Nat} {c0 c1 c2 : Value} {x : DataW H × List MemPlace} (h : DataW.trod enc Tryd.prog w base sp held fuel 23 [c0, c1, c2] = some x) : ∃ a b c : Int, c0 = .int .i64 a ∧ c1 = .int .i64 b ∧ c2 = .int .i64 c := by
  obtain ⟨y0, y1, y2, n, -, -, h0, h1, h2⟩ := trod_struct3 Tryd.underlying23 h
  obtain ⟨a, e0, -, -⟩ := DataW.trod_int Tryd.underlying3 h0
  obtain ⟨b, e1, -, -⟩ := DataW.trod_int Tryd.underlying3 h1
  obtain ⟨c, e2, -, -⟩ := DataW.trod_int Tryd.underlying3 h2
  have k : Tryd.prog.cellsOf 3 = 1 := by kernel_rfl
  simp [k] at e0 e1 e2
  exact ⟨a, b, c, e0, e1, e2⟩

/-- A range handed in: six ints. -/
theorem open_rng {r : Reach} {b0 : Nat} {v : Value} {d : DataW H} {p : List MemPlace} (hv : Value.okWide Tryd.prog w r b0 38 v) (h : DataW.Trod enc Tryd.prog w base sp held 38 v d p) :
    ∃ a b c x y z : Int, v = .agg #[.int .i64 a, .int .i64 b, .int .i64 c, .int .i64 x, .int .i64 y, .int .i64 z] := by
  obtain ⟨cs, rfl, hsz⟩ := okWide_struct Tryd.underlying38 hv
  obtain ⟨l⟩ := cs
  obtain ⟨c0, c1, c2, c3, c4, c5, rfl⟩ := list6 l (by simpa [rngCells] using hsz)
  obtain ⟨fuel, hf⟩ := h
  obtain ⟨y0, y1, n, -, -, h0, h1⟩ := trod_struct2 Tryd.underlying38 hf
  have k : Tryd.prog.cellsOf 23 = 3 := verCells
  simp [k, Value.cells] at h0 h1
  obtain ⟨a, b, c, rfl, rfl, rfl⟩ := ver_cells h0
  obtain ⟨x, y, z, rfl, rfl, rfl⟩ := ver_cells h1
  exact ⟨a, b, c, x, y, z, rfl⟩
end
end Go.Proofs.YtihaggghmanamaaDoor
