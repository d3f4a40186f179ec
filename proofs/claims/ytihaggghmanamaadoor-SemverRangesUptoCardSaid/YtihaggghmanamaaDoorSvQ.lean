/-
  The walk of the reference's Parse.
-/
import Derived.Test.YtihaggghmanamaaDoorSvR
import Derived.Test.YtihaggghmanamaaDoorSvN
namespace Go.Proofs.YtihaggghmanamaaDoor
open Go.RowKit

theorem okVer_iff (a b c : Int) : okVer a b c = true ↔ 1 ≤ a ∧ a ≤ 999999999 ∧ 0 ≤ b ∧ b ≤ 999999999 ∧ 0 ≤ c ∧ c ≤ 999999999 := by
  constructor
  · exact okVer_bd
  · intro h; simp [okVer, okPart]; omega

theorem verText_list (a b c : Int) : (verText a b c).data.toList = M.vt a b c := by
  unfold verText dec M.vt
  simp [ByteArray.data_append]
theorem verText_eq {a b c : Int} {s : ByteArray} (h : s.data.toList = M.vt a b c) : s = verText a b c := by
  apply ByteArray.ext; apply Array.toList_inj.1; rw [h, verText_list]

/-- A version's text is a version's. -/
theorem isVer_vt {l : List UInt8} {a b c : Int} (h : okVer a b c = true) (hl : l = M.vt a b c) : isVer l = true ∧ M.pV (M.t1 l) = a ∧ M.pV (M.t2 l) = b ∧ M.pV (M.t3 l) = c := by
  obtain ⟨h1, h2, h3, h4, h5, h6⟩ := okVer_bd h
  obtain ⟨e1, e2, e3⟩ := M.t_vt a b c
  have p1 := M.p_dd a (by omega) h2
  have p2 := M.p_dd b h3 h4
  have p3 := M.p_dd c h5 h6
  subst hl
  unfold isVer
  rw [e1, e2, e3, p1.1, p1.2, p2.1, p2.2, p3.1, p3.2, h]
  exact ⟨rfl, rfl, rfl, rfl⟩
/-- What is a version's is its text. -/
theorem vt_isVer {l : List UInt8} (h : isVer l = true) : okVer (M.pV (M.t1 l)) (M.pV (M.t2 l)) (M.pV (M.t3 l)) = true ∧ l = M.vt (M.pV (M.t1 l)) (M.pV (M.t2 l)) (M.pV (M.t3 l)) := by
  simp only [isVer, Bool.and_eq_true] at h
  exact ⟨h.2.2.2, M.vt_of l h.1 h.2.1 h.2.2.1⟩
theorem ref_isVer {l : List UInt8} (h : isVer l = true) : M.refLoop 0 0 0 0 l = some (M.pV (M.t1 l), M.pV (M.t2 l), M.pV (M.t3 l)) ∧ l.length ≤ 40 := by
  obtain ⟨h1, h2⟩ := vt_isVer h
  obtain ⟨g1, g2, g3, g4, g5, g6⟩ := okVer_bd h1
  have r := M.ref_vt (M.pV (M.t1 l)) (M.pV (M.t2 l)) (M.pV (M.t3 l)) ⟨by omega, by omega⟩ ⟨by omega, by omega⟩ ⟨by omega, by omega⟩
  rw [← h2] at r
  refine ⟨r, ?_⟩
  have := M.vt_len (M.pV (M.t1 l)) (M.pV (M.t2 l)) (M.pV (M.t3 l)) (by omega) (by omega) (by omega)
  rw [← h2] at this; omega

/-- The answer of a reading: the version, noughts where the text is none's. -/
def rA (l : List UInt8) : Int := if isVer l then M.pV (M.t1 l) else 0
def rB (l : List UInt8) : Int := if isVer l then M.pV (M.t2 l) else 0
def rC (l : List UInt8) : Int := if isVer l then M.pV (M.t3 l) else 0
/-- It answers so. -/
def Read (l : List UInt8) (a b c : Int) (f : Bool) : Prop := rA l = a ∧ rB l = b ∧ rC l = c ∧ isVer l = f
theorem read_no {l : List UInt8} (h : isVer l = false) : Read l 0 0 0 false := by simp [Read, rA, rB, rC, h]
theorem read_long {l : List UInt8} (h : 40 < l.length) : Read l 0 0 0 false := read_no (by
  cases e : isVer l
  · rfl
  · have := (ref_isVer e).2; omega)
theorem read_none {l : List UInt8} (h : M.refLoop 0 0 0 0 l = none) : Read l 0 0 0 false := read_no (by
  cases e : isVer l
  · rfl
  · have := (ref_isVer e).1; rw [h] at this; cases this)
theorem read_not {l : List UInt8} {x y z : Int} (h : M.refLoop 0 0 0 0 l = some (x, y, z)) (h2 : okVer x y z = false ∨ M.vt x y z ≠ l) : Read l 0 0 0 false := read_no (by
  cases e : isVer l
  · rfl
  · exfalso
    have r := (ref_isVer e).1
    rw [h] at r
    simp only [Option.some.injEq, Prod.mk.injEq] at r
    obtain ⟨g1, g2⟩ := vt_isVer e
    rw [← r.1, ← r.2.1, ← r.2.2] at g1 g2
    rcases h2 with h2 | h2
    · rw [g1] at h2; cases h2
    · exact h2 g2.symm)
theorem read_yes {l : List UInt8} {x y z : Int} (h1 : okVer x y z = true) (h2 : M.vt x y z = l) : Read l x y z true := by
  obtain ⟨e, a, b, c⟩ := isVer_vt h1 h2.symm
  simp [Read, rA, rB, rC, e, a, b, c]
theorem ret_read {l : List UInt8} {a b c : Int} {f : Bool} (h : Read l a b c f) :
    Ending.returned (.tuple #[.agg #[.int .i64 a, .int .i64 b, .int .i64 c], .bool f]) = .returned (.tuple #[.agg #[.int .i64 (rA l), .int .i64 (rB l), .int .i64 (rC l)], .bool (isVer l)]) := by
  obtain ⟨h1, h2, h3, h4⟩ := h; rw [h1, h2, h3, h4]

/-- Where the reading stands: the answer's cells and the three numbers' cells, in blocks of the call's own. -/
structure RW (w wr : World) (x y z : Int) : Prop where
  below : Below w.heap.size w wr
  lt : w.heap.size + 1 < wr.heap.size
  c0 : wr.cell? ⟨w.heap.size + 1, 0, none⟩ = some (.int .i64 x)
  c1 : wr.cell? ⟨w.heap.size + 1, 1, none⟩ = some (.int .i64 y)
  c2 : wr.cell? ⟨w.heap.size + 1, 2, none⟩ = some (.int .i64 z)
  f0 : wr.frozen? ⟨w.heap.size + 1, 0, none⟩ = false
  f1 : wr.frozen? ⟨w.heap.size + 1, 1, none⟩ = false
  f2 : wr.frozen? ⟨w.heap.size + 1, 2, none⟩ = false
  r0 : wr.cell? ⟨w.heap.size, 0, none⟩ = some (.int .i64 0)
  r1 : wr.cell? ⟨w.heap.size, 1, none⟩ = some (.int .i64 0)
  r2 : wr.cell? ⟨w.heap.size, 2, none⟩ = some (.int .i64 0)
  g0 : wr.frozen? ⟨w.heap.size, 0, none⟩ = false
  g1 : wr.frozen? ⟨w.heap.size, 1, none⟩ = false
  g2 : wr.frozen? ⟨w.heap.size, 2, none⟩ = false

theorem RW.start (w : World) : RW w ((w.alloc (.cells #[.int .i64 0, .int .i64 0, .int .i64 0] 23)).alloc (.cells #[.int .i64 0, .int .i64 0, .int .i64 0] 3)) 0 0 0 := by
  constructor
  · exact below_new (below_new (Below.refl _ _) _) _
  · simp
  all_goals go_simp

theorem RW.put (w wr : World) (x y z v : Int) (h : RW w wr x y z) :
    RW w (wr.setCell ⟨w.heap.size + 1, 0, none⟩ (.int .i64 v)) v y z ∧ RW w (wr.setCell ⟨w.heap.size + 1, 1, none⟩ (.int .i64 v)) x v z ∧ RW w (wr.setCell ⟨w.heap.size + 1, 2, none⟩ (.int .i64 v)) x y v := by
  obtain ⟨hb, hl, c0, c1, c2, f0, f1, f2, r0, r1, r2, g0, g1, g2⟩ := h
  refine ⟨?_, ?_, ?_⟩
  all_goals
    constructor
    · exact below_put hb (by simp) _
    · simpa using hl
    all_goals go_simp

end Go.Proofs.YtihaggghmanamaaDoor
