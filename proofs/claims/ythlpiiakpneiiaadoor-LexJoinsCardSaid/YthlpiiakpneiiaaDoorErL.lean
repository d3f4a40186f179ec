/-
  The law's own question: an error that is a *Spot at a place with a Code is one.
-/
import Derived.Test.YthlpiiakpneiiaaDoorErS
import Derived.Test.YthlpiiakpneiiaaDoorErI
import Derived.WalkSpells
import Derived.Laws.Pointers
namespace Go.Proofs.YthlpiiakpneiiaaDoor
open Go.RowKit

theorem sp_compP : (Tryd.prog.info? 41).map (·.comparable) = some true := by kernel_rfl
theorem sp_sizeS : (Tryd.prog.info? 43).map (·.size) = some 2 := by kernel_rfl
theorem sp_eqSame (a : Addr) (w : World) : (binOp .eql 25 (.iface 41 (.pointer (some a))) (.iface 41 (.pointer (some a)))).run Tryd.prog w = .ok (.bool true) w := by
  obtain ⟨i, hi, hcmp⟩ := Option.map_eq_some_iff.1 sp_compP
  obtain ⟨j, hj, -⟩ := Option.map_eq_some_iff.1 sp_sizeS
  exact run_eql_iface_ptr_same (P := Tryd.prog) w a Tryd.underlying25 Tryd.underlying41 hi hcmp hj
theorem sp_neSame (a : Addr) (w : World) : (binOp .neq 25 (.iface 41 (.pointer (some a))) (.iface 41 (.pointer (some a)))).run Tryd.prog w = .ok (.bool false) w := by
  have h := sp_eqSame a w
  simp only [binOp] at h ⊢
  cases he : (Op.equal 25 (.iface 41 (.pointer (some a))) (.iface 41 (.pointer (some a)))).run Tryd.prog w <;> simp_all [Result.andThen]
theorem sp_eqCode (a b : Int) (w : World) : (binOp .eql 25 (.iface 28 (.int .i64 a)) (.iface 28 (.int .i64 b))).run Tryd.prog w = .ok (.bool (a == b)) w :=
  Lib.run_eql_iface_int (P := Tryd.prog) (k := .i64) w a b Tryd.underlying25 sp_comp Tryd.underlying28

theorem cell_on {w W : World} {b o : Nat} {v : Value} (hb : Below w.heap.size w W) (h : b < w.heap.size) (h1 : w.cell? ⟨b, o, none⟩ = some v) : W.cell? ⟨b, o, none⟩ = some v := (hb.cell (p := ⟨b, o, none⟩) h).trans h1

/-- errors.As in one word: the target holds the Spot, all below is as it was. -/
theorem as_below (e : Addr) (w W : World) (old : Value) (hg : ErrT W) (hb : Below w.heap.size w W) (ht : W.cell? ⟨w.heap.size, 0, none⟩ = some old) (hf : W.frozen? ⟨w.heap.size, 0, none⟩ = false) :
    Calls Tryd.prog 16 #[.iface 41 (.pointer (some e)), .iface 47 (.pointer (some ⟨w.heap.size, 0, none⟩))] W fun ev w' => ev = .returned (.bool true) ∧ w'.cell? ⟨w.heap.size, 0, none⟩ = some (.pointer (some e)) ∧ Below w.heap.size w w' := by
  have hlt : w.heap.size < W.heap.size := by
    rcases Nat.lt_or_ge w.heap.size W.heap.size with h | h
    · exact h
    · simp [World.cell?, Array.getElem?_eq_none h] at ht
  refine (as_spot e _ old W hg ht hf).mono ?_
  rintro ev w' ⟨rfl, rfl⟩
  refine ⟨rfl, ?_, ?_⟩
  · exact World.cell?_setCell_same' _ _ _ (by
      rw [World.cell?_alloc_lt _ _ _ (by simp; omega), World.cell?_alloc_lt _ _ _ (by simp; omega), World.cell?_alloc_lt _ _ _ (by simp; omega), World.cell?_alloc_lt _ _ _ hlt, ht]; rfl)
  · repeat (first | exact hb | with_reducible refine below_new ?_ _ | with_reducible refine below_put ?_ (by simp <;> omega) _)

set_option maxHeartbeats 2000000 in
theorem isSpot_any (b : Nat) (p c : Int) (w : World) (hg : ErrT w) (hb : b < w.heap.size) (h0 : w.cell? ⟨b, 0, none⟩ = some (.int .i64 p)) (h1 : w.cell? ⟨b, 1, none⟩ = some (.iface 28 (.int .i64 c))) :
    Calls Tryd.prog 8 #[.iface 41 (.pointer (some ⟨b, 0, none⟩)), .int .i64 p, .int .i64 c] w fun e w' => e = .returned (.bool true) ∧ Below w.heap.size w w' := by
  have HB := Lib.hid hb
  have H0 := Lib.hid h0
  have H1 := Lib.hid h1
  clear hb h0 h1
  have hne := sp_neSame ⟨b, 0, none⟩
  have heq := sp_eqCode c c
  go_enter Tryd.func8, Tryd.ntmps8
  go_wp2_with fail
  refine (as_below _ w _ (.pointer none) (hg.on (below_new (Below.refl _ _) _)) (below_new (Below.refl _ _) _) (by go_simp) (by go_simp)).mono ?_; rintro e w1 ⟨rfl, ct, hb1⟩
  have c0 := cell_on hb1 HB.out H0.out
  have c1 := cell_on hb1 HB.out H1.out
  go_wp2_with fail
  refine (is_spot _ c _ c1).mono ?_; rintro e w' ⟨rfl, rfl⟩
  go_wp2
  go_ret
  exact ⟨rfl, hb1⟩

end Go.Proofs.YthlpiiakpneiiaaDoor
