/-
  The walk of semver.Next, and of the reference's May.
-/
import Derived.Test.YtihaggghmanamaaDoorSvA
namespace Go.Proofs.YtihaggghmanamaaDoor
open Go.RowKit

theorem bcell {W w1 : World} (hb : Below W.heap.size W w1) : (∀ b o, b < W.heap.size → w1.cell? ⟨b, o, none⟩ = W.cell? ⟨b, o, none⟩) ∧ (∀ b o, b < W.heap.size → w1.frozen? ⟨b, o, none⟩ = W.frozen? ⟨b, o, none⟩) :=
  ⟨fun b o h => hb.cell (p := ⟨b, o, none⟩) h, fun b o h => hb.frozen (p := ⟨b, o, none⟩) h⟩
theorem below_over {w W w1 : World} (h : Below w.heap.size w W) (hb : Below W.heap.size W w1) : Below w.heap.size w w1 := h.trans (hb.mono h.size)
theorem below_new {w W : World} (h : Below w.heap.size w W) (o : Obj) : Below w.heap.size w (W.alloc o) := h.alloc h.size o
theorem below_put {w W : World} (h : Below w.heap.size w W) {a : Addr} (ha : w.heap.size ≤ a.block) (v : Value) : Below w.heap.size w (W.setCell a v) := h.setCell ha v

set_option maxHeartbeats 400000 in
theorem refMay_any (a b c : Int) (w : World) :
    Calls Tryd.prog 8 #[.agg #[.int .i64 a, .int .i64 b, .int .i64 c]] w fun e w' => e = .returned (.bool (okVer a b c)) ∧ Below w.heap.size w w' := by
  go_enter Tryd.func8, Tryd.ntmps8
  go_wp2
  all_goals go_ret
  all_goals (refine ⟨?_, (Below.refl _ _).alloc (Nat.le_refl _) _⟩)
  all_goals (congr 2; simp_all [okVer, okPart]; try omega)

theorem okVer_bd {a b c : Int} (h : okVer a b c = true) : 1 ≤ a ∧ a ≤ 999999999 ∧ 0 ≤ b ∧ b ≤ 999999999 ∧ 0 ≤ c ∧ c ≤ 999999999 := by
  simp [okVer, okPart] at h; omega

set_option maxHeartbeats 400000 in
theorem next_arg (a b c s : Int) (w : World) (h : okVer a b c = false) :
    Calls Tryd.prog 19 #[.agg #[.int .i64 a, .int .i64 b, .int .i64 c], .int .i64 s] w fun e w' => e = .returned (.tuple #[.agg #[.int .i64 0, .int .i64 0, .int .i64 0], .iface 31 (.int .i64 1)]) ∧ Below w.heap.size w w' := by
  have H := Lib.hid h; clear h
  go_enter Tryd.func19, Tryd.ntmps19
  go_wp2_with fail
  refine (may_any _ _ _ _).mono ?_; rintro e w1 ⟨rfl, hb⟩; rw [H.out]
  obtain ⟨hc, hf⟩ := bcell hb
  go_wp2
  refine bodyPost_ret (v := .tuple #[.agg #[.int .i64 0, .int .i64 0, .int .i64 0], .iface 31 (.int .i64 1)]) (by simp [results, Tryd.results19, go_sem, hc]) rfl ⟨rfl, ?_⟩
  repeat (first | exact Below.refl _ _ | refine Below.drew ?_ | refine below_new ?_ _ | refine below_put ?_ (by simp) _ | refine below_over ?_ (by assumption))

set_option maxHeartbeats 400000 in
theorem next_step (a b c s : Int) (w : World) (h : okVer a b c = true) (h1 : s < 1 ∨ 3 < s) :
    Calls Tryd.prog 19 #[.agg #[.int .i64 a, .int .i64 b, .int .i64 c], .int .i64 s] w fun e w' => e = .returned (.tuple #[.agg #[.int .i64 0, .int .i64 0, .int .i64 0], .iface 31 (.int .i64 1)]) ∧ Below w.heap.size w w' := by
  have H := Lib.hid h; clear h
  have e1 : (s == 1) = false := by rw [beq_eq_false_iff_ne]; omega
  have e2 : (s == 2) = false := by rw [beq_eq_false_iff_ne]; omega
  have e3 : (s == 3) = false := by rw [beq_eq_false_iff_ne]; omega
  clear h1
  go_enter Tryd.func19, Tryd.ntmps19
  go_wp2_with fail
  refine (may_any _ _ _ _).mono ?_; rintro e w1 ⟨rfl, hb⟩; rw [H.out]
  obtain ⟨hc, hf⟩ := bcell hb
  have hz : w.heap.size + 1 < w1.heap.size := by have := hb.size; simp at this; omega
  go_wp2
  refine bodyPost_ret (v := .tuple #[.agg #[.int .i64 0, .int .i64 0, .int .i64 0], .iface 31 (.int .i64 1)]) (by simp [results, Tryd.results19, go_sem, hc, hz]) rfl ⟨rfl, ?_⟩
  repeat (first | exact Below.refl _ _ | refine Below.drew ?_ | refine below_new ?_ _ | refine below_put ?_ (by simp) _ | refine below_over ?_ (by assumption))


set_option maxHeartbeats 400000 in
theorem next_large (a b c s x y z : Int) (w : World) (h : okVer a b c = true) (h1 : s = 1 ∧ x = a ∧ y = b ∧ z = c + 1 ∨ s = 2 ∧ x = a ∧ y = b + 1 ∧ z = 0 ∨ s = 3 ∧ x = a + 1 ∧ y = 0 ∧ z = 0) (h2 : okVer x y z = false) :
    Calls Tryd.prog 19 #[.agg #[.int .i64 a, .int .i64 b, .int .i64 c], .int .i64 s] w fun e w' => e = .returned (.tuple #[.agg #[.int .i64 0, .int .i64 0, .int .i64 0], .iface 31 (.int .i64 3)]) ∧ Below w.heap.size w w' := by
  obtain ⟨g1, g2, g3, g4, g5, g6⟩ := okVer_bd h
  have H := Lib.hid h; clear h
  rcases h1 with ⟨rfl, rfl, rfl, rfl⟩ | ⟨rfl, rfl, rfl, rfl⟩ | ⟨rfl, rfl, rfl, rfl⟩
  all_goals
    have H2 := Lib.hid h2; clear h2
    go_enter Tryd.func19, Tryd.ntmps19
    go_wp2_with fail
    refine (may_any _ _ _ _).mono ?_; rintro e w1 ⟨rfl, hb⟩; rw [H.out]
    obtain ⟨hc, hf⟩ := bcell hb
    have hz : w.heap.size + 1 < w1.heap.size := by have := hb.size; simp at this; omega
    have hz0 : w.heap.size < w1.heap.size := by omega
    go_wp2_with fail
    refine (may_any _ _ _ _).mono ?_; rintro e w2 ⟨rfl, hb2⟩; rw [H2.out]
    obtain ⟨hc2, hf2⟩ := bcell hb2
    have hz2 : w1.heap.size < w2.heap.size := by have := hb2.size; simp at this; omega
    have hz3 : w.heap.size + 1 < w2.heap.size := by omega
    go_wp2
    refine bodyPost_ret (v := .tuple #[.agg #[.int .i64 0, .int .i64 0, .int .i64 0], .iface 31 (.int .i64 3)]) (by simp [results, Tryd.results19, go_sem, hc, hz, hz0, hc2]) rfl ⟨rfl, ?_⟩
    repeat (first | exact Below.refl _ _ | refine Below.drew ?_ | refine below_new ?_ _ | refine below_put ?_ (by simp) _ | refine below_over ?_ (by assumption))

set_option maxHeartbeats 400000 in
theorem next_ok (a b c s x y z : Int) (w : World) (h : okVer a b c = true) (h1 : s = 1 ∧ x = a ∧ y = b ∧ z = c + 1 ∨ s = 2 ∧ x = a ∧ y = b + 1 ∧ z = 0 ∨ s = 3 ∧ x = a + 1 ∧ y = 0 ∧ z = 0) (h2 : okVer x y z = true) :
    Calls Tryd.prog 19 #[.agg #[.int .i64 a, .int .i64 b, .int .i64 c], .int .i64 s] w fun e w' => e = .returned (.tuple #[.agg #[.int .i64 x, .int .i64 y, .int .i64 z], .nilIface]) ∧ Below w.heap.size w w' := by
  obtain ⟨g1, g2, g3, g4, g5, g6⟩ := okVer_bd h
  have H := Lib.hid h; clear h
  rcases h1 with ⟨rfl, rfl, rfl, rfl⟩ | ⟨rfl, rfl, rfl, rfl⟩ | ⟨rfl, rfl, rfl, rfl⟩
  all_goals
    have H2 := Lib.hid h2; clear h2
    go_enter Tryd.func19, Tryd.ntmps19
    go_wp2_with fail
    refine (may_any _ _ _ _).mono ?_; rintro e w1 ⟨rfl, hb⟩; rw [H.out]
    obtain ⟨hc, hf⟩ := bcell hb
    have hz : w.heap.size + 1 < w1.heap.size := by have := hb.size; simp at this; omega
    have hz0 : w.heap.size < w1.heap.size := by omega
    go_wp2_with fail
    refine (may_any _ _ _ _).mono ?_; rintro e w2 ⟨rfl, hb2⟩; rw [H2.out]
    obtain ⟨hc2, hf2⟩ := bcell hb2
    have hz2 : w1.heap.size < w2.heap.size := by have := hb2.size; simp at this; omega
    have hz3 : w.heap.size + 1 < w2.heap.size := by omega
    go_wp2
    refine bodyPost_ret (v := .tuple #[.agg #[.int .i64 _, .int .i64 _, .int .i64 _], .nilIface]) (by simp [results, Tryd.results19, go_sem, hc, hz, hz0, hc2]) rfl ⟨rfl, ?_⟩
    repeat (first | exact Below.refl _ _ | refine Below.drew ?_ | refine below_new ?_ _ | refine below_put ?_ (by simp) _ | refine below_over ?_ (by assumption))

end Go.Proofs.YtihaggghmanamaaDoor
