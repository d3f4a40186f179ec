/-
  The walk of SemverOrders.
-/
import Derived.Test.YtihaggghmanamaaSvU
namespace Go.Proofs.Ytihaggghmanamaa
open Go.RowKit

/-- The next version of a step, before it is asked whether it may be. -/
def stepV (a b c s : Int) : Int × Int × Int := if s = 3 then (a + 1, 0, 0) else if s = 2 then (a, b + 1, 0) else (a, b, c + 1)

theorem cmp_lt (a b c x y z : Int) : decide (cmpVer a b c x y z < 0) = lowVer a b c x y z := by
  unfold cmpVer
  cases lowVer a b c x y z <;> cases lowVer x y z a b c <;> rfl
theorem low_asym (a b c x y z : Int) (h : lowVer a b c x y z = true) : lowVer x y z a b c = false := by
  unfold lowVer at *
  split at h
  · split at h
    · simp at h; rw [if_pos (by omega), if_pos (by omega)]; simp; omega
    · simp at h; rw [if_pos (by omega), if_neg (by omega)]; simp; omega
  · simp at h; rw [if_neg (by omega)]; simp; omega
theorem cmp_gt (a b c x y z : Int) : decide (0 < cmpVer a b c x y z) = lowVer x y z a b c := by
  unfold cmpVer
  cases h : lowVer a b c x y z
  · cases lowVer x y z a b c <;> rfl
  · rw [low_asym _ _ _ _ _ _ h]; rfl

theorem hid_or (b : Bool) : Hid (b = false) ∨ Hid (b = true) := by cases b; exact .inl rfl; exact .inr rfl

set_option maxHeartbeats 4000000 in
theorem orders_any (a b c x y z s : Int) (w : World) (ha : -9223372036854775808 ≤ a ∧ a ≤ 9223372036854775807) (hb : -9223372036854775808 ≤ b ∧ b ≤ 9223372036854775807) (hc : -9223372036854775808 ≤ c ∧ c ≤ 9223372036854775807) :
    Calls Try.prog 3 #[.agg #[.int .i64 a, .int .i64 b, .int .i64 c], .agg #[.int .i64 x, .int .i64 y, .int .i64 z], .int .i64 s] w fun e w' => e = .returned (.bool true) ∧ Below w.heap.size w w' := by
  have L1 := Lib.hid (cmp_lt a b c x y z)
  have L2 := Lib.hid (cmp_gt a b c x y z)
  go_enter Try.func3, Try.ntmps3
  go_wp2_with fail
  refine (up_any _).mono ?_; rintro e w1 ⟨rfl, hb1⟩
  obtain ⟨hc1, hf1⟩ := bcell hb1
  have hz1 : w.heap.size + 1 < w1.heap.size := by have := hb1.size; (try simp at this); omega
  have hz1' : w.heap.size < w1.heap.size := by omega
  go_wp2_with fail
  refine (cmp_any _ _ _ _ _ _ _).mono ?_; rintro e w2 ⟨rfl, hb2⟩
  obtain ⟨hc2, hf2⟩ := bcell hb2
  have hz2 : w.heap.size + 1 < w2.heap.size := by have := hb2.size; omega
  have hz2' : w.heap.size < w2.heap.size := by omega
  go_wp2_with fail
  rw [L1.out]
  refine (below_any _ _ _ _ _ _ _).mono ?_; rintro e w3 ⟨rfl, hb3⟩
  obtain ⟨hc3, hf3⟩ := bcell hb3
  have hz3 : w.heap.size + 1 < w3.heap.size := by have := hb3.size; omega
  have hz3' : w.heap.size < w3.heap.size := by omega
  have n1 : (lowVer a b c x y z != lowVer a b c x y z) = false := by simp
  go_wp2_with fail
  rw [L2.out]
  refine (below_any _ _ _ _ _ _ _).mono ?_; rintro e w4 ⟨rfl, hb4⟩
  obtain ⟨hc4, hf4⟩ := bcell hb4
  have hz4 : w.heap.size + 1 < w4.heap.size := by have := hb4.size; omega
  have hz4' : w.heap.size < w4.heap.size := by omega
  have n2 : (lowVer x y z a b c != lowVer x y z a b c) = false := by simp
  go_wp2_with fail
  cases h : okVer a b c
  · have H := Lib.hid h; clear h
    refine (next_arg a b c s _ H.out).mono ?_; rintro e w5 ⟨rfl, hb5⟩
    obtain ⟨hc5, hf5⟩ := bcell hb5
    have g5 : w.heap.size + 1 < w5.heap.size := by have := hb5.size; (try simp at this); omega
    have g5' : w.heap.size < w5.heap.size := by have := hb5.size; (try simp at this); omega
    go_wp2_with fail
    refine (refMay_any _ _ _ _).mono ?_; rintro e w6 ⟨rfl, hb6⟩; rw [H.out]
    obtain ⟨hc6, hf6⟩ := bcell hb6
    have g6 : w.heap.size + 1 < w6.heap.size := by have := hb6.size; (try simp at this); omega
    have g6' : w.heap.size < w6.heap.size := by have := hb6.size; (try simp at this); omega
    have g6'' : w5.heap.size < w6.heap.size := by have := hb6.size; (try simp at this); omega
    have he := eqErr 1 1
    go_wp2
    go_ret
    refine ⟨rfl, ?_⟩
    repeat (first | exact Below.refl _ _ | refine Below.drew ?_ | refine below_drewN ?_ _ | refine below_new ?_ _ | refine below_put ?_ (by simp; omega) _ | refine below_over ?_ (by assumption))
  · have H := Lib.hid h; clear h
    by_cases hs : s < 1 ∨ 3 < s
    · have HS := Lib.hid hs
      clear hs
      rcases HS.out with hs | hs
      · have hsB : decide (s < 1) = true := by simpa using hs
        refine (next_step a b c s _ H.out HS.out).mono ?_; rintro e w5 ⟨rfl, hb5⟩
        obtain ⟨hc5, hf5⟩ := bcell hb5
        have g5 : w.heap.size + 1 < w5.heap.size := by have := hb5.size; (try simp at this); omega
        have g5' : w.heap.size < w5.heap.size := by have := hb5.size; (try simp at this); omega
        go_wp2_with fail
        refine (refMay_any _ _ _ _).mono ?_; rintro e w6 ⟨rfl, hb6⟩; rw [H.out]
        obtain ⟨hc6, hf6⟩ := bcell hb6
        have g6 : w.heap.size + 1 < w6.heap.size := by have := hb6.size; (try simp at this); omega
        have g6' : w.heap.size < w6.heap.size := by have := hb6.size; (try simp at this); omega
        have g6'' : w5.heap.size < w6.heap.size := by have := hb6.size; (try simp at this); omega
        have he := eqErr 1 1
        go_wp2
        go_ret
        refine ⟨rfl, ?_⟩
        repeat (first | exact Below.refl _ _ | refine Below.drew ?_ | refine below_drewN ?_ _ | refine below_new ?_ _ | refine below_put ?_ (by simp; omega) _ | refine below_over ?_ (by assumption))

      · have hsB : decide (s < 1) = false := by simp; omega
        have hsC : decide (3 < s) = true := by simpa using hs
        refine (next_step a b c s _ H.out HS.out).mono ?_; rintro e w5 ⟨rfl, hb5⟩
        obtain ⟨hc5, hf5⟩ := bcell hb5
        have g5 : w.heap.size + 1 < w5.heap.size := by have := hb5.size; (try simp at this); omega
        have g5' : w.heap.size < w5.heap.size := by have := hb5.size; (try simp at this); omega
        go_wp2_with fail
        refine (refMay_any _ _ _ _).mono ?_; rintro e w6 ⟨rfl, hb6⟩; rw [H.out]
        obtain ⟨hc6, hf6⟩ := bcell hb6
        have g6 : w.heap.size + 1 < w6.heap.size := by have := hb6.size; (try simp at this); omega
        have g6' : w.heap.size < w6.heap.size := by have := hb6.size; (try simp at this); omega
        have g6'' : w5.heap.size < w6.heap.size := by have := hb6.size; (try simp at this); omega
        have he := eqErr 1 1
        go_wp2
        go_ret
        refine ⟨rfl, ?_⟩
        repeat (first | exact Below.refl _ _ | refine Below.drew ?_ | refine below_drewN ?_ _ | refine below_new ?_ _ | refine below_put ?_ (by simp; omega) _ | refine below_over ?_ (by assumption))

    · obtain ⟨o1, o2, o3, o4, o5, o6⟩ := okVer_bd H.out
      obtain ⟨u, v, t, hu⟩ : ∃ u v t : Int, s = 1 ∧ u = a ∧ v = b ∧ t = c + 1 ∨ s = 2 ∧ u = a ∧ v = b + 1 ∧ t = 0 ∨ s = 3 ∧ u = a + 1 ∧ v = 0 ∧ t = 0 := by
        have : s = 1 ∨ s = 2 ∨ s = 3 := by omega
        rcases this with rfl | rfl | rfl
        · exact ⟨a, b, c + 1, by simp⟩
        · exact ⟨a, b + 1, 0, by simp⟩
        · exact ⟨a + 1, 0, 0, by simp⟩
      have HU := Lib.hid hu
      have HS : Hid (¬ (s < 1 ∨ 3 < s)) := hs
      clear hs
      rcases hu with ⟨rfl, rfl, rfl, rfl⟩ | ⟨rfl, rfl, rfl, rfl⟩ | ⟨rfl, rfl, rfl, rfl⟩
      · rcases hid_or (okVer u v (c + 1)) with H2 | H2
        · skip
          refine (next_large _ _ _ _ _ _ _ _ H.out HU.out H2.out).mono ?_; rintro e w5 ⟨rfl, hb5⟩
          obtain ⟨hc5, hf5⟩ := bcell hb5
          have g5 : w.heap.size + 1 < w5.heap.size := by have := hb5.size; (try simp at this); omega
          have g5' : w.heap.size < w5.heap.size := by have := hb5.size; (try simp at this); omega
          go_wp2_with fail
          refine (refMay_any _ _ _ _).mono ?_; rintro e w6 ⟨rfl, hb6⟩; rw [H.out]
          obtain ⟨hc6, hf6⟩ := bcell hb6
          have g6 : w.heap.size + 1 < w6.heap.size := by have := hb6.size; (try simp at this); omega
          have g6' : w.heap.size < w6.heap.size := by have := hb6.size; (try simp at this); omega
          have g6'' : w5.heap.size < w6.heap.size := by have := hb6.size; (try simp at this); omega
          go_wp2_with fail
          refine (refMay_any _ _ _ _).mono ?_; rintro e w7 ⟨rfl, hb7⟩; rw [H2.out]
          obtain ⟨hc7, hf7⟩ := bcell hb7
          have g7 : w.heap.size + 1 < w7.heap.size := by have := hb7.size; (try simp at this); omega
          have g7' : w.heap.size < w7.heap.size := by have := hb7.size; (try simp at this); omega
          have g7'' : w5.heap.size < w7.heap.size := by have := hb7.size; (try simp at this); omega
          have g7''' : w6.heap.size < w7.heap.size := by have := hb7.size; (try simp at this); omega
          have he := eqErr 3 3
          go_wp2
          go_ret
          refine ⟨rfl, ?_⟩
          repeat (first | exact Below.refl _ _ | refine Below.drew ?_ | refine below_drewN ?_ _ | refine below_new ?_ _ | refine below_put ?_ (by simp; omega) _ | refine below_over ?_ (by assumption))
        · skip
          refine (next_ok _ _ _ _ _ _ _ _ H.out HU.out H2.out).mono ?_; rintro e w5 ⟨rfl, hb5⟩
          obtain ⟨hc5, hf5⟩ := bcell hb5
          have g5 : w.heap.size + 1 < w5.heap.size := by have := hb5.size; (try simp at this); omega
          have g5' : w.heap.size < w5.heap.size := by have := hb5.size; (try simp at this); omega
          go_wp2_with fail
          refine (refMay_any _ _ _ _).mono ?_; rintro e w6 ⟨rfl, hb6⟩; rw [H.out]
          obtain ⟨hc6, hf6⟩ := bcell hb6
          have g6 : w.heap.size + 1 < w6.heap.size := by have := hb6.size; (try simp at this); omega
          have g6' : w.heap.size < w6.heap.size := by have := hb6.size; (try simp at this); omega
          have g6'' : w5.heap.size < w6.heap.size := by have := hb6.size; (try simp at this); omega
          go_wp2_with fail
          refine (refMay_any _ _ _ _).mono ?_; rintro e w7 ⟨rfl, hb7⟩; rw [H2.out]
          obtain ⟨hc7, hf7⟩ := bcell hb7
          have g7 : w.heap.size + 1 < w7.heap.size := by have := hb7.size; (try simp at this); omega
          have g7' : w.heap.size < w7.heap.size := by have := hb7.size; (try simp at this); omega
          have g7'' : w5.heap.size < w7.heap.size := by have := hb7.size; (try simp at this); omega
          have g7''' : w6.heap.size < w7.heap.size := by have := hb7.size; (try simp at this); omega
          go_wp2
          go_ret
          refine ⟨rfl, ?_⟩
          repeat (first | exact Below.refl _ _ | refine Below.drew ?_ | refine below_drewN ?_ _ | refine below_new ?_ _ | refine below_put ?_ (by simp; omega) _ | refine below_over ?_ (by assumption))
      · rcases hid_or (okVer u (b + 1) 0) with H2 | H2
        · skip
          refine (next_large _ _ _ _ _ _ _ _ H.out HU.out H2.out).mono ?_; rintro e w5 ⟨rfl, hb5⟩
          obtain ⟨hc5, hf5⟩ := bcell hb5
          have g5 : w.heap.size + 1 < w5.heap.size := by have := hb5.size; (try simp at this); omega
          have g5' : w.heap.size < w5.heap.size := by have := hb5.size; (try simp at this); omega
          go_wp2_with fail
          refine (refMay_any _ _ _ _).mono ?_; rintro e w6 ⟨rfl, hb6⟩; rw [H.out]
          obtain ⟨hc6, hf6⟩ := bcell hb6
          have g6 : w.heap.size + 1 < w6.heap.size := by have := hb6.size; (try simp at this); omega
          have g6' : w.heap.size < w6.heap.size := by have := hb6.size; (try simp at this); omega
          have g6'' : w5.heap.size < w6.heap.size := by have := hb6.size; (try simp at this); omega
          go_wp2_with fail
          refine (refMay_any _ _ _ _).mono ?_; rintro e w7 ⟨rfl, hb7⟩; rw [H2.out]
          obtain ⟨hc7, hf7⟩ := bcell hb7
          have g7 : w.heap.size + 1 < w7.heap.size := by have := hb7.size; (try simp at this); omega
          have g7' : w.heap.size < w7.heap.size := by have := hb7.size; (try simp at this); omega
          have g7'' : w5.heap.size < w7.heap.size := by have := hb7.size; (try simp at this); omega
          have g7''' : w6.heap.size < w7.heap.size := by have := hb7.size; (try simp at this); omega
          have he := eqErr 3 3
          go_wp2
          go_ret
          refine ⟨rfl, ?_⟩
          repeat (first | exact Below.refl _ _ | refine Below.drew ?_ | refine below_drewN ?_ _ | refine below_new ?_ _ | refine below_put ?_ (by simp; omega) _ | refine below_over ?_ (by assumption))
        · skip
          refine (next_ok _ _ _ _ _ _ _ _ H.out HU.out H2.out).mono ?_; rintro e w5 ⟨rfl, hb5⟩
          obtain ⟨hc5, hf5⟩ := bcell hb5
          have g5 : w.heap.size + 1 < w5.heap.size := by have := hb5.size; (try simp at this); omega
          have g5' : w.heap.size < w5.heap.size := by have := hb5.size; (try simp at this); omega
          go_wp2_with fail
          refine (refMay_any _ _ _ _).mono ?_; rintro e w6 ⟨rfl, hb6⟩; rw [H.out]
          obtain ⟨hc6, hf6⟩ := bcell hb6
          have g6 : w.heap.size + 1 < w6.heap.size := by have := hb6.size; (try simp at this); omega
          have g6' : w.heap.size < w6.heap.size := by have := hb6.size; (try simp at this); omega
          have g6'' : w5.heap.size < w6.heap.size := by have := hb6.size; (try simp at this); omega
          go_wp2_with fail
          refine (refMay_any _ _ _ _).mono ?_; rintro e w7 ⟨rfl, hb7⟩; rw [H2.out]
          obtain ⟨hc7, hf7⟩ := bcell hb7
          have g7 : w.heap.size + 1 < w7.heap.size := by have := hb7.size; (try simp at this); omega
          have g7' : w.heap.size < w7.heap.size := by have := hb7.size; (try simp at this); omega
          have g7'' : w5.heap.size < w7.heap.size := by have := hb7.size; (try simp at this); omega
          have g7''' : w6.heap.size < w7.heap.size := by have := hb7.size; (try simp at this); omega
          go_wp2
          go_ret
          refine ⟨rfl, ?_⟩
          repeat (first | exact Below.refl _ _ | refine Below.drew ?_ | refine below_drewN ?_ _ | refine below_new ?_ _ | refine below_put ?_ (by simp; omega) _ | refine below_over ?_ (by assumption))
      · rcases hid_or (okVer (a + 1) 0 0) with H2 | H2
        · skip
          refine (next_large _ _ _ _ _ _ _ _ H.out HU.out H2.out).mono ?_; rintro e w5 ⟨rfl, hb5⟩
          obtain ⟨hc5, hf5⟩ := bcell hb5
          have g5 : w.heap.size + 1 < w5.heap.size := by have := hb5.size; (try simp at this); omega
          have g5' : w.heap.size < w5.heap.size := by have := hb5.size; (try simp at this); omega
          go_wp2_with fail
          refine (refMay_any _ _ _ _).mono ?_; rintro e w6 ⟨rfl, hb6⟩; rw [H.out]
          obtain ⟨hc6, hf6⟩ := bcell hb6
          have g6 : w.heap.size + 1 < w6.heap.size := by have := hb6.size; (try simp at this); omega
          have g6' : w.heap.size < w6.heap.size := by have := hb6.size; (try simp at this); omega
          have g6'' : w5.heap.size < w6.heap.size := by have := hb6.size; (try simp at this); omega
          go_wp2_with fail
          refine (refMay_any _ _ _ _).mono ?_; rintro e w7 ⟨rfl, hb7⟩; rw [H2.out]
          obtain ⟨hc7, hf7⟩ := bcell hb7
          have g7 : w.heap.size + 1 < w7.heap.size := by have := hb7.size; (try simp at this); omega
          have g7' : w.heap.size < w7.heap.size := by have := hb7.size; (try simp at this); omega
          have g7'' : w5.heap.size < w7.heap.size := by have := hb7.size; (try simp at this); omega
          have g7''' : w6.heap.size < w7.heap.size := by have := hb7.size; (try simp at this); omega
          have he := eqErr 3 3
          go_wp2
          go_ret
          refine ⟨rfl, ?_⟩
          repeat (first | exact Below.refl _ _ | refine Below.drew ?_ | refine below_drewN ?_ _ | refine below_new ?_ _ | refine below_put ?_ (by simp; omega) _ | refine below_over ?_ (by assumption))
        · skip
          refine (next_ok _ _ _ _ _ _ _ _ H.out HU.out H2.out).mono ?_; rintro e w5 ⟨rfl, hb5⟩
          obtain ⟨hc5, hf5⟩ := bcell hb5
          have g5 : w.heap.size + 1 < w5.heap.size := by have := hb5.size; (try simp at this); omega
          have g5' : w.heap.size < w5.heap.size := by have := hb5.size; (try simp at this); omega
          go_wp2_with fail
          refine (refMay_any _ _ _ _).mono ?_; rintro e w6 ⟨rfl, hb6⟩; rw [H.out]
          obtain ⟨hc6, hf6⟩ := bcell hb6
          have g6 : w.heap.size + 1 < w6.heap.size := by have := hb6.size; (try simp at this); omega
          have g6' : w.heap.size < w6.heap.size := by have := hb6.size; (try simp at this); omega
          have g6'' : w5.heap.size < w6.heap.size := by have := hb6.size; (try simp at this); omega
          go_wp2_with fail
          refine (refMay_any _ _ _ _).mono ?_; rintro e w7 ⟨rfl, hb7⟩; rw [H2.out]
          obtain ⟨hc7, hf7⟩ := bcell hb7
          have g7 : w.heap.size + 1 < w7.heap.size := by have := hb7.size; (try simp at this); omega
          have g7' : w.heap.size < w7.heap.size := by have := hb7.size; (try simp at this); omega
          have g7'' : w5.heap.size < w7.heap.size := by have := hb7.size; (try simp at this); omega
          have g7''' : w6.heap.size < w7.heap.size := by have := hb7.size; (try simp at this); omega
          go_wp2
          go_ret
          refine ⟨rfl, ?_⟩
          repeat (first | exact Below.refl _ _ | refine Below.drew ?_ | refine below_drewN ?_ _ | refine below_new ?_ _ | refine below_put ?_ (by simp; omega) _ | refine below_over ?_ (by assumption))

end Go.Proofs.Ytihaggghmanamaa
