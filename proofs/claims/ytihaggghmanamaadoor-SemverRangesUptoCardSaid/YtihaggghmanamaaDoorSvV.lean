/-
  The walks of MayRange and In, the program's and the reference's.
-/
import Derived.Test.YtihaggghmanamaaDoorSvT
namespace Go.Proofs.YtihaggghmanamaaDoor
open Go.RowKit

/-- May a range be? -/
def okRng (a b c x y z : Int) : Bool := okVer a b c && (okVer x y z && (decide (a = x) && lowVer a b c x y z))
/-- Is a version in it? -/
def inRng (a b c x y z p q r : Int) : Bool := okRng a b c x y z && (okVer p q r && (!lowVer p q r a b c && lowVer p q r x y z))
theorem low_asym2 (a b c x y z : Int) (h : lowVer a b c x y z = true) : lowVer x y z a b c = false := by
  unfold lowVer at *
  split at h
  · split at h
    · simp at h; rw [if_pos (by omega), if_pos (by omega)]; simp; omega
    · simp at h; rw [if_pos (by omega), if_neg (by omega)]; simp; omega
  · simp at h; rw [if_neg (by omega)]; simp; omega
theorem cmp_le (a b c x y z : Int) : decide (cmpVer a b c x y z ≤ 0) = !lowVer x y z a b c := by
  unfold cmpVer
  cases h : lowVer a b c x y z
  · cases lowVer x y z a b c <;> rfl
  · rw [low_asym2 _ _ _ _ _ _ h]; rfl
theorem cmp_neg (a b c x y z : Int) : decide (cmpVer a b c x y z < 0) = lowVer a b c x y z := by
  unfold cmpVer
  cases lowVer a b c x y z <;> cases lowVer x y z a b c <;> rfl
theorem ret_bool {a b : Bool} (h : b = a) : Ending.returned (.bool a) = .returned (.bool b) := by rw [h]

set_option maxHeartbeats 4000000 in
theorem mayRange_any (a b c x y z : Int) (w : World) :
    Calls Tryd.prog 15 #[.agg #[.int .i64 a, .int .i64 b, .int .i64 c, .int .i64 x, .int .i64 y, .int .i64 z]] w fun e w' => e = .returned (.bool (okRng a b c x y z)) ∧ Below w.heap.size w w' := by
  rcases hid_or (okVer a b c) with H1 | H1
  · skip
    go_enter Tryd.func15, Tryd.ntmps15
    go_wp2_with fail
    refine (may_any _ _ _ _).mono ?_; rintro e w1 ⟨rfl, hb1⟩; rw [H1.out]
    obtain ⟨hc1, hf1⟩ := bcell hb1
    have g1_0 : w.heap.size < w1.heap.size := by have := hb1.size; (try simp at this); omega
    go_wp2
    go_ret
    refine ⟨ret_bool (by simp [okRng, H1.out]), ?_⟩
    repeat (first | (with_reducible exact Below.refl _ _) | (with_reducible refine Below.drew ?_) | (with_reducible refine below_drewN ?_ _) | (with_reducible refine below_new ?_ _) | ((with_reducible refine below_put ?_ ?_ _); rotate_left; focus (first | (simp; done) | (simp; omega) | omega)) | (with_reducible refine below_over ?_ (by assumption)))
  · rcases hid_or (okVer x y z) with H2 | H2
    · skip
      go_enter Tryd.func15, Tryd.ntmps15
      go_wp2_with fail
      refine (may_any _ _ _ _).mono ?_; rintro e w1 ⟨rfl, hb1⟩; rw [H1.out]
      obtain ⟨hc1, hf1⟩ := bcell hb1
      have g1_0 : w.heap.size < w1.heap.size := by have := hb1.size; (try simp at this); omega
      go_wp2_with fail
      refine (may_any _ _ _ _).mono ?_; rintro e w2 ⟨rfl, hb2⟩; rw [H2.out]
      obtain ⟨hc2, hf2⟩ := bcell hb2
      have g2_0 : w.heap.size < w2.heap.size := by have := hb2.size; (try simp at this); omega
      go_wp2
      go_ret
      refine ⟨ret_bool (by simp [okRng, H1.out, H2.out]), ?_⟩
      repeat (first | (with_reducible exact Below.refl _ _) | (with_reducible refine Below.drew ?_) | (with_reducible refine below_drewN ?_ _) | (with_reducible refine below_new ?_ _) | ((with_reducible refine below_put ?_ ?_ _); rotate_left; focus (first | (simp; done) | (simp; omega) | omega)) | (with_reducible refine below_over ?_ (by assumption)))
    · by_cases he : a = x
      · have h3 : (a == x) = true := by simpa using he
        have HE : Hid (a = x) := he
        clear he
        go_enter Tryd.func15, Tryd.ntmps15
        go_wp2_with fail
        refine (may_any _ _ _ _).mono ?_; rintro e w1 ⟨rfl, hb1⟩; rw [H1.out]
        obtain ⟨hc1, hf1⟩ := bcell hb1
        have g1_0 : w.heap.size < w1.heap.size := by have := hb1.size; (try simp at this); omega
        go_wp2_with fail
        refine (may_any _ _ _ _).mono ?_; rintro e w2 ⟨rfl, hb2⟩; rw [H2.out]
        obtain ⟨hc2, hf2⟩ := bcell hb2
        have g2_0 : w.heap.size < w2.heap.size := by have := hb2.size; (try simp at this); omega
        go_wp2_with fail
        refine (cmp_any _ _ _ _ _ _ _).mono ?_; rintro e w3 ⟨rfl, hb3⟩
        obtain ⟨hc3, hf3⟩ := bcell hb3
        have g3_0 : w.heap.size < w3.heap.size := by have := hb3.size; (try simp at this); omega
        go_wp2
        go_ret
        refine ⟨ret_bool (by rw [cmp_neg]; unfold okRng; rw [H1.out, H2.out, decide_eq_true (show a = x from HE)]; rfl), ?_⟩
        repeat (first | (with_reducible exact Below.refl _ _) | (with_reducible refine Below.drew ?_) | (with_reducible refine below_drewN ?_ _) | (with_reducible refine below_new ?_ _) | ((with_reducible refine below_put ?_ ?_ _); rotate_left; focus (first | (simp; done) | (simp; omega) | omega)) | (with_reducible refine below_over ?_ (by assumption)))
      · have h3 : (a == x) = false := by simpa using he
        go_enter Tryd.func15, Tryd.ntmps15
        go_wp2_with fail
        refine (may_any _ _ _ _).mono ?_; rintro e w1 ⟨rfl, hb1⟩; rw [H1.out]
        obtain ⟨hc1, hf1⟩ := bcell hb1
        have g1_0 : w.heap.size < w1.heap.size := by have := hb1.size; (try simp at this); omega
        go_wp2_with fail
        refine (may_any _ _ _ _).mono ?_; rintro e w2 ⟨rfl, hb2⟩; rw [H2.out]
        obtain ⟨hc2, hf2⟩ := bcell hb2
        have g2_0 : w.heap.size < w2.heap.size := by have := hb2.size; (try simp at this); omega
        go_wp2
        go_ret
        refine ⟨ret_bool (by simp [okRng, H1.out, H2.out, he]), ?_⟩
        repeat (first | (with_reducible exact Below.refl _ _) | (with_reducible refine Below.drew ?_) | (with_reducible refine below_drewN ?_ _) | (with_reducible refine below_new ?_ _) | ((with_reducible refine below_put ?_ ?_ _); rotate_left; focus (first | (simp; done) | (simp; omega) | omega)) | (with_reducible refine below_over ?_ (by assumption)))

set_option maxHeartbeats 4000000 in
theorem refMayRange_any (a b c x y z : Int) (w : World) :
    Calls Tryd.prog 14 #[.agg #[.int .i64 a, .int .i64 b, .int .i64 c, .int .i64 x, .int .i64 y, .int .i64 z]] w fun e w' => e = .returned (.bool (okRng a b c x y z)) ∧ Below w.heap.size w w' := by
  rcases hid_or (okVer a b c) with H1 | H1
  · rcases hid_or (okVer x y z) with H2 | H2
    all_goals
      go_enter Tryd.func14, Tryd.ntmps14
      go_wp2_with fail
      refine (refMay_any _ _ _ _).mono ?_; rintro e w1 ⟨rfl, hb1⟩; rw [H1.out]
      obtain ⟨hc1, hf1⟩ := bcell hb1
      have g1_0 : w.heap.size < w1.heap.size := by have := hb1.size; (try simp at this); omega
      go_wp2_with fail
      refine (refMay_any _ _ _ _).mono ?_; rintro e w2 ⟨rfl, hb2⟩; rw [H2.out]
      obtain ⟨hc2, hf2⟩ := bcell hb2
      have g2_0 : w.heap.size < w2.heap.size := by have := hb2.size; (try simp at this); omega
      go_wp2
      go_ret
      refine ⟨ret_bool (by simp [okRng, H1.out]), ?_⟩
      repeat (first | (with_reducible exact Below.refl _ _) | (with_reducible refine Below.drew ?_) | (with_reducible refine below_drewN ?_ _) | (with_reducible refine below_new ?_ _) | ((with_reducible refine below_put ?_ ?_ _); rotate_left; focus (first | (simp; done) | (simp; omega) | omega)) | (with_reducible refine below_over ?_ (by assumption)))
  · rcases hid_or (okVer x y z) with H2 | H2
    · skip
      go_enter Tryd.func14, Tryd.ntmps14
      go_wp2_with fail
      refine (refMay_any _ _ _ _).mono ?_; rintro e w1 ⟨rfl, hb1⟩; rw [H1.out]
      obtain ⟨hc1, hf1⟩ := bcell hb1
      have g1_0 : w.heap.size < w1.heap.size := by have := hb1.size; (try simp at this); omega
      go_wp2_with fail
      refine (refMay_any _ _ _ _).mono ?_; rintro e w2 ⟨rfl, hb2⟩; rw [H2.out]
      obtain ⟨hc2, hf2⟩ := bcell hb2
      have g2_0 : w.heap.size < w2.heap.size := by have := hb2.size; (try simp at this); omega
      go_wp2
      go_ret
      refine ⟨ret_bool (by simp [okRng, H1.out, H2.out]), ?_⟩
      repeat (first | (with_reducible exact Below.refl _ _) | (with_reducible refine Below.drew ?_) | (with_reducible refine below_drewN ?_ _) | (with_reducible refine below_new ?_ _) | ((with_reducible refine below_put ?_ ?_ _); rotate_left; focus (first | (simp; done) | (simp; omega) | omega)) | (with_reducible refine below_over ?_ (by assumption)))
    · by_cases he : a = x
      · have h3 : (a == x) = true := by simpa using he
        have HE : Hid (a = x) := he
        clear he
        go_enter Tryd.func14, Tryd.ntmps14
        go_wp2_with fail
        refine (refMay_any _ _ _ _).mono ?_; rintro e w1 ⟨rfl, hb1⟩; rw [H1.out]
        obtain ⟨hc1, hf1⟩ := bcell hb1
        have g1_0 : w.heap.size < w1.heap.size := by have := hb1.size; (try simp at this); omega
        go_wp2_with fail
        refine (refMay_any _ _ _ _).mono ?_; rintro e w2 ⟨rfl, hb2⟩; rw [H2.out]
        obtain ⟨hc2, hf2⟩ := bcell hb2
        have g2_0 : w.heap.size < w2.heap.size := by have := hb2.size; (try simp at this); omega
        go_wp2_with fail
        refine (below_any _ _ _ _ _ _ _).mono ?_; rintro e w3 ⟨rfl, hb3⟩
        obtain ⟨hc3, hf3⟩ := bcell hb3
        have g3_0 : w.heap.size < w3.heap.size := by have := hb3.size; (try simp at this); omega
        go_wp2
        go_ret
        refine ⟨ret_bool (by unfold okRng; rw [H1.out, H2.out, decide_eq_true (show a = x from HE)]; rfl), ?_⟩
        repeat (first | (with_reducible exact Below.refl _ _) | (with_reducible refine Below.drew ?_) | (with_reducible refine below_drewN ?_ _) | (with_reducible refine below_new ?_ _) | ((with_reducible refine below_put ?_ ?_ _); rotate_left; focus (first | (simp; done) | (simp; omega) | omega)) | (with_reducible refine below_over ?_ (by assumption)))
      · have h3 : (a == x) = false := by simpa using he
        go_enter Tryd.func14, Tryd.ntmps14
        go_wp2_with fail
        refine (refMay_any _ _ _ _).mono ?_; rintro e w1 ⟨rfl, hb1⟩; rw [H1.out]
        obtain ⟨hc1, hf1⟩ := bcell hb1
        have g1_0 : w.heap.size < w1.heap.size := by have := hb1.size; (try simp at this); omega
        go_wp2_with fail
        refine (refMay_any _ _ _ _).mono ?_; rintro e w2 ⟨rfl, hb2⟩; rw [H2.out]
        obtain ⟨hc2, hf2⟩ := bcell hb2
        have g2_0 : w.heap.size < w2.heap.size := by have := hb2.size; (try simp at this); omega
        go_wp2
        go_ret
        refine ⟨ret_bool (by simp [okRng, H1.out, H2.out, he]), ?_⟩
        repeat (first | (with_reducible exact Below.refl _ _) | (with_reducible refine Below.drew ?_) | (with_reducible refine below_drewN ?_ _) | (with_reducible refine below_new ?_ _) | ((with_reducible refine below_put ?_ ?_ _); rotate_left; focus (first | (simp; done) | (simp; omega) | omega)) | (with_reducible refine below_over ?_ (by assumption)))

set_option maxHeartbeats 4000000 in
theorem in_any (a b c x y z p q r : Int) (w : World) :
    Calls Tryd.prog 16 #[.agg #[.int .i64 a, .int .i64 b, .int .i64 c, .int .i64 x, .int .i64 y, .int .i64 z], .agg #[.int .i64 p, .int .i64 q, .int .i64 r]] w fun e w' => e = .returned (.bool (inRng a b c x y z p q r)) ∧ Below w.heap.size w w' := by
  rcases hid_or (okRng a b c x y z) with H1 | H1
  · skip
    go_enter Tryd.func16, Tryd.ntmps16
    go_wp2_with fail
    refine (mayRange_any _ _ _ _ _ _ _).mono ?_; rintro e w1 ⟨rfl, hb1⟩; rw [H1.out]
    obtain ⟨hc1, hf1⟩ := bcell hb1
    have g1_0 : w.heap.size < w1.heap.size := by have := hb1.size; (try simp at this); omega
    have g1_1 : w.heap.size + 1 < w1.heap.size := by have := hb1.size; (try simp at this); omega
    go_wp2
    go_ret
    refine ⟨ret_bool (by simp [inRng, H1.out]), ?_⟩
    repeat (first | (with_reducible exact Below.refl _ _) | (with_reducible refine Below.drew ?_) | (with_reducible refine below_drewN ?_ _) | (with_reducible refine below_new ?_ _) | ((with_reducible refine below_put ?_ ?_ _); rotate_left; focus (first | (simp; done) | (simp; omega) | omega)) | (with_reducible refine below_over ?_ (by assumption)))
  · rcases hid_or (okVer p q r) with H2 | H2
    · skip
      go_enter Tryd.func16, Tryd.ntmps16
      go_wp2_with fail
      refine (mayRange_any _ _ _ _ _ _ _).mono ?_; rintro e w1 ⟨rfl, hb1⟩; rw [H1.out]
      obtain ⟨hc1, hf1⟩ := bcell hb1
      have g1_0 : w.heap.size < w1.heap.size := by have := hb1.size; (try simp at this); omega
      have g1_1 : w.heap.size + 1 < w1.heap.size := by have := hb1.size; (try simp at this); omega
      go_wp2_with fail
      refine (may_any _ _ _ _).mono ?_; rintro e w2 ⟨rfl, hb2⟩; rw [H2.out]
      obtain ⟨hc2, hf2⟩ := bcell hb2
      have g2_0 : w.heap.size < w2.heap.size := by have := hb2.size; (try simp at this); omega
      have g2_1 : w.heap.size + 1 < w2.heap.size := by have := hb2.size; (try simp at this); omega
      go_wp2
      go_ret
      refine ⟨ret_bool (by simp [inRng, H1.out, H2.out]), ?_⟩
      repeat (first | (with_reducible exact Below.refl _ _) | (with_reducible refine Below.drew ?_) | (with_reducible refine below_drewN ?_ _) | (with_reducible refine below_new ?_ _) | ((with_reducible refine below_put ?_ ?_ _); rotate_left; focus (first | (simp; done) | (simp; omega) | omega)) | (with_reducible refine below_over ?_ (by assumption)))
    · have L3 := cmp_le a b c p q r
      rcases hid_or (lowVer p q r a b c) with H3 | H3
      · have k3 : cmpVer a b c p q r ≤ 0 := by simpa [H3.out] using L3
        clear L3
        go_enter Tryd.func16, Tryd.ntmps16
        go_wp2_with fail
        refine (mayRange_any _ _ _ _ _ _ _).mono ?_; rintro e w1 ⟨rfl, hb1⟩; rw [H1.out]
        obtain ⟨hc1, hf1⟩ := bcell hb1
        have g1_0 : w.heap.size < w1.heap.size := by have := hb1.size; (try simp at this); omega
        have g1_1 : w.heap.size + 1 < w1.heap.size := by have := hb1.size; (try simp at this); omega
        go_wp2_with fail
        refine (may_any _ _ _ _).mono ?_; rintro e w2 ⟨rfl, hb2⟩; rw [H2.out]
        obtain ⟨hc2, hf2⟩ := bcell hb2
        have g2_0 : w.heap.size < w2.heap.size := by have := hb2.size; (try simp at this); omega
        have g2_1 : w.heap.size + 1 < w2.heap.size := by have := hb2.size; (try simp at this); omega
        go_wp2_with fail
        refine (cmp_any _ _ _ _ _ _ _).mono ?_; rintro e w3 ⟨rfl, hb3⟩
        obtain ⟨hc3, hf3⟩ := bcell hb3
        have g3_0 : w.heap.size < w3.heap.size := by have := hb3.size; (try simp at this); omega
        have g3_1 : w.heap.size + 1 < w3.heap.size := by have := hb3.size; (try simp at this); omega
        go_wp2_with fail
        refine (cmp_any _ _ _ _ _ _ _).mono ?_; rintro e w4 ⟨rfl, hb4⟩
        obtain ⟨hc4, hf4⟩ := bcell hb4
        have g4_0 : w.heap.size < w4.heap.size := by have := hb4.size; (try simp at this); omega
        have g4_1 : w.heap.size + 1 < w4.heap.size := by have := hb4.size; (try simp at this); omega
        go_wp2
        go_ret
        refine ⟨ret_bool (by rw [cmp_neg]; simp [inRng, H1.out, H2.out, H3.out]), ?_⟩
        repeat (first | (with_reducible exact Below.refl _ _) | (with_reducible refine Below.drew ?_) | (with_reducible refine below_drewN ?_ _) | (with_reducible refine below_new ?_ _) | ((with_reducible refine below_put ?_ ?_ _); rotate_left; focus (first | (simp; done) | (simp; omega) | omega)) | (with_reducible refine below_over ?_ (by assumption)))
      · have k3 : 0 < cmpVer a b c p q r := by
          have : ¬ cmpVer a b c p q r ≤ 0 := by simpa [H3.out] using L3
          omega
        clear L3
        go_enter Tryd.func16, Tryd.ntmps16
        go_wp2_with fail
        refine (mayRange_any _ _ _ _ _ _ _).mono ?_; rintro e w1 ⟨rfl, hb1⟩; rw [H1.out]
        obtain ⟨hc1, hf1⟩ := bcell hb1
        have g1_0 : w.heap.size < w1.heap.size := by have := hb1.size; (try simp at this); omega
        have g1_1 : w.heap.size + 1 < w1.heap.size := by have := hb1.size; (try simp at this); omega
        go_wp2_with fail
        refine (may_any _ _ _ _).mono ?_; rintro e w2 ⟨rfl, hb2⟩; rw [H2.out]
        obtain ⟨hc2, hf2⟩ := bcell hb2
        have g2_0 : w.heap.size < w2.heap.size := by have := hb2.size; (try simp at this); omega
        have g2_1 : w.heap.size + 1 < w2.heap.size := by have := hb2.size; (try simp at this); omega
        go_wp2_with fail
        refine (cmp_any _ _ _ _ _ _ _).mono ?_; rintro e w3 ⟨rfl, hb3⟩
        obtain ⟨hc3, hf3⟩ := bcell hb3
        have g3_0 : w.heap.size < w3.heap.size := by have := hb3.size; (try simp at this); omega
        have g3_1 : w.heap.size + 1 < w3.heap.size := by have := hb3.size; (try simp at this); omega
        go_wp2
        go_ret
        refine ⟨ret_bool (by simp [inRng, H1.out, H2.out, H3.out]), ?_⟩
        repeat (first | (with_reducible exact Below.refl _ _) | (with_reducible refine Below.drew ?_) | (with_reducible refine below_drewN ?_ _) | (with_reducible refine below_new ?_ _) | ((with_reducible refine below_put ?_ ?_ _); rotate_left; focus (first | (simp; done) | (simp; omega) | omega)) | (with_reducible refine below_over ?_ (by assumption)))

set_option maxHeartbeats 4000000 in
theorem refIn_any (a b c x y z p q r : Int) (w : World) :
    Calls Tryd.prog 17 #[.agg #[.int .i64 a, .int .i64 b, .int .i64 c, .int .i64 x, .int .i64 y, .int .i64 z], .agg #[.int .i64 p, .int .i64 q, .int .i64 r]] w fun e w' => e = .returned (.bool (inRng a b c x y z p q r)) ∧ Below w.heap.size w w' := by
  rcases hid_or (okRng a b c x y z) with H1 | H1
  · rcases hid_or (okVer p q r) with H2 | H2
    all_goals
      go_enter Tryd.func17, Tryd.ntmps17
      go_wp2_with fail
      refine (refMayRange_any _ _ _ _ _ _ _).mono ?_; rintro e w1 ⟨rfl, hb1⟩; rw [H1.out]
      obtain ⟨hc1, hf1⟩ := bcell hb1
      have g1_0 : w.heap.size < w1.heap.size := by have := hb1.size; (try simp at this); omega
      have g1_1 : w.heap.size + 1 < w1.heap.size := by have := hb1.size; (try simp at this); omega
      go_wp2_with fail
      refine (refMay_any _ _ _ _).mono ?_; rintro e w2 ⟨rfl, hb2⟩; rw [H2.out]
      obtain ⟨hc2, hf2⟩ := bcell hb2
      have g2_0 : w.heap.size < w2.heap.size := by have := hb2.size; (try simp at this); omega
      have g2_1 : w.heap.size + 1 < w2.heap.size := by have := hb2.size; (try simp at this); omega
      go_wp2
      go_ret
      refine ⟨ret_bool (by simp [inRng, H1.out]), ?_⟩
      repeat (first | (with_reducible exact Below.refl _ _) | (with_reducible refine Below.drew ?_) | (with_reducible refine below_drewN ?_ _) | (with_reducible refine below_new ?_ _) | ((with_reducible refine below_put ?_ ?_ _); rotate_left; focus (first | (simp; done) | (simp; omega) | omega)) | (with_reducible refine below_over ?_ (by assumption)))
  · rcases hid_or (okVer p q r) with H2 | H2
    · skip
      go_enter Tryd.func17, Tryd.ntmps17
      go_wp2_with fail
      refine (refMayRange_any _ _ _ _ _ _ _).mono ?_; rintro e w1 ⟨rfl, hb1⟩; rw [H1.out]
      obtain ⟨hc1, hf1⟩ := bcell hb1
      have g1_0 : w.heap.size < w1.heap.size := by have := hb1.size; (try simp at this); omega
      have g1_1 : w.heap.size + 1 < w1.heap.size := by have := hb1.size; (try simp at this); omega
      go_wp2_with fail
      refine (refMay_any _ _ _ _).mono ?_; rintro e w2 ⟨rfl, hb2⟩; rw [H2.out]
      obtain ⟨hc2, hf2⟩ := bcell hb2
      have g2_0 : w.heap.size < w2.heap.size := by have := hb2.size; (try simp at this); omega
      have g2_1 : w.heap.size + 1 < w2.heap.size := by have := hb2.size; (try simp at this); omega
      go_wp2
      go_ret
      refine ⟨ret_bool (by simp [inRng, H1.out, H2.out]), ?_⟩
      repeat (first | (with_reducible exact Below.refl _ _) | (with_reducible refine Below.drew ?_) | (with_reducible refine below_drewN ?_ _) | (with_reducible refine below_new ?_ _) | ((with_reducible refine below_put ?_ ?_ _); rotate_left; focus (first | (simp; done) | (simp; omega) | omega)) | (with_reducible refine below_over ?_ (by assumption)))
    · rcases hid_or (lowVer p q r a b c) with H3 | H3
      · skip
        go_enter Tryd.func17, Tryd.ntmps17
        go_wp2_with fail
        refine (refMayRange_any _ _ _ _ _ _ _).mono ?_; rintro e w1 ⟨rfl, hb1⟩; rw [H1.out]
        obtain ⟨hc1, hf1⟩ := bcell hb1
        have g1_0 : w.heap.size < w1.heap.size := by have := hb1.size; (try simp at this); omega
        have g1_1 : w.heap.size + 1 < w1.heap.size := by have := hb1.size; (try simp at this); omega
        go_wp2_with fail
        refine (refMay_any _ _ _ _).mono ?_; rintro e w2 ⟨rfl, hb2⟩; rw [H2.out]
        obtain ⟨hc2, hf2⟩ := bcell hb2
        have g2_0 : w.heap.size < w2.heap.size := by have := hb2.size; (try simp at this); omega
        have g2_1 : w.heap.size + 1 < w2.heap.size := by have := hb2.size; (try simp at this); omega
        go_wp2_with fail
        refine (below_any _ _ _ _ _ _ _).mono ?_; rintro e w3 ⟨rfl, hb3⟩; rw [H3.out]
        obtain ⟨hc3, hf3⟩ := bcell hb3
        have g3_0 : w.heap.size < w3.heap.size := by have := hb3.size; (try simp at this); omega
        have g3_1 : w.heap.size + 1 < w3.heap.size := by have := hb3.size; (try simp at this); omega
        go_wp2_with fail
        refine (below_any _ _ _ _ _ _ _).mono ?_; rintro e w4 ⟨rfl, hb4⟩
        obtain ⟨hc4, hf4⟩ := bcell hb4
        have g4_0 : w.heap.size < w4.heap.size := by have := hb4.size; (try simp at this); omega
        have g4_1 : w.heap.size + 1 < w4.heap.size := by have := hb4.size; (try simp at this); omega
        go_wp2
        go_ret
        refine ⟨ret_bool (by simp [inRng, H1.out, H2.out, H3.out]), ?_⟩
        repeat (first | (with_reducible exact Below.refl _ _) | (with_reducible refine Below.drew ?_) | (with_reducible refine below_drewN ?_ _) | (with_reducible refine below_new ?_ _) | ((with_reducible refine below_put ?_ ?_ _); rotate_left; focus (first | (simp; done) | (simp; omega) | omega)) | (with_reducible refine below_over ?_ (by assumption)))
      · skip
        go_enter Tryd.func17, Tryd.ntmps17
        go_wp2_with fail
        refine (refMayRange_any _ _ _ _ _ _ _).mono ?_; rintro e w1 ⟨rfl, hb1⟩; rw [H1.out]
        obtain ⟨hc1, hf1⟩ := bcell hb1
        have g1_0 : w.heap.size < w1.heap.size := by have := hb1.size; (try simp at this); omega
        have g1_1 : w.heap.size + 1 < w1.heap.size := by have := hb1.size; (try simp at this); omega
        go_wp2_with fail
        refine (refMay_any _ _ _ _).mono ?_; rintro e w2 ⟨rfl, hb2⟩; rw [H2.out]
        obtain ⟨hc2, hf2⟩ := bcell hb2
        have g2_0 : w.heap.size < w2.heap.size := by have := hb2.size; (try simp at this); omega
        have g2_1 : w.heap.size + 1 < w2.heap.size := by have := hb2.size; (try simp at this); omega
        go_wp2_with fail
        refine (below_any _ _ _ _ _ _ _).mono ?_; rintro e w3 ⟨rfl, hb3⟩; rw [H3.out]
        obtain ⟨hc3, hf3⟩ := bcell hb3
        have g3_0 : w.heap.size < w3.heap.size := by have := hb3.size; (try simp at this); omega
        have g3_1 : w.heap.size + 1 < w3.heap.size := by have := hb3.size; (try simp at this); omega
        go_wp2
        go_ret
        refine ⟨ret_bool (by simp [inRng, H1.out, H2.out, H3.out]), ?_⟩
        repeat (first | (with_reducible exact Below.refl _ _) | (with_reducible refine Below.drew ?_) | (with_reducible refine below_drewN ?_ _) | (with_reducible refine below_new ?_ _) | ((with_reducible refine below_put ?_ ?_ _); rotate_left; focus (first | (simp; done) | (simp; omega) | omega)) | (with_reducible refine below_over ?_ (by assumption)))

end Go.Proofs.YtihaggghmanamaaDoor
