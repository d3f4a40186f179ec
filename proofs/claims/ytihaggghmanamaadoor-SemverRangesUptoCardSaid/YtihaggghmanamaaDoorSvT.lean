/-
  The walk of SemverTexts: whatever version and whatever text are handed in.
-/
import Derived.Test.YtihaggghmanamaaDoorSvS
namespace Go.Proofs.YtihaggghmanamaaDoor
open Go.RowKit

theorem neqErr (a b : Int) (w : World) : (binOp .neq 26 (.iface 31 (.int .i64 a)) (.iface 31 (.int .i64 b))).run Tryd.prog w = .ok (.bool (!(a == b))) w := by
  have h := eqErr a b w
  simp only [binOp] at h ⊢
  cases he : (Op.equal 26 (.iface 31 (.int .i64 a)) (.iface 31 (.int .i64 b))).run Tryd.prog w <;> simp_all [Result.andThen]

theorem ref_yes (s : ByteArray) (w : World) (hs : s.size ≤ 9223372036854775807) (hp : Pow w) (h : isVer s.data.toList = true) :
    Calls Tryd.prog 12 #[.string s] w fun e w' => e = .returned (.tuple #[.agg #[.int .i64 (M.pV (M.t1 s.data.toList)), .int .i64 (M.pV (M.t2 s.data.toList)), .int .i64 (M.pV (M.t3 s.data.toList))], .bool true]) ∧ Below w.heap.size w w' := by
  have := refParse_any s w hs hp
  simpa only [rA, rB, rC, h, if_true] using this
theorem ref_no (s : ByteArray) (w : World) (hs : s.size ≤ 9223372036854775807) (hp : Pow w) (h : isVer s.data.toList = false) :
    Calls Tryd.prog 12 #[.string s] w fun e w' => e = .returned (.tuple #[.agg #[.int .i64 0, .int .i64 0, .int .i64 0], .bool false]) ∧ Below w.heap.size w w' := by
  have := refParse_any s w hs hp
  simpa only [rA, rB, rC, h, Bool.false_eq_true, if_false] using this

set_option maxHeartbeats 4000000 in
theorem texts_any (a b c : Int) (s : ByteArray) (w : World) (hs : s.size ≤ 9223372036854775807) (hp : Pow w) :
    Calls Tryd.prog 3 #[.agg #[.int .i64 a, .int .i64 b, .int .i64 c], .string s] w fun e w' => e = .returned (.bool true) ∧ Below w.heap.size w w' := by
  rcases hid_or (okVer a b c) with H | H
  · rcases hid_or (isVer s.data.toList) with V | V
    · skip
      go_enter Tryd.func3, Tryd.ntmps3
      go_wp2_with fail
      refine (up_any _).mono ?_; rintro e w1 ⟨rfl, hb1⟩
      obtain ⟨hc1, hf1⟩ := bcell hb1
      have g1_0 : w.heap.size < w1.heap.size := by have := hb1.size; (try simp at this); omega
      go_wp2_with fail
      refine (print_no _ _ _ _ H.out).mono ?_; rintro e w2 ⟨rfl, hb2⟩
      obtain ⟨hc2, hf2⟩ := bcell hb2
      have g2_0 : w.heap.size < w2.heap.size := by have := hb2.size; (try simp at this); omega
      go_wp2_with fail
      refine (refMay_any _ _ _ _).mono ?_; rintro e w3 ⟨rfl, hb3⟩; rw [H.out]
      obtain ⟨hc3, hf3⟩ := bcell hb3
      have g3_0 : w.heap.size < w3.heap.size := by have := hb3.size; (try simp at this); omega
      go_wp2_with fail
      refine (may_any _ _ _ _).mono ?_; rintro e w4 ⟨rfl, hb4⟩; rw [H.out]
      obtain ⟨hc4, hf4⟩ := bcell hb4
      have g4_0 : w.heap.size < w4.heap.size := by have := hb4.size; (try simp at this); omega
      have n1 := neqErr 1 1
      go_wp2_with fail
      refine (parse_no _ _ hs V.out).mono ?_; rintro e w6 ⟨rfl, hb6⟩
      obtain ⟨hc6, hf6⟩ := bcell hb6
      have g6_0 : w.heap.size < w6.heap.size := by have := hb6.size; (try simp at this); omega
      go_wp2_with fail
      refine (ref_no _ _ hs (hp.on (by repeat (first | exact Below.refl _ _ | refine Below.drew ?_ | refine below_drewN ?_ _ | refine below_new ?_ _ | refine below_put ?_ (by simp; omega) _ | refine below_over ?_ (by assumption)))) V.out).mono ?_; rintro e w7 ⟨rfl, hb7⟩
      obtain ⟨hc7, hf7⟩ := bcell hb7
      have g7_0 : w.heap.size < w7.heap.size := by have := hb7.size; (try simp at this); omega
      have g7_1 : w6.heap.size < w7.heap.size := by have := hb7.size; (try simp at this); omega
      have he := eqErr 2 2
      go_wp2
      go_ret
      refine ⟨rfl, ?_⟩
      repeat (first | exact Below.refl _ _ | refine Below.drew ?_ | refine below_drewN ?_ _ | refine below_new ?_ _ | refine below_put ?_ (by simp; omega) _ | refine below_over ?_ (by assumption))
    · skip
      go_enter Tryd.func3, Tryd.ntmps3
      go_wp2_with fail
      refine (up_any _).mono ?_; rintro e w1 ⟨rfl, hb1⟩
      obtain ⟨hc1, hf1⟩ := bcell hb1
      have g1_0 : w.heap.size < w1.heap.size := by have := hb1.size; (try simp at this); omega
      go_wp2_with fail
      refine (print_no _ _ _ _ H.out).mono ?_; rintro e w2 ⟨rfl, hb2⟩
      obtain ⟨hc2, hf2⟩ := bcell hb2
      have g2_0 : w.heap.size < w2.heap.size := by have := hb2.size; (try simp at this); omega
      go_wp2_with fail
      refine (refMay_any _ _ _ _).mono ?_; rintro e w3 ⟨rfl, hb3⟩; rw [H.out]
      obtain ⟨hc3, hf3⟩ := bcell hb3
      have g3_0 : w.heap.size < w3.heap.size := by have := hb3.size; (try simp at this); omega
      go_wp2_with fail
      refine (may_any _ _ _ _).mono ?_; rintro e w4 ⟨rfl, hb4⟩; rw [H.out]
      obtain ⟨hc4, hf4⟩ := bcell hb4
      have g4_0 : w.heap.size < w4.heap.size := by have := hb4.size; (try simp at this); omega
      have n1 := neqErr 1 1
      go_wp2_with fail
      refine (parse_yes _ _ hs V.out).mono ?_; rintro e w6 ⟨rfl, hb6⟩
      obtain ⟨hc6, hf6⟩ := bcell hb6
      have g6_0 : w.heap.size < w6.heap.size := by have := hb6.size; (try simp at this); omega
      go_wp2_with fail
      refine (ref_yes _ _ hs (hp.on (by repeat (first | exact Below.refl _ _ | refine Below.drew ?_ | refine below_drewN ?_ _ | refine below_new ?_ _ | refine below_put ?_ (by simp; omega) _ | refine below_over ?_ (by assumption)))) V.out).mono ?_; rintro e w7 ⟨rfl, hb7⟩
      obtain ⟨hc7, hf7⟩ := bcell hb7
      have g7_0 : w.heap.size < w7.heap.size := by have := hb7.size; (try simp at this); omega
      have g7_1 : w6.heap.size < w7.heap.size := by have := hb7.size; (try simp at this); omega
      go_wp2
      go_ret
      refine ⟨rfl, ?_⟩
      repeat (first | exact Below.refl _ _ | refine Below.drew ?_ | refine below_drewN ?_ _ | refine below_new ?_ _ | refine below_put ?_ (by simp; omega) _ | refine below_over ?_ (by assumption))
  · obtain ⟨o1, o2, o3, o4, o5, o6⟩ := okVer_bd H.out
    rcases hid_or (isVer s.data.toList) with V | V
    · skip
      go_enter Tryd.func3, Tryd.ntmps3
      go_wp2_with fail
      refine (up_any _).mono ?_; rintro e w1 ⟨rfl, hb1⟩
      obtain ⟨hc1, hf1⟩ := bcell hb1
      have g1_0 : w.heap.size < w1.heap.size := by have := hb1.size; (try simp at this); omega
      go_wp2_with fail
      refine (print_yes _ _ _ _ H.out (hp.on (by repeat (first | exact Below.refl _ _ | refine Below.drew ?_ | refine below_drewN ?_ _ | refine below_new ?_ _ | refine below_put ?_ (by simp; omega) _ | refine below_over ?_ (by assumption))))).mono ?_; rintro e w2 ⟨rfl, hb2⟩
      obtain ⟨hc2, hf2⟩ := bcell hb2
      have g2_0 : w.heap.size < w2.heap.size := by have := hb2.size; (try simp at this); omega
      go_wp2_with fail
      refine (refMay_any _ _ _ _).mono ?_; rintro e w3 ⟨rfl, hb3⟩; rw [H.out]
      obtain ⟨hc3, hf3⟩ := bcell hb3
      have g3_0 : w.heap.size < w3.heap.size := by have := hb3.size; (try simp at this); omega
      go_wp2_with fail
      refine (may_any _ _ _ _).mono ?_; rintro e w4 ⟨rfl, hb4⟩; rw [H.out]
      obtain ⟨hc4, hf4⟩ := bcell hb4
      have g4_0 : w.heap.size < w4.heap.size := by have := hb4.size; (try simp at this); omega
      have n1 : (!((verText a b c).toList == (verText a b c).toList)) = false := by simp
      go_wp2_with fail
      refine (refPrint_any _ _ _ _ ⟨by omega, by omega⟩ ⟨by omega, by omega⟩ ⟨by omega, by omega⟩ (hp.on (by repeat (first | exact Below.refl _ _ | refine Below.drew ?_ | refine below_drewN ?_ _ | refine below_new ?_ _ | refine below_put ?_ (by simp; omega) _ | refine below_over ?_ (by assumption))))).mono ?_; rintro e w5 ⟨rfl, hb5⟩
      obtain ⟨hc5, hf5⟩ := bcell hb5
      have g5_0 : w.heap.size < w5.heap.size := by have := hb5.size; (try simp at this); omega
      go_wp2_with fail
      refine (parse_no _ _ hs V.out).mono ?_; rintro e w6 ⟨rfl, hb6⟩
      obtain ⟨hc6, hf6⟩ := bcell hb6
      have g6_0 : w.heap.size < w6.heap.size := by have := hb6.size; (try simp at this); omega
      go_wp2_with fail
      refine (ref_no _ _ hs (hp.on (by repeat (first | exact Below.refl _ _ | refine Below.drew ?_ | refine below_drewN ?_ _ | refine below_new ?_ _ | refine below_put ?_ (by simp; omega) _ | refine below_over ?_ (by assumption)))) V.out).mono ?_; rintro e w7 ⟨rfl, hb7⟩
      obtain ⟨hc7, hf7⟩ := bcell hb7
      have g7_0 : w.heap.size < w7.heap.size := by have := hb7.size; (try simp at this); omega
      have g7_1 : w6.heap.size < w7.heap.size := by have := hb7.size; (try simp at this); omega
      have he := eqErr 2 2
      go_wp2
      go_ret
      refine ⟨rfl, ?_⟩
      repeat (first | exact Below.refl _ _ | refine Below.drew ?_ | refine below_drewN ?_ _ | refine below_new ?_ _ | refine below_put ?_ (by simp; omega) _ | refine below_over ?_ (by assumption))
    · skip
      go_enter Tryd.func3, Tryd.ntmps3
      go_wp2_with fail
      refine (up_any _).mono ?_; rintro e w1 ⟨rfl, hb1⟩
      obtain ⟨hc1, hf1⟩ := bcell hb1
      have g1_0 : w.heap.size < w1.heap.size := by have := hb1.size; (try simp at this); omega
      go_wp2_with fail
      refine (print_yes _ _ _ _ H.out (hp.on (by repeat (first | exact Below.refl _ _ | refine Below.drew ?_ | refine below_drewN ?_ _ | refine below_new ?_ _ | refine below_put ?_ (by simp; omega) _ | refine below_over ?_ (by assumption))))).mono ?_; rintro e w2 ⟨rfl, hb2⟩
      obtain ⟨hc2, hf2⟩ := bcell hb2
      have g2_0 : w.heap.size < w2.heap.size := by have := hb2.size; (try simp at this); omega
      go_wp2_with fail
      refine (refMay_any _ _ _ _).mono ?_; rintro e w3 ⟨rfl, hb3⟩; rw [H.out]
      obtain ⟨hc3, hf3⟩ := bcell hb3
      have g3_0 : w.heap.size < w3.heap.size := by have := hb3.size; (try simp at this); omega
      go_wp2_with fail
      refine (may_any _ _ _ _).mono ?_; rintro e w4 ⟨rfl, hb4⟩; rw [H.out]
      obtain ⟨hc4, hf4⟩ := bcell hb4
      have g4_0 : w.heap.size < w4.heap.size := by have := hb4.size; (try simp at this); omega
      have n1 : (!((verText a b c).toList == (verText a b c).toList)) = false := by simp
      go_wp2_with fail
      refine (refPrint_any _ _ _ _ ⟨by omega, by omega⟩ ⟨by omega, by omega⟩ ⟨by omega, by omega⟩ (hp.on (by repeat (first | exact Below.refl _ _ | refine Below.drew ?_ | refine below_drewN ?_ _ | refine below_new ?_ _ | refine below_put ?_ (by simp; omega) _ | refine below_over ?_ (by assumption))))).mono ?_; rintro e w5 ⟨rfl, hb5⟩
      obtain ⟨hc5, hf5⟩ := bcell hb5
      have g5_0 : w.heap.size < w5.heap.size := by have := hb5.size; (try simp at this); omega
      go_wp2_with fail
      refine (parse_yes _ _ hs V.out).mono ?_; rintro e w6 ⟨rfl, hb6⟩
      obtain ⟨hc6, hf6⟩ := bcell hb6
      have g6_0 : w.heap.size < w6.heap.size := by have := hb6.size; (try simp at this); omega
      go_wp2_with fail
      refine (ref_yes _ _ hs (hp.on (by repeat (first | exact Below.refl _ _ | refine Below.drew ?_ | refine below_drewN ?_ _ | refine below_new ?_ _ | refine below_put ?_ (by simp; omega) _ | refine below_over ?_ (by assumption)))) V.out).mono ?_; rintro e w7 ⟨rfl, hb7⟩
      obtain ⟨hc7, hf7⟩ := bcell hb7
      have g7_0 : w.heap.size < w7.heap.size := by have := hb7.size; (try simp at this); omega
      have g7_1 : w6.heap.size < w7.heap.size := by have := hb7.size; (try simp at this); omega
      go_wp2
      go_ret
      refine ⟨rfl, ?_⟩
      repeat (first | exact Below.refl _ _ | refine Below.drew ?_ | refine below_drewN ?_ _ | refine below_new ?_ _ | refine below_put ?_ (by simp; omega) _ | refine below_over ?_ (by assumption))

end Go.Proofs.YtihaggghmanamaaDoor
