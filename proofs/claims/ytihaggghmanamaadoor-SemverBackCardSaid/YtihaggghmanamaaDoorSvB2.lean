/-
  The walk of SemverBack: whatever version and whatever text are handed in.
-/
import Derived.Test.YtihaggghmanamaaDoorSvT
namespace Go.Proofs.YtihaggghmanamaaDoor
open Go.RowKit

/-- The version itself, and the next ones of the three steps. -/
def nxa (a : Int) (i : Nat) : Int := if i = 3 then a + 1 else a
def nxb (b : Int) (i : Nat) : Int := if i = 3 then 0 else if i = 2 then b + 1 else b
def nxc (c : Int) (i : Nat) : Int := if i = 3 then 0 else if i = 2 then 0 else if i = 1 then c + 1 else c

theorem nx_zero (a b c : Int) : nxa a 0 = a ∧ nxb b 0 = b ∧ nxc c 0 = c := ⟨rfl, rfl, rfl⟩
theorem nx_is (a b c : Int) (k : Nat) (h1 : 1 ≤ k) (h3 : k ≤ 3) :
    (k : Int) = 1 ∧ nxa a k = a ∧ nxb b k = b ∧ nxc c k = c + 1 ∨ (k : Int) = 2 ∧ nxa a k = a ∧ nxb b k = b + 1 ∧ nxc c k = 0 ∨ (k : Int) = 3 ∧ nxa a k = a + 1 ∧ nxb b k = 0 ∧ nxc c k = 0 := by
  have : k = 1 ∨ k = 2 ∨ k = 3 := by omega
  rcases this with rfl | rfl | rfl <;> simp [nxa, nxb, nxc]
theorem low_c {a b c z : Int} (h : c < z) : lowVer a b c a b z = true := by simp [lowVer, h]
theorem low_b {a b c y z : Int} (h : b < y) : lowVer a b c a y z = true := by unfold lowVer; rw [if_pos rfl, if_neg (by omega)]; simpa using h
theorem low_a {a b c x y z : Int} (h : a < x) : lowVer a b c x y z = true := by unfold lowVer; rw [if_neg (by omega)]; simpa using h
theorem nx_low (a b c : Int) (i k : Nat) (hi : i < k) (hk : k ≤ 3) : lowVer (nxa a i) (nxb b i) (nxc c i) (nxa a k) (nxb b k) (nxc c k) = true := by
  have : i = 0 ∧ k = 1 ∨ i = 0 ∧ k = 2 ∨ i = 0 ∧ k = 3 ∨ i = 1 ∧ k = 2 ∨ i = 1 ∧ k = 3 ∨ i = 2 ∧ k = 3 := by omega
  rcases this with ⟨rfl, rfl⟩ | ⟨rfl, rfl⟩ | ⟨rfl, rfl⟩ | ⟨rfl, rfl⟩ | ⟨rfl, rfl⟩ | ⟨rfl, rfl⟩ <;> simp [nxa, nxb, nxc] <;> first | exact low_c (by omega) | exact low_b (by omega) | exact low_a (by omega)
theorem cmp_low {a b c x y z : Int} (h : lowVer a b c x y z = true) : cmpVer a b c x y z = -1 := by unfold cmpVer; rw [if_pos h]
theorem cmp_high {a b c x y z : Int} (h : lowVer x y z a b c = true) : cmpVer a b c x y z = 1 := by
  have : lowVer a b c x y z = false := by
    unfold lowVer at *
    split at h
    · split at h
      · simp at h; rw [if_pos (by omega), if_pos (by omega)]; simp; omega
      · simp at h; rw [if_pos (by omega), if_neg (by omega)]; simp; omega
    · simp at h; rw [if_neg (by omega)]; simp; omega
  unfold cmpVer; rw [this, h]; rfl

/-- Where the loop stands: the version's box, and the variable of the last one, in a block of the call's own. -/
structure BW (w wr : World) (B : Nat) (a b c x y z : Int) : Prop where
  below : Below w.heap.size w wr
  ltB : w.heap.size < B
  lt : B < wr.heap.size
  v0 : wr.cell? ⟨w.heap.size, 0, none⟩ = some (.int .i64 a)
  v1 : wr.cell? ⟨w.heap.size, 1, none⟩ = some (.int .i64 b)
  v2 : wr.cell? ⟨w.heap.size, 2, none⟩ = some (.int .i64 c)
  c0 : wr.cell? ⟨B, 0, none⟩ = some (.int .i64 x)
  c1 : wr.cell? ⟨B, 1, none⟩ = some (.int .i64 y)
  c2 : wr.cell? ⟨B, 2, none⟩ = some (.int .i64 z)
  f0 : wr.frozen? ⟨B, 0, none⟩ = false
  f1 : wr.frozen? ⟨B, 1, none⟩ = false
  f2 : wr.frozen? ⟨B, 2, none⟩ = false

theorem BW.on {w wr wr' : World} {B : Nat} {a b c x y z : Int} (h : BW w wr B a b c x y z) (hb : Below wr.heap.size wr wr') : BW w wr' B a b c x y z := by
  obtain ⟨h1, h2, h3, v0, v1, v2, c0, c1, c2, f0, f1, f2⟩ := h
  have hv : w.heap.size < wr.heap.size := by omega
  refine ⟨below_over h1 hb, h2, by have := hb.size; omega, ?_, ?_, ?_, ?_, ?_, ?_, ?_, ?_, ?_⟩
  · exact (hb.cell (p := ⟨w.heap.size, 0, none⟩) hv).trans v0
  · exact (hb.cell (p := ⟨w.heap.size, 1, none⟩) hv).trans v1
  · exact (hb.cell (p := ⟨w.heap.size, 2, none⟩) hv).trans v2
  · exact (hb.cell (p := ⟨B, 0, none⟩) h3).trans c0
  · exact (hb.cell (p := ⟨B, 1, none⟩) h3).trans c1
  · exact (hb.cell (p := ⟨B, 2, none⟩) h3).trans c2
  · exact (hb.frozen (p := ⟨B, 0, none⟩) h3).trans f0
  · exact (hb.frozen (p := ⟨B, 1, none⟩) h3).trans f1
  · exact (hb.frozen (p := ⟨B, 2, none⟩) h3).trans f2
theorem BW.put {w wr : World} {B : Nat} {a b c x y z : Int} (h : BW w wr B a b c x y z) (x' y' z' : Int) :
    BW w (((wr.setCell ⟨B, 0, none⟩ (.int .i64 x')).setCell ⟨B, 1, none⟩ (.int .i64 y')).setCell ⟨B, 2, none⟩ (.int .i64 z')) B a b c x' y' z' := by
  obtain ⟨h1, h2, h3, v0, v1, v2, c0, c1, c2, f0, f1, f2⟩ := h
  have hne : B ≠ w.heap.size := by omega
  have hne' : w.heap.size ≠ B := by omega
  constructor
  · exact below_put (below_put (below_put h1 (by simp; omega) _) (by simp; omega) _) (by simp; omega) _
  · exact h2
  · simpa using h3
  all_goals go_simp

theorem parse_back (a b c : Int) (w : World) (h : okVer a b c = true) :
    Calls Tryd.prog 11 #[.string (verText a b c)] w fun e w' => e = .returned (.tuple #[.agg #[.int .i64 a, .int .i64 b, .int .i64 c], .nilIface]) ∧ Below w.heap.size w w' := by
  obtain ⟨e, h1, h2, h3⟩ := isVer_vt h (verText_list a b c)
  obtain ⟨g1, g2, g3, g4, g5, g6⟩ := okVer_bd h
  have hsz : (verText a b c).size ≤ 9223372036854775807 := by
    rw [Lib.size_eq, verText_list]
    have := M.vt_len a b c g2 g4 g6
    omega
  have := parse_yes (verText a b c) w hsz e
  rwa [h1, h2, h3] at this

set_option maxHeartbeats 4000000 in
theorem back_any (a b c : Int) (s : ByteArray) (w : World) (hs : s.size ≤ 9223372036854775807) (hp : Pow w) :
    Calls Tryd.prog 5 #[.agg #[.int .i64 a, .int .i64 b, .int .i64 c], .string s] w fun e w' => e = .returned (.bool true) ∧ Below w.heap.size w w' := by
  rcases hid_or (okVer a b c) with H | H
  · rcases hid_or (isVer s.data.toList) with V | V
    · skip
      go_enter Tryd.func5, Tryd.ntmps5
      go_wp2_with fail
      refine (up_any _).mono ?_; rintro e w1 ⟨rfl, hb1⟩
      obtain ⟨hc1, hf1⟩ := bcell hb1
      have g1_0 : w.heap.size < w1.heap.size := by have := hb1.size; (try simp at this); omega
      go_wp2_with fail
      refine (print_no _ _ _ _ H.out).mono ?_; rintro e w2 ⟨rfl, hb2⟩
      obtain ⟨hc2, hf2⟩ := bcell hb2
      have g2_0 : w.heap.size < w2.heap.size := by have := hb2.size; (try simp at this); omega
      go_wp2_with fail
      refine (parse_no _ _ hs V.out).mono ?_; rintro e w3 ⟨rfl, hb3⟩
      obtain ⟨hc3, hf3⟩ := bcell hb3
      go_wp2
      go_ret
      refine ⟨rfl, ?_⟩
      repeat (first | exact Below.refl _ _ | refine Below.drew ?_ | refine below_drewN ?_ _ | refine below_new ?_ _ | refine below_put ?_ (by simp; omega) _ | refine below_over ?_ (by assumption))
    · skip
      go_enter Tryd.func5, Tryd.ntmps5
      go_wp2_with fail
      refine (up_any _).mono ?_; rintro e w1 ⟨rfl, hb1⟩
      obtain ⟨hc1, hf1⟩ := bcell hb1
      have g1_0 : w.heap.size < w1.heap.size := by have := hb1.size; (try simp at this); omega
      go_wp2_with fail
      refine (print_no _ _ _ _ H.out).mono ?_; rintro e w2 ⟨rfl, hb2⟩
      obtain ⟨hc2, hf2⟩ := bcell hb2
      have g2_0 : w.heap.size < w2.heap.size := by have := hb2.size; (try simp at this); omega
      go_wp2_with fail
      refine (parse_yes _ _ hs V.out).mono ?_; rintro e w3 ⟨rfl, hb3⟩
      obtain ⟨hc3, hf3⟩ := bcell hb3
      have hv := vt_isVer V.out
      have e1 : ((verText (M.pV (M.t1 s.data.toList)) (M.pV (M.t2 s.data.toList)) (M.pV (M.t3 s.data.toList))).toList == s.toList) = true := by rw [← verText_eq hv.2]; simp
      have HO := Lib.hid hv.1; clear hv
      go_wp2_with fail
      refine (print_yes _ _ _ _ HO.out (hp.on (by repeat (first | exact Below.refl _ _ | refine Below.drew ?_ | refine below_drewN ?_ _ | refine below_new ?_ _ | refine below_put ?_ (by simp; omega) _ | refine below_over ?_ (by assumption))))).mono ?_; rintro e w4 ⟨rfl, hb4⟩
      obtain ⟨hc4, hf4⟩ := bcell hb4
      go_wp2
      go_ret
      refine ⟨rfl, ?_⟩
      repeat (first | exact Below.refl _ _ | refine Below.drew ?_ | refine below_drewN ?_ _ | refine below_new ?_ _ | refine below_put ?_ (by simp; omega) _ | refine below_over ?_ (by assumption))
  · obtain ⟨o1, o2, o3, o4, o5, o6⟩ := okVer_bd H.out
    go_enter Tryd.func5, Tryd.ntmps5
    go_wp2_with fail
    refine (up_any _).mono ?_; rintro e w1 ⟨rfl, hb1⟩
    obtain ⟨hc1, hf1⟩ := bcell hb1
    have g1_0 : w.heap.size < w1.heap.size := by have := hb1.size; (try simp at this); omega
    go_wp2_with fail
    refine (print_yes _ _ _ _ H.out (hp.on (by repeat (first | exact Below.refl _ _ | refine Below.drew ?_ | refine below_drewN ?_ _ | refine below_new ?_ _ | refine below_put ?_ (by simp; omega) _ | refine below_over ?_ (by assumption))))).mono ?_; rintro e w2 ⟨rfl, hb2⟩
    obtain ⟨hc2, hf2⟩ := bcell hb2
    have g2_0 : w.heap.size < w2.heap.size := by have := hb2.size; (try simp at this); omega
    go_wp2_with fail
    refine (parse_back _ _ _ _ H.out).mono ?_; rintro e w3 ⟨rfl, hb3⟩
    obtain ⟨hc3, hf3⟩ := bcell hb3
    have g3_0 : w.heap.size < w3.heap.size := by have := hb3.size; (try simp at this); omega
    go_wp2
    have hR : BW w ((w3.alloc (.cells #[.int .i64 a, .int .i64 b, .int .i64 c] 23)).alloc (.cells #[.int .i64 a, .int .i64 b, .int .i64 c] 23)) (w3.heap.size + 1) a b c a b c := by
      constructor
      · repeat (first | exact Below.refl _ _ | refine Below.drew ?_ | refine below_drewN ?_ _ | refine below_new ?_ _ | refine below_put ?_ (by simp; omega) _ | refine below_over ?_ (by assumption))
      · omega
      · simp
      all_goals go_simp
    go_loopw [11] (fun st wr => ∃ (k i : Nat), st = .int .i64 k ∧ 1 ≤ k ∧ k ≤ 4 ∧ i < k ∧ BW w wr (w3.heap.size + 1) a b c (nxa a i) (nxb b i) (nxc c i)) (fun st _ => 4 - (intOf st).toNat)
    case atStart => exact ⟨1, 0, rfl, by omega, by omega, by omega, hR⟩
    case round =>
      obtain ⟨k, i, rfl, hk1, hk4, hi, hW⟩ := hrel
      have hW' := hW
      obtain ⟨b1, b2, b3, v0, v1, v2, c0, c1, c2, f0, f1, f2⟩ := hW
      have b4 : w.heap.size < wr.heap.size := by omega
      clear hR
      by_cases hk3 : k ≤ 3
      · have hk3' : (k : Int) ≤ 3 := by omega
        have X := Lib.hid (nx_is a b c k hk1 hk3)
        have Q1 := Lib.hid (cmp_high (nx_low a b c i k hi hk3))
        have Q2 := Lib.hid (cmp_low (nx_low a b c 0 k (by omega) hk3))
        rcases hid_or (okVer (nxa a k) (nxb b k) (nxc c k)) with N | N
        · skip
          go_wp2_with fail
          refine (next_large a b c k (nxa a k) (nxb b k) (nxc c k) _ H.out X.out N.out).mono ?_; rintro e w4 ⟨rfl, hb4⟩
          obtain ⟨hc4, hf4⟩ := bcell hb4
          have g4_0 : w.heap.size < w4.heap.size := by have := hb4.size; (try simp at this); omega
          have g4_1 : w3.heap.size + 1 < w4.heap.size := by have := hb4.size; (try simp at this); omega
          have g4_2 : w3.heap.size < w4.heap.size := by have := hb4.size; (try simp at this); omega
          go_wp2
          go_roundw
          case rel => exact ⟨k + 1, i, by go_num, by omega, by omega, by omega, hW'.on (by repeat (first | exact Below.refl _ _ | refine Below.drew ?_ | refine below_drewN ?_ _ | refine below_new ?_ _ | refine below_put ?_ (by simp; omega) _ | refine below_over ?_ (by assumption)))⟩
          case measure => simp [intOf]; omega
        · skip
          go_wp2_with fail
          refine (next_ok a b c k (nxa a k) (nxb b k) (nxc c k) _ H.out X.out N.out).mono ?_; rintro e w4 ⟨rfl, hb4⟩
          obtain ⟨hc4, hf4⟩ := bcell hb4
          have g4_0 : w.heap.size < w4.heap.size := by have := hb4.size; (try simp at this); omega
          have g4_1 : w3.heap.size + 1 < w4.heap.size := by have := hb4.size; (try simp at this); omega
          have g4_2 : w3.heap.size < w4.heap.size := by have := hb4.size; (try simp at this); omega
          go_wp2_with fail
          refine (cmp_any _ _ _ _ _ _ _).mono ?_; rintro e w5 ⟨rfl, hb5⟩; rw [Q1.out]
          obtain ⟨hc5, hf5⟩ := bcell hb5
          have g5_0 : w.heap.size < w5.heap.size := by have := hb5.size; (try simp at this); omega
          have g5_1 : w3.heap.size + 1 < w5.heap.size := by have := hb5.size; (try simp at this); omega
          have g5_2 : w3.heap.size < w5.heap.size := by have := hb5.size; (try simp at this); omega
          have g5_3 : w4.heap.size < w5.heap.size := by have := hb5.size; (try simp at this); omega
          go_wp2_with fail
          refine (cmp_any _ _ _ _ _ _ _).mono ?_; rintro e w6 ⟨rfl, hb6⟩; rw [show cmpVer a b c (nxa a k) (nxb b k) (nxc c k) = -1 from Q2.out]
          obtain ⟨hc6, hf6⟩ := bcell hb6
          have g6_0 : w.heap.size < w6.heap.size := by have := hb6.size; (try simp at this); omega
          have g6_1 : w3.heap.size + 1 < w6.heap.size := by have := hb6.size; (try simp at this); omega
          have g6_2 : w3.heap.size < w6.heap.size := by have := hb6.size; (try simp at this); omega
          have g6_3 : w4.heap.size < w6.heap.size := by have := hb6.size; (try simp at this); omega
          go_wp2
          go_roundw
          case rel => exact ⟨k + 1, k, by go_num, by omega, by omega, by omega, (hW'.on (by repeat (first | exact Below.refl _ _ | refine Below.drew ?_ | refine below_drewN ?_ _ | refine below_new ?_ _ | refine below_put ?_ (by simp; omega) _ | refine below_over ?_ (by assumption)))).put _ _ _⟩
          case measure => simp [intOf]; omega
      · have hk3' : ¬ (k : Int) ≤ 3 := by omega
        rcases hid_or (isVer s.data.toList) with V | V
        · skip
          go_wp2_with fail
          refine (parse_no _ _ hs V.out).mono ?_; rintro e w4 ⟨rfl, hb4⟩
          obtain ⟨hc4, hf4⟩ := bcell hb4
          go_wp2
          go_ret
          refine ⟨rfl, ?_⟩
          repeat (first | exact hW'.below | exact Below.refl _ _ | refine Below.drew ?_ | refine below_drewN ?_ _ | refine below_new ?_ _ | refine below_put ?_ (by simp; omega) _ | refine below_over ?_ (by assumption))
        · skip
          go_wp2_with fail
          refine (parse_yes _ _ hs V.out).mono ?_; rintro e w4 ⟨rfl, hb4⟩
          obtain ⟨hc4, hf4⟩ := bcell hb4
          have hv := vt_isVer V.out
          have e1 : ((verText (M.pV (M.t1 s.data.toList)) (M.pV (M.t2 s.data.toList)) (M.pV (M.t3 s.data.toList))).toList == s.toList) = true := by rw [← verText_eq hv.2]; simp
          have HO := Lib.hid hv.1; clear hv
          go_wp2_with fail
          refine (print_yes _ _ _ _ HO.out (hp.on (by repeat (first | exact hW'.below | exact Below.refl _ _ | refine Below.drew ?_ | refine below_drewN ?_ _ | refine below_new ?_ _ | refine below_put ?_ (by simp; omega) _ | refine below_over ?_ (by assumption))))).mono ?_; rintro e w5 ⟨rfl, hb5⟩
          obtain ⟨hc5, hf5⟩ := bcell hb5
          go_wp2
          go_ret
          refine ⟨rfl, ?_⟩
          repeat (first | exact hW'.below | exact Below.refl _ _ | refine Below.drew ?_ | refine below_drewN ?_ _ | refine below_new ?_ _ | refine below_put ?_ (by simp; omega) _ | refine below_over ?_ (by assumption))

end Go.Proofs.YtihaggghmanamaaDoor
