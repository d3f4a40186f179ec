/-
  The walks of the two statements of layer 2.
-/
import Derived.Test.YtdmceenplafebaaIdD
import Derived.BigQuiet
import Derived.Deep.QuietTactic
namespace Go.Proofs.Ytdmceenplafebaa
open Go.RowKit
open M

set_option maxHeartbeats 2000000 in
theorem names_any (s : ByteArray) (w : World) (hs : s.size ≤ 9223372036854775807) :
    Calls Try.prog 3 #[.string s] w fun e w' => e = .returned (.bool true) ∧ Below w.heap.size w w' := by
  by_cases h : (1000 : Int) < ↑s.size
  · go_enter Try.func3, Try.ntmps3
    go_wp2_with fail
    refine (up_any _).mono ?_; rintro e w' ⟨rfl, rfl⟩
    go_wp2
    go_ret
    exact ⟨rfl, Below.refl _ _⟩
  · have h' : (↑s.size : Int) ≤ 1000 := by omega
    have n1 : (smallB s.data.toList == smallB s.data.toList) = true := by simp
    have n2 : (greatB s.data.toList == greatB s.data.toList) = true := by simp
    have n3 : (keyB s.data.toList == keyB s.data.toList) = true := by simp
    go_enter Try.func3, Try.ntmps3
    go_wp2_with fail
    refine (up_any _).mono ?_; rintro e w' ⟨rfl, rfl⟩
    go_wp2_with fail
    refine (small_any _ _ hs).mono ?_; rintro e w' ⟨rfl, rfl⟩
    go_wp2_with fail
    refine (refSmall_any _ _ hs).mono ?_; rintro e w1 ⟨rfl, hb1⟩
    go_wp2_with fail
    refine (great_any _ _ hs).mono ?_; rintro e w' ⟨rfl, rfl⟩
    go_wp2_with fail
    refine (refGreat_any _ _ hs).mono ?_; rintro e w' ⟨rfl, rfl⟩
    go_wp2_with fail
    refine (key_any _ _).mono ?_; rintro e w' ⟨rfl, rfl⟩
    go_wp2_with fail
    refine (refKey_any _ _).mono ?_; rintro e w2 ⟨rfl, hb2⟩
    go_wp2
    go_ret
    exact ⟨rfl, below_over hb1 hb2⟩

theorem one_num (c : UInt8) : strOfNums [(c.toNat : Int)] = ⟨#[c]⟩ := by
  show (⟨#[UInt8.ofNat ((c.toNat : Int)).toNat]⟩ : ByteArray) = _
  simp
/-- A slice of one byte as a string, in whatever world holds its cell. -/
theorem conv_one (c : UInt8) (W : World) (b : Nat) (h : W.cell? ⟨b, 0, none⟩ = some (.int .u8 c.toNat)) :
    (convert 24 9 (.slice (some ⟨b, 0, none⟩) 1 1)).run Try.prog W = .ok (.string ⟨#[c]⟩) W := by
  have := run_convert_bytes_arg (P := Try.prog) W 24 5 Try.underlying24 Try.underlying5 b 0 1 1 [(c.toNat : Int)] rfl (fun i hi => by
    obtain rfl : i = 0 := by omega
    exact h) 9 Try.underlying9
  rw [one_num] at this
  exact this
theorem app_list (s : ByteArray) (c : UInt8) : (s ++ ⟨#[c]⟩ : ByteArray).data.toList = s.data.toList ++ [c] := by simp
theorem app_size (s : ByteArray) (c : UInt8) : (s ++ ⟨#[c]⟩ : ByteArray).size = s.size + 1 := by rw [← len_size, app_list]; simp

set_option maxHeartbeats 2000000 in
theorem apart_long (s : ByteArray) (c : Int) (w : World) (h : (1000 : Int) < ↑s.size) :
    Calls Try.prog 4 #[.string s, .int .u8 c] w fun e w' => e = .returned (.bool true) ∧ Below w.heap.size w w' := by
  go_enter Try.func4, Try.ntmps4
  go_wp2_with fail
  refine (up_any _).mono ?_; rintro e w' ⟨rfl, rfl⟩
  go_wp2
  go_ret
  exact ⟨rfl, Below.refl _ _⟩

set_option maxHeartbeats 2000000 in
theorem apart_early_small (s : ByteArray) (c : Int) (w : World) (hs : s.size ≤ 9223372036854775807) (h : (↑s.size : Int) ≤ 1000) (hc : c < 97 ∨ 97 ≤ c ∧ 122 < c ∨ 97 ≤ c ∧ c ≤ 122 ∧ (20 : Int) ≤ ↑s.size) (H1 : Hid (smallB s.data.toList = true)) (H2 : Hid (greatB s.data.toList = false)) (H3 : Hid (keyB s.data.toList = false)) :
    Calls Try.prog 4 #[.string s, .int .u8 c] w fun e w' => e = .returned (.bool true) ∧ Below w.heap.size w w' := by
  rcases hc with h1 | ⟨h1, h2⟩ | ⟨h1, h2, h3⟩
  all_goals
    go_enter Try.func4, Try.ntmps4
    go_wp2_with fail
    refine (up_any _).mono ?_; rintro e w' ⟨rfl, rfl⟩
    go_wp2_with fail
    refine (small_any _ _ hs).mono ?_; rintro e w' ⟨rfl, rfl⟩; rw [H1.out]
    go_wp2_with fail
    refine (great_any _ _ hs).mono ?_; rintro e w' ⟨rfl, rfl⟩; rw [H2.out]
    go_wp2_with fail
    refine (key_any _ _).mono ?_; rintro e w' ⟨rfl, rfl⟩; rw [H3.out]
    go_wp2
    all_goals go_ret
    all_goals exact ⟨rfl, Below.refl _ _⟩

set_option maxHeartbeats 2000000 in
theorem apart_on_small (s : ByteArray) (c : UInt8) (w : World) (hs : s.size ≤ 9223372036854775807) (h : (↑s.size : Int) ≤ 1000) (h1 : 97 ≤ (c.toNat : Int)) (h2 : (c.toNat : Int) ≤ 122) (h3 : (↑s.size : Int) < 20) (H1 : Hid (smallB s.data.toList = true)) (H2 : Hid (greatB s.data.toList = false)) (H3 : Hid (keyB s.data.toList = false)) :
    Calls Try.prog 4 #[.string s, .int .u8 c.toNat] w fun e w' => e = .returned (.bool true) ∧ Below w.heap.size w w' := by
  have n1 : ¬ (s.size + 1 > 9223372036854775807) := by omega
  have kc := conv_one c
  have HM := Lib.hid (small_more s.data.toList c H1.out (by rw [len_size]; omega) h1 h2)
  rw [← app_list] at HM
  rcases hid_or (keyB (s ++ ⟨#[c]⟩ : ByteArray).data.toList) with HK | HK
  all_goals
    go_enter Try.func4, Try.ntmps4
    go_wp2_with fail
    refine (up_any _).mono ?_; rintro e w' ⟨rfl, rfl⟩
    go_wp2_with fail
    refine (small_any _ _ hs).mono ?_; rintro e w' ⟨rfl, rfl⟩; rw [H1.out]
    go_wp2_with fail
    refine (great_any _ _ hs).mono ?_; rintro e w' ⟨rfl, rfl⟩; rw [H2.out]
    go_wp2_with fail
    refine (key_any _ _).mono ?_; rintro e w' ⟨rfl, rfl⟩; rw [H3.out]
    go_wp2_with fail
    refine (small_any _ _ (by rw [app_size]; omega)).mono ?_; rintro e w' ⟨rfl, rfl⟩; rw [HM.out, HK.out]
    go_wp2_with (go_at_call 10; refine (key_any _ _).mono ?_; rintro e w' ⟨rfl, rfl⟩; rw [HK.out])
    all_goals go_ret
    all_goals refine ⟨rfl, ?_⟩
    all_goals repeat (with_reducible first | exact Below.refl _ _ | refine Below.drew ?_ | refine below_drewN ?_ _ | refine below_new ?_ _ | refine below_over ?_ (by assumption))

set_option maxHeartbeats 2000000 in
theorem apart_early_great (s : ByteArray) (c : Int) (w : World) (hs : s.size ≤ 9223372036854775807) (h : (↑s.size : Int) ≤ 1000) (hc : c < 97 ∨ 97 ≤ c ∧ 122 < c ∨ 97 ≤ c ∧ c ≤ 122 ∧ (20 : Int) ≤ ↑s.size) (H1 : Hid (smallB s.data.toList = false)) (H2 : Hid (greatB s.data.toList = true)) (H3 : Hid (keyB s.data.toList = false)) :
    Calls Try.prog 4 #[.string s, .int .u8 c] w fun e w' => e = .returned (.bool true) ∧ Below w.heap.size w w' := by
  rcases hc with h1 | ⟨h1, h2⟩ | ⟨h1, h2, h3⟩
  all_goals
    go_enter Try.func4, Try.ntmps4
    go_wp2_with fail
    refine (up_any _).mono ?_; rintro e w' ⟨rfl, rfl⟩
    go_wp2_with fail
    refine (small_any _ _ hs).mono ?_; rintro e w' ⟨rfl, rfl⟩; rw [H1.out]
    go_wp2_with fail
    refine (great_any _ _ hs).mono ?_; rintro e w' ⟨rfl, rfl⟩; rw [H2.out]
    go_wp2_with fail
    refine (key_any _ _).mono ?_; rintro e w' ⟨rfl, rfl⟩; rw [H3.out]
    go_wp2
    all_goals go_ret
    all_goals exact ⟨rfl, Below.refl _ _⟩

set_option maxHeartbeats 2000000 in
theorem apart_on_great (s : ByteArray) (c : UInt8) (w : World) (hs : s.size ≤ 9223372036854775807) (h : (↑s.size : Int) ≤ 1000) (h1 : 97 ≤ (c.toNat : Int)) (h2 : (c.toNat : Int) ≤ 122) (h3 : (↑s.size : Int) < 20) (H1 : Hid (smallB s.data.toList = false)) (H2 : Hid (greatB s.data.toList = true)) (H3 : Hid (keyB s.data.toList = false)) :
    Calls Try.prog 4 #[.string s, .int .u8 c.toNat] w fun e w' => e = .returned (.bool true) ∧ Below w.heap.size w w' := by
  have n1 : ¬ (s.size + 1 > 9223372036854775807) := by omega
  have kc := conv_one c
  have HM := Lib.hid (great_more s.data.toList c H2.out (by rw [len_size]; omega) h1 h2)
  rw [← app_list] at HM
  have E := Lib.hid (show (s ++ ⟨#[c]⟩ : ByteArray).toList = (s ++ ⟨#[c]⟩ : ByteArray).data.toList from Lib.toList_data _)
  rcases hid_or (wordB (s ++ ⟨#[c]⟩ : ByteArray).data.toList) with HK | HK
  all_goals
    go_enter Try.func4, Try.ntmps4
    go_wp2_with fail
    refine (up_any _).mono ?_; rintro e w' ⟨rfl, rfl⟩
    go_wp2_with fail
    refine (small_any _ _ hs).mono ?_; rintro e w' ⟨rfl, rfl⟩; rw [H1.out]
    go_wp2_with fail
    refine (great_any _ _ hs).mono ?_; rintro e w' ⟨rfl, rfl⟩; rw [H2.out]
    go_wp2_with fail
    refine (key_any _ _).mono ?_; rintro e w' ⟨rfl, rfl⟩; rw [H3.out]
    go_wp2_with fail
    refine (great_any _ _ (by rw [app_size]; omega)).mono ?_; rintro e w' ⟨rfl, rfl⟩; rw [HM.out, HK.out]
    go_wp2
    all_goals go_ret
    all_goals refine ⟨ret_bool ?_, by repeat (with_reducible first | exact Below.refl _ _ | refine Below.drew ?_ | refine below_drewN ?_ _ | refine below_new ?_ _ | refine below_over ?_ (by assumption))⟩
    all_goals first | rfl | (have hk := HK.out; rw [← E.out] at hk; clear HK HM E; unfold wordB words at hk; simp_all)

set_option maxHeartbeats 2000000 in
theorem apart_early_none (s : ByteArray) (c : Int) (w : World) (hs : s.size ≤ 9223372036854775807) (h : (↑s.size : Int) ≤ 1000) (hc : c < 97 ∨ 97 ≤ c ∧ 122 < c ∨ 97 ≤ c ∧ c ≤ 122 ∧ (20 : Int) ≤ ↑s.size) (H1 : Hid (smallB s.data.toList = false)) (H2 : Hid (greatB s.data.toList = false)) :
    Calls Try.prog 4 #[.string s, .int .u8 c] w fun e w' => e = .returned (.bool true) ∧ Below w.heap.size w w' := by
  rcases hc with h1 | ⟨h1, h2⟩ | ⟨h1, h2, h3⟩
  all_goals
    go_enter Try.func4, Try.ntmps4
    go_wp2_with fail
    refine (up_any _).mono ?_; rintro e w' ⟨rfl, rfl⟩
    go_wp2_with fail
    refine (small_any _ _ hs).mono ?_; rintro e w' ⟨rfl, rfl⟩; rw [H1.out]
    go_wp2_with fail
    refine (great_any _ _ hs).mono ?_; rintro e w' ⟨rfl, rfl⟩; rw [H2.out]
    go_wp2_with fail
    refine (key_any _ _).mono ?_; rintro e w' ⟨rfl, rfl⟩
    go_wp2
    all_goals go_ret
    all_goals exact ⟨rfl, Below.refl _ _⟩

set_option maxHeartbeats 2000000 in
theorem apart_on_none (s : ByteArray) (c : UInt8) (w : World) (hs : s.size ≤ 9223372036854775807) (h : (↑s.size : Int) ≤ 1000) (h1 : 97 ≤ (c.toNat : Int)) (h2 : (c.toNat : Int) ≤ 122) (h3 : (↑s.size : Int) < 20) (H1 : Hid (smallB s.data.toList = false)) (H2 : Hid (greatB s.data.toList = false)) :
    Calls Try.prog 4 #[.string s, .int .u8 c.toNat] w fun e w' => e = .returned (.bool true) ∧ Below w.heap.size w w' := by
  have n1 : ¬ (s.size + 1 > 9223372036854775807) := by omega
  have kc := conv_one c
  go_enter Try.func4, Try.ntmps4
  go_wp2_with fail
  refine (up_any _).mono ?_; rintro e w' ⟨rfl, rfl⟩
  go_wp2_with fail
  refine (small_any _ _ hs).mono ?_; rintro e w' ⟨rfl, rfl⟩; rw [H1.out]
  go_wp2_with fail
  refine (great_any _ _ hs).mono ?_; rintro e w' ⟨rfl, rfl⟩; rw [H2.out]
  go_wp2_with fail
  refine (key_any _ _).mono ?_; rintro e w' ⟨rfl, rfl⟩
  go_wp2
  all_goals go_ret
  all_goals refine ⟨rfl, ?_⟩
  all_goals repeat (with_reducible first | exact Below.refl _ _ | refine Below.drew ?_ | refine below_drewN ?_ _ | refine below_new ?_ _ | refine below_over ?_ (by assumption))

theorem apart_any (s : ByteArray) (c : UInt8) (w : World) (hs : s.size ≤ 9223372036854775807) :
    Calls Try.prog 4 #[.string s, .int .u8 c.toNat] w fun e w' => e = .returned (.bool true) ∧ Below w.heap.size w w' := by
  by_cases h : (1000 : Int) < ↑s.size
  · exact apart_long s _ w h
  have h' : (↑s.size : Int) ≤ 1000 := by omega
  rcases hid_or (smallB s.data.toList) with H1 | H1
  · rcases hid_or (greatB s.data.toList) with H2 | H2
    · by_cases hc : (c.toNat : Int) < 97 ∨ 97 ≤ (c.toNat : Int) ∧ 122 < (c.toNat : Int) ∨ 97 ≤ (c.toNat : Int) ∧ (c.toNat : Int) ≤ 122 ∧ (20 : Int) ≤ ↑s.size
      · exact apart_early_none s _ w hs h' hc H1 H2
      · exact apart_on_none s c w hs h' (by omega) (by omega) (by omega) H1 H2
    · have H3 : Hid (keyB s.data.toList = false) := Lib.hid (by cases hk : keyB s.data.toList; rfl; have := key_not_great hk; rw [H2.out] at this; cases this)
      by_cases hc : (c.toNat : Int) < 97 ∨ 97 ≤ (c.toNat : Int) ∧ 122 < (c.toNat : Int) ∨ 97 ≤ (c.toNat : Int) ∧ (c.toNat : Int) ≤ 122 ∧ (20 : Int) ≤ ↑s.size
      · exact apart_early_great s _ w hs h' hc H1 H2 H3
      · exact apart_on_great s c w hs h' (by omega) (by omega) (by omega) H1 H2 H3
  · have H2 : Hid (greatB s.data.toList = false) := Lib.hid (small_not_great H1.out)
    have H3 : Hid (keyB s.data.toList = false) := Lib.hid (by cases hk : keyB s.data.toList; rfl; have := key_not_small hk; rw [H1.out] at this; cases this)
    by_cases hc : (c.toNat : Int) < 97 ∨ 97 ≤ (c.toNat : Int) ∧ 122 < (c.toNat : Int) ∨ 97 ≤ (c.toNat : Int) ∧ (c.toNat : Int) ≤ 122 ∧ (20 : Int) ≤ ↑s.size
    · exact apart_early_small s _ w hs h' hc H1 H2 H3
    · exact apart_on_small s c w hs h' (by omega) (by omega) (by omega) H1 H2 H3

end Go.Proofs.Ytdmceenplafebaa
