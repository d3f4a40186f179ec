/-
  Walks of package lex: which text of one byte is a letter, a digit, may stand in a word; how long a run of such is; signs; where a line ends.
-/
import Derived.Test.YthlpiiakpneiiaaDoorIdB
import Derived.Test.YthlpiiakpneiiaaDoorLxN
import Derived.Test.YthlpiiakpneiiaaDoorShelf
namespace Go.Proofs.YthlpiiakpneiiaaDoor
open Go.RowKit
open M

theorem ret_nat {a b : Nat} (h : b = a) : Ending.returned (.int .i64 (a : Int)) = .returned (.int .i64 (b : Int)) := by rw [h]
theorem one_le {s : ByteArray} (h : s.size = 1) : s.size ≤ 9223372036854775807 := by omega

set_option maxHeartbeats 400000 in
theorem lower1 (s : ByteArray) (b : Bool) (w : World) (h : s.size = 1) (hb : lowC (bt s.data.toList 0) = b) : Calls Tryd.prog 22 #[.string s] w fun e w' => e = .returned (.bool b) ∧ w = w' := by
  have H := Lib.hid h
  have HB := Lib.hid hb
  clear h hb
  go_enter Tryd.func22, Tryd.ntmps22
  go_wp2_with fail
  refine (small_any _ _ (one_le H.out)).mono ?_; rintro e w' ⟨rfl, rfl⟩
  rw [small_one H.out, HB.out]
  go_wp2
  go_ret
  exact ⟨rfl, rfl⟩
set_option maxHeartbeats 400000 in
theorem upper1 (s : ByteArray) (b : Bool) (w : World) (h : s.size = 1) (hb : upC (bt s.data.toList 0) = b) : Calls Tryd.prog 25 #[.string s] w fun e w' => e = .returned (.bool b) ∧ w = w' := by
  have H := Lib.hid h
  have HB := Lib.hid hb
  clear h hb
  go_enter Tryd.func25, Tryd.ntmps25
  go_wp2_with fail
  refine (great_any _ _ (one_le H.out)).mono ?_; rintro e w' ⟨rfl, rfl⟩
  rw [great_one H.out, HB.out]
  go_wp2
  go_ret
  exact ⟨rfl, rfl⟩
set_option maxHeartbeats 400000 in
theorem digit_lit (c : UInt8) (w : World) : Calls Tryd.prog 26 #[.string ⟨#[c]⟩] w fun e w' => e = .returned (.bool (digC (c.toNat : Int))) ∧ w = w' := by
  have E1 : (⟨#[c]⟩ : ByteArray).toList = [c] := by rw [Lib.toList_data]
  have E2 : (⟨#[48]⟩ : ByteArray).toList = [48] := by rw [Lib.toList_data]
  have E3 : (⟨#[57]⟩ : ByteArray).toList = [57] := by rw [Lib.toList_data]
  go_enter Tryd.func26, Tryd.ntmps26
  go_wp2
  all_goals go_ret
  all_goals refine ⟨ret_bool ?_, rfl⟩
  all_goals (unfold digC; rw [Bool.eq_iff_iff]; simp_all [Op.bytesLess, UInt8.lt_iff_toNat_lt, ← UInt8.toNat_inj]; try omega)
theorem digit1 (s : ByteArray) (b : Bool) (w : World) (h : s.size = 1) (hb : digC (bt s.data.toList 0) = b) : Calls Tryd.prog 26 #[.string s] w fun e w' => e = .returned (.bool b) ∧ w = w' := by
  obtain ⟨c, rfl⟩ := arr_one h
  have := digit_lit c w
  rw [← bt_one, hb] at this
  exact this

theorem any_parts {n : Int} {b : Bool} (h : anyC n = b) : (lowC n || (upC n || digC n)) = b := by
  rw [← h]; unfold anyC; rw [Bool.or_assoc]
set_option maxHeartbeats 400000 in
theorem inWord1 (s : ByteArray) (b : Bool) (w : World) (h : s.size = 1) (hb : anyC (bt s.data.toList 0) = b) : Calls Tryd.prog 24 #[.string s] w fun e w' => e = .returned (.bool b) ∧ w = w' := by
  have H := Lib.hid h
  have hb' := any_parts hb
  clear h hb
  rcases hid_or (lowC (bt s.data.toList 0)) with h1 | h1
  · rcases hid_or (upC (bt s.data.toList 0)) with h2 | h2
    · have HB : Hid (digC (bt s.data.toList 0) = b) := by
        refine Lib.hid ?_
        rw [h1.out, h2.out] at hb'; exact hb'
      clear hb'
      go_enter Tryd.func24, Tryd.ntmps24
      go_wp2_with fail
      refine (lower1 _ _ _ H.out h1.out).mono ?_; rintro e w' ⟨rfl, rfl⟩
      go_wp2_with fail
      refine (upper1 _ _ _ H.out h2.out).mono ?_; rintro e w' ⟨rfl, rfl⟩
      go_wp2_with fail
      refine (digit1 _ _ _ H.out HB.out).mono ?_; rintro e w' ⟨rfl, rfl⟩
      go_wp2
      go_ret
      exact ⟨rfl, rfl⟩
    · obtain rfl : true = b := by rw [h1.out, h2.out] at hb'; exact hb'
      go_enter Tryd.func24, Tryd.ntmps24
      go_wp2_with fail
      refine (lower1 _ _ _ H.out h1.out).mono ?_; rintro e w' ⟨rfl, rfl⟩
      go_wp2_with fail
      refine (upper1 _ _ _ H.out h2.out).mono ?_; rintro e w' ⟨rfl, rfl⟩
      go_wp2
      go_ret
      exact ⟨rfl, rfl⟩
  · obtain rfl : true = b := by rw [h1.out] at hb'; exact hb'
    go_enter Tryd.func24, Tryd.ntmps24
    go_wp2_with fail
    refine (lower1 _ _ _ H.out h1.out).mono ?_; rintro e w' ⟨rfl, rfl⟩
    go_wp2
    go_ret
    exact ⟨rfl, rfl⟩

set_option maxHeartbeats 1000000 in
theorem span_word (s : ByteArray) (w : World) (hs : s.size ≤ 9223372036854775806) :
    Calls Tryd.prog 23 #[.string s, .func (.func 24) #[] #[]] w fun e w' => e = .returned (.int .i64 (stop anyC s.data.toList 0 : Nat)) ∧ w = w' := by
  go_enter Tryd.func23, Tryd.ntmps23
  go_wp2
  go_loop [5] (fun i => ∃ k : Nat, k ≤ s.size ∧ i = .int .i64 k ∧ Hid (∀ j, 0 ≤ j → j < k → anyC (bt s.data.toList j) = true)) (fun i => s.size - (intOf i).toNat)
  case atStart => exact ⟨0, by omega, rfl, Lib.hid (fun j a b => by omega)⟩
  case round =>
    obtain ⟨k, hk, rfl, HK⟩ := hrel
    by_cases hlt : k < s.size
    · have PS := Lib.hid (piece_size s k hlt)
      have PB := Lib.hid (piece_bt s k)
      rcases hid_or (anyC (bt s.data.toList k)) with H | H
      · have R : Hid (stop anyC s.data.toList 0 = k) := Lib.hid (stop_eq _ _ _ _ (by omega) (by simp; omega) HK.out (.inr H.out))
        go_wp2_with (go_at_call 24; refine (inWord1 _ false _ PS.out (by rw [PB.out]; exact H.out)).mono ?_; rintro e w' ⟨rfl, rfl⟩)
        go_ret
        exact ⟨ret_nat R.out, rfl⟩
      · go_wp2_with (go_at_call 24; refine (inWord1 _ true _ PS.out (by rw [PB.out]; exact H.out)).mono ?_; rintro e w' ⟨rfl, rfl⟩)
        go_round
        case rel => exact ⟨k + 1, by omega, by go_num, Lib.hid (upto_step (P := fun j => anyC (bt s.data.toList j)) HK.out H.out)⟩
        case measure => simp [intOf]; omega
    · have R : Hid (stop anyC s.data.toList 0 = k) := Lib.hid (stop_eq _ _ _ _ (by omega) (by simp; omega) HK.out (.inl (by simp; omega)))
      go_wp2
      go_ret
      exact ⟨ret_nat R.out, rfl⟩
set_option maxHeartbeats 1000000 in
theorem span_digit (s : ByteArray) (w : World) (hs : s.size ≤ 9223372036854775806) :
    Calls Tryd.prog 23 #[.string s, .func (.func 26) #[] #[]] w fun e w' => e = .returned (.int .i64 (stop digC s.data.toList 0 : Nat)) ∧ w = w' := by
  go_enter Tryd.func23, Tryd.ntmps23
  go_wp2
  go_loop [5] (fun i => ∃ k : Nat, k ≤ s.size ∧ i = .int .i64 k ∧ Hid (∀ j, 0 ≤ j → j < k → digC (bt s.data.toList j) = true)) (fun i => s.size - (intOf i).toNat)
  case atStart => exact ⟨0, by omega, rfl, Lib.hid (fun j a b => by omega)⟩
  case round =>
    obtain ⟨k, hk, rfl, HK⟩ := hrel
    by_cases hlt : k < s.size
    · have PS := Lib.hid (piece_size s k hlt)
      have PB := Lib.hid (piece_bt s k)
      rcases hid_or (digC (bt s.data.toList k)) with H | H
      · have R : Hid (stop digC s.data.toList 0 = k) := Lib.hid (stop_eq _ _ _ _ (by omega) (by simp; omega) HK.out (.inr H.out))
        go_wp2_with (go_at_call 26; refine (digit1 _ false _ PS.out (by rw [PB.out]; exact H.out)).mono ?_; rintro e w' ⟨rfl, rfl⟩)
        go_ret
        exact ⟨ret_nat R.out, rfl⟩
      · go_wp2_with (go_at_call 26; refine (digit1 _ true _ PS.out (by rw [PB.out]; exact H.out)).mono ?_; rintro e w' ⟨rfl, rfl⟩)
        go_round
        case rel => exact ⟨k + 1, by omega, by go_num, Lib.hid (upto_step (P := fun j => digC (bt s.data.toList j)) HK.out H.out)⟩
        case measure => simp [intOf]; omega
    · have R : Hid (stop digC s.data.toList 0 = k) := Lib.hid (stop_eq _ _ _ _ (by omega) (by simp; omega) HK.out (.inl (by simp; omega)))
      go_wp2
      go_ret
      exact ⟨ret_nat R.out, rfl⟩

set_option maxHeartbeats 1000000 in
theorem lineEnd_any (s : ByteArray) (k : Nat) (w : World) (hs : s.size ≤ 9223372036854775806) (hk : k ≤ s.size) :
    Calls Tryd.prog 21 #[.string s, .int .i64 k] w fun e w' => e = .returned (.int .i64 (stop lineC s.data.toList k : Nat)) ∧ w = w' := by
  have TL := Lib.hid (tail_list s k)
  rcases index_cases (s.data.toList.drop k) 10 with h | ⟨o, h⟩
  · have R := Lib.hid (line_none _ _ (by simp; omega) h)
    have H := Lib.hid h
    clear h
    have LS := Lib.hid (len_size s)
    rw [R.out, LS.out]
    clear R LS
    go_enter Tryd.func21, Tryd.ntmps21
    go_wp2_with (go_at_call 36; refine (Tryd.strings_IndexByte _ _ _).mono ?_; rintro e w' ⟨rfl, rfl⟩; rw [TL.out, show (10 : Int).toNat.toUInt8 = 10 from rfl, H.out])
    go_ret
    exact ⟨rfl, rfl⟩
  · have R := Lib.hid (line_some _ _ _ h).1
    have b := (line_some _ _ _ h).2
    have LS := len_size s
    have b' : k + o < s.size := by omega
    have H := Lib.hid h
    clear h b LS
    rw [R.out]
    clear R
    go_enter Tryd.func21, Tryd.ntmps21
    go_wp2_with (go_at_call 36; refine (Tryd.strings_IndexByte _ _ _).mono ?_; rintro e w' ⟨rfl, rfl⟩; rw [TL.out, show (10 : Int).toNat.toUInt8 = 10 from rfl, H.out])
    go_ret
    exact ⟨by go_num, rfl⟩

end Go.Proofs.YthlpiiakpneiiaaDoor
