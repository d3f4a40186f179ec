/-
  Several texts in one.
-/
import Derived.Test.YteecgiebimdbhaaGreatDoorK06
import Derived.Laws.AppendOwn
set_option maxHeartbeats 4000000
namespace Go.Proofs.YteecgiebimdbhaaGreatDoor
open Go.RowKit
open M
theorem ret_nat {a b : Nat} (h : b = a) : Ending.returned (.int .i64 (a : Int)) = .returned (.int .i64 (b : Int)) := by rw [h]
theorem one_le {s : ByteArray} (h : s.size = 1) : s.size <= 9223372036854775807 := by omega
theorem lower1 (s : ByteArray) (b : Bool) (w : World) (h : s.size = 1) (hb : lowC (bt s.data.toList 0) = b) : Calls Tryz.prog 143 #[.string s] w fun e w' => e = .returned (.bool b) /\ w = w' := by
  have H := hZ h;have HB := hZ hb;clear h hb;go_enter Tryz.func143, Tryz.ntmps143
  go_wp2_with fail
  refine (small_any _ _ (one_le H.out)).mono ?_; rintro e w' ⟨rfl, rfl⟩
  rw [small_one H.out, HB.out];go_wp2
  go_ret;exact ⟨rfl, rfl⟩
theorem upper1 (s : ByteArray) (b : Bool) (w : World) (h : s.size = 1) (hb : upC (bt s.data.toList 0) = b) : Calls Tryz.prog 146 #[.string s] w fun e w' => e = .returned (.bool b) /\ w = w' := by
  have H := hZ h;have HB := hZ hb;clear h hb;go_enter Tryz.func146, Tryz.ntmps146
  go_wp2_with fail
  refine (great_any _ _ (one_le H.out)).mono ?_; rintro e w' ⟨rfl, rfl⟩
  rw [great_one H.out, HB.out];go_wp2
  go_ret;exact ⟨rfl, rfl⟩
theorem digit_lit (c : UInt8) (w : World) : Calls Tryz.prog 147 #[.string ⟨#[c]⟩] w fun e w' => e = .returned (.bool (digC (c.toNat : Int))) /\ w = w' := by
  have E1 : (⟨#[c]⟩ : ByteArray).toList = [c] := by rw [Lib.toList_data]
  have E2 : (⟨#[48]⟩ : ByteArray).toList = [48] := by rw [Lib.toList_data]
  have E3 : (⟨#[57]⟩ : ByteArray).toList = [57] := by rw [Lib.toList_data]
  go_enter Tryz.func147, Tryz.ntmps147
  go_wp2
  all_goals go_ret
  all_goals refine ⟨ret_bool ?_, rfl⟩
  all_goals (unfold digC; rw [Bool.eq_iff_iff]; simp_all [Op.bytesLess, UInt8.lt_iff_toNat_lt, <- UInt8.toNat_inj]; try omega)
theorem digit1 (s : ByteArray) (b : Bool) (w : World) (h : s.size = 1) (hb : digC (bt s.data.toList 0) = b) : Calls Tryz.prog 147 #[.string s] w fun e w' => e = .returned (.bool b) /\ w = w' := by
  obtain ⟨c, rfl⟩ := arr_one h;have := digit_lit c w
  rw [<- bt_one, hb] at this;exact this
theorem any_parts {n : Int} {b : Bool} (h : anyC n = b) : (lowC n || (upC n || digC n)) = b := by
  rw [<- h]; unfold anyC; rw [Bool.or_assoc]
theorem inWord1 (s : ByteArray) (b : Bool) (w : World) (h : s.size = 1) (hb : anyC (bt s.data.toList 0) = b) : Calls Tryz.prog 145 #[.string s] w fun e w' => e = .returned (.bool b) /\ w = w' := by
  have H := hZ h;have hb' := any_parts hb
  clear h hb;rcases hid_or (lowC (bt s.data.toList 0)) with h1 | h1
  · rcases hid_or (upC (bt s.data.toList 0)) with h2 | h2
    · have HB : Hid (digC (bt s.data.toList 0) = b) := by
        refine hZ ?_;rw [h1.out, h2.out] at hb'; exact hb'
      clear hb';go_enter Tryz.func145, Tryz.ntmps145
      go_wp2_with fail
      refine (lower1 _ _ _ H.out h1.out).mono ?_; rintro e w' ⟨rfl, rfl⟩
      go_wp2_with fail
      refine (upper1 _ _ _ H.out h2.out).mono ?_; rintro e w' ⟨rfl, rfl⟩
      go_wp2_with fail
      refine (digit1 _ _ _ H.out HB.out).mono ?_; rintro e w' ⟨rfl, rfl⟩
      go_wp2
      go_ret;exact ⟨rfl, rfl⟩
    · obtain rfl : true = b := by rw [h1.out, h2.out] at hb'; exact hb'
      go_enter Tryz.func145, Tryz.ntmps145
      go_wp2_with fail
      refine (lower1 _ _ _ H.out h1.out).mono ?_; rintro e w' ⟨rfl, rfl⟩
      go_wp2_with fail
      refine (upper1 _ _ _ H.out h2.out).mono ?_; rintro e w' ⟨rfl, rfl⟩
      go_wp2
      go_ret;exact ⟨rfl, rfl⟩
  · obtain rfl : true = b := by rw [h1.out] at hb'; exact hb'
    go_enter Tryz.func145, Tryz.ntmps145
    go_wp2_with fail
    refine (lower1 _ _ _ H.out h1.out).mono ?_; rintro e w' ⟨rfl, rfl⟩
    go_wp2
    go_ret;exact ⟨rfl, rfl⟩
theorem span_word (s : ByteArray) (w : World) (hs : s.size <= 9223372036854775806) :
    Calls Tryz.prog 144 #[.string s, .func (.func 145) #[] #[]] w fun e w' => e = .returned (.int .i64 (stop anyC s.data.toList 0 : Nat)) /\ w = w' := by
  go_enter Tryz.func144, Tryz.ntmps144
  go_wp2
  go_loop [5] (fun i => ∃ k : Nat, k <= s.size /\ i = .int .i64 k /\ Hid (∀ j, 0 <= j -> j < k -> anyC (bt s.data.toList j) = true)) (fun i => s.size - (intOf i).toNat)
  case atStart => exact ⟨0, by omega, rfl, hZ (fun j a b => by omega)⟩
  case round =>
    obtain ⟨k, hk, rfl, HK⟩ := hrel;by_cases hlt : k < s.size
    · have PS := hZ (piece_size s k hlt)
      have PB := hZ (piece_bt s k);rcases hid_or (anyC (bt s.data.toList k)) with H | H
      · have R : Hid (stop anyC s.data.toList 0 = k) := hZ (stop_eq _ _ _ _ (by omega) (by simp; omega) HK.out (.inr H.out))
        go_wp2_with (go_at_call 145; refine (inWord1 _ false _ PS.out (by rw [PB.out]; exact H.out)).mono ?_; rintro e w' ⟨rfl, rfl⟩)
        go_ret;exact ⟨ret_nat R.out, rfl⟩
      · go_wp2_with (go_at_call 145; refine (inWord1 _ true _ PS.out (by rw [PB.out]; exact H.out)).mono ?_; rintro e w' ⟨rfl, rfl⟩)
        go_round
        case rel => exact ⟨k + 1, by omega, by go_num, hZ (upto_step (P := fun j => anyC (bt s.data.toList j)) HK.out H.out)⟩
        case measure => simp [intOf]; omega
    · have R : Hid (stop anyC s.data.toList 0 = k) := hZ (stop_eq _ _ _ _ (by omega) (by simp; omega) HK.out (.inl (by simp; omega)))
      go_wp2
      go_ret;exact ⟨ret_nat R.out, rfl⟩
theorem span_digit (s : ByteArray) (w : World) (hs : s.size <= 9223372036854775806) :
    Calls Tryz.prog 144 #[.string s, .func (.func 147) #[] #[]] w fun e w' => e = .returned (.int .i64 (stop digC s.data.toList 0 : Nat)) /\ w = w' := by
  go_enter Tryz.func144, Tryz.ntmps144
  go_wp2
  go_loop [5] (fun i => ∃ k : Nat, k <= s.size /\ i = .int .i64 k /\ Hid (∀ j, 0 <= j -> j < k -> digC (bt s.data.toList j) = true)) (fun i => s.size - (intOf i).toNat)
  case atStart => exact ⟨0, by omega, rfl, hZ (fun j a b => by omega)⟩
  case round =>
    obtain ⟨k, hk, rfl, HK⟩ := hrel;by_cases hlt : k < s.size
    · have PS := hZ (piece_size s k hlt)
      have PB := hZ (piece_bt s k);rcases hid_or (digC (bt s.data.toList k)) with H | H
      · have R : Hid (stop digC s.data.toList 0 = k) := hZ (stop_eq _ _ _ _ (by omega) (by simp; omega) HK.out (.inr H.out))
        go_wp2_with (go_at_call 147; refine (digit1 _ false _ PS.out (by rw [PB.out]; exact H.out)).mono ?_; rintro e w' ⟨rfl, rfl⟩)
        go_ret;exact ⟨ret_nat R.out, rfl⟩
      · go_wp2_with (go_at_call 147; refine (digit1 _ true _ PS.out (by rw [PB.out]; exact H.out)).mono ?_; rintro e w' ⟨rfl, rfl⟩)
        go_round
        case rel => exact ⟨k + 1, by omega, by go_num, hZ (upto_step (P := fun j => digC (bt s.data.toList j)) HK.out H.out)⟩
        case measure => simp [intOf]; omega
    · have R : Hid (stop digC s.data.toList 0 = k) := hZ (stop_eq _ _ _ _ (by omega) (by simp; omega) HK.out (.inl (by simp; omega)))
      go_wp2
      go_ret;exact ⟨ret_nat R.out, rfl⟩
theorem lineEnd_any (s : ByteArray) (k : Nat) (w : World) (hs : s.size <= 9223372036854775806) (hk : k <= s.size) :
    Calls Tryz.prog 142 #[.string s, .int .i64 k] w fun e w' => e = .returned (.int .i64 (stop lineC s.data.toList k : Nat)) /\ w = w' := by
  have TL := hZ (tail_list s k);rcases index_cases (s.data.toList.drop k) 10 with h | ⟨o, h⟩
  · have R := hZ (line_none _ _ (by simp; omega) h)
    have H := hZ h;clear h;have LS := hZ (len_size s);rw [R.out, LS.out];clear R LS;go_enter Tryz.func142, Tryz.ntmps142
    go_wp2_with (go_at_call 190; refine (Tryz.strings_IndexByte _ _ _).mono ?_; rintro e w' ⟨rfl, rfl⟩; rw [TL.out, show (10 : Int).toNat.toUInt8 = 10 from rfl, H.out])
    go_ret;exact ⟨rfl, rfl⟩
  · have R := hZ (line_some _ _ _ h).1
    have b := (line_some _ _ _ h).2;have LS := len_size s;have b' : k + o < s.size := by omega
    have H := hZ h;clear h b LS;rw [R.out];clear R;go_enter Tryz.func142, Tryz.ntmps142
    go_wp2_with (go_at_call 190; refine (Tryz.strings_IndexByte _ _ _).mono ?_; rintro e w' ⟨rfl, rfl⟩; rw [TL.out, show (10 : Int).toNat.toUInt8 = 10 from rfl, H.out])
    go_ret;exact ⟨by go_num, rfl⟩
def signN (a b : Int) : Nat := if twoC a b = true then 2 else if signC a = true then 1 else 0
theorem two_parts (a b : Int) : twoC a b = ((a == 45 && b == 62) || (a == 46 && b == 46)) := rfl
theorem dash_gt (s : ByteArray) : Lib.hasPrefix s.data.toList (⟨#[45, 62]⟩ : ByteArray).data.toList = (bt s.data.toList 0 == 45 && bt s.data.toList 1 == 62) := pre_two 45 62 (by decide) (by decide) _
theorem dot_dot (s : ByteArray) : Lib.hasPrefix s.data.toList (⟨#[46, 46]⟩ : ByteArray).data.toList = (bt s.data.toList 0 == 46 && bt s.data.toList 1 == 46) := pre_two 46 46 (by decide) (by decide) _
theorem sign_ix (s : ByteArray) (h : 0 < s.size) : signC (bt s.data.toList 0) = decide ((0 : Int) <= Lib.indexByte ([123, 125, 40, 41, 91, 93, 60, 62, 44, 58, 46, 61] : List UInt8) ((s[0].toNat : Int)).toNat.toUInt8) := by
 rw [<- Lib.contains_iff_indexByte, <- bt_eq s 0 h, <- sign_iff]
 congr 1
 simp
theorem sign_any (s : ByteArray) (w : World) (h : 0 < s.size) :
  Calls Tryz.prog 148 #[.string s] w fun e w' => e = .returned (.int .i64 (signN (bt s.data.toList 0) (bt s.data.toList 1) : Nat)) /\ w = w' := by
 have D1 := hZ (dash_gt s)
 have D2 := hZ (dot_dot s)
 rcases hid_or (bt s.data.toList 0 == 45 && bt s.data.toList 1 == 62) with h1 | h1
 ·rcases hid_or (bt s.data.toList 0 == 46 && bt s.data.toList 1 == 46) with h2 | h2
  ·have S := hZ (sign_ix s h)
   have T : Hid (twoC (bt s.data.toList 0) (bt s.data.toList 1) = false) := hZ (by rw [two_parts, h1.out, h2.out]; rfl);rcases hid_or (signC (bt s.data.toList 0)) with h3 | h3
   ·have R : Hid (signN (bt s.data.toList 0) (bt s.data.toList 1) = 0) := hZ (by unfold signN; rw [T.out, h3.out]; rfl)
    have B : ¬ (0 : Int) <= Lib.indexByte ([123, 125, 40, 41, 91, 93, 60, 62, 44, 58, 46, 61] : List UInt8) ((s[0].toNat : Int)).toNat.toUInt8 := by
     have := S.out; rw [h3.out] at this; simpa using this.symm
    generalize hz : Lib.indexByte ([123, 125, 40, 41, 91, 93, 60, 62, 44, 58, 46, 61] : List UInt8) ((s[0].toNat : Int)).toNat.toUInt8 = z at B
    have HZ := hZ hz;clear hz S;rw [R.out];go_enter Tryz.func148, Tryz.ntmps148
    go_wp2_with fail
    refine (Tryz.strings_HasPrefix _ _ _).mono ?_; rintro e w' ⟨rfl, rfl⟩; rw [D1.out, h1.out]
    go_wp2_with fail
    refine (Tryz.strings_HasPrefix _ _ _).mono ?_; rintro e w' ⟨rfl, rfl⟩; rw [D2.out, h2.out]
    go_wp2_with fail
    refine (Tryz.strings_IndexByte _ _ _).mono ?_; rintro e w' ⟨rfl, rfl⟩
    simp only [HZ.out];go_wp2
    go_ret;exact ⟨rfl, rfl⟩
   ·have R : Hid (signN (bt s.data.toList 0) (bt s.data.toList 1) = 1) := hZ (by unfold signN; rw [T.out, h3.out]; rfl)
    have B : (0 : Int) <= Lib.indexByte ([123, 125, 40, 41, 91, 93, 60, 62, 44, 58, 46, 61] : List UInt8) ((s[0].toNat : Int)).toNat.toUInt8 := by
     have := S.out; rw [h3.out] at this; simpa using this.symm
    generalize hz : Lib.indexByte ([123, 125, 40, 41, 91, 93, 60, 62, 44, 58, 46, 61] : List UInt8) ((s[0].toNat : Int)).toNat.toUInt8 = z at B
    have HZ := hZ hz;clear hz S;rw [R.out];go_enter Tryz.func148, Tryz.ntmps148
    go_wp2_with fail
    refine (Tryz.strings_HasPrefix _ _ _).mono ?_; rintro e w' ⟨rfl, rfl⟩; rw [D1.out, h1.out]
    go_wp2_with fail
    refine (Tryz.strings_HasPrefix _ _ _).mono ?_; rintro e w' ⟨rfl, rfl⟩; rw [D2.out, h2.out]
    go_wp2_with fail
    refine (Tryz.strings_IndexByte _ _ _).mono ?_; rintro e w' ⟨rfl, rfl⟩
    simp only [HZ.out];go_wp2
    go_ret;exact ⟨rfl, rfl⟩
  ·have R : Hid (signN (bt s.data.toList 0) (bt s.data.toList 1) = 2) := hZ (by unfold signN; rw [two_parts, h1.out, h2.out]; rfl)
   rw [R.out];go_enter Tryz.func148, Tryz.ntmps148
   go_wp2_with fail
   refine (Tryz.strings_HasPrefix _ _ _).mono ?_; rintro e w' ⟨rfl, rfl⟩; rw [D1.out, h1.out]
   go_wp2_with fail
   refine (Tryz.strings_HasPrefix _ _ _).mono ?_; rintro e w' ⟨rfl, rfl⟩; rw [D2.out, h2.out]
   go_wp2
   go_ret;exact ⟨rfl, rfl⟩
 ·have R : Hid (signN (bt s.data.toList 0) (bt s.data.toList 1) = 2) := hZ (by unfold signN; rw [two_parts, h1.out]; rfl)
  rw [R.out];go_enter Tryz.func148, Tryz.ntmps148
  go_wp2_with fail
  refine (Tryz.strings_HasPrefix _ _ _).mono ?_; rintro e w' ⟨rfl, rfl⟩; rw [D1.out, h1.out]
  go_wp2
  go_ret;exact ⟨rfl, rfl⟩
def firstK (m : List UInt8) : Nat := if (item m 0).1 = 5 then 4 else (item m 0).1
def firstN (m : List UInt8) : Nat := if (item m 0).1 = 5 then 0 else (item m 0).2
theorem low_not {n : Int} (h : lowC n = true) : blankC n = false /\ (n = 35) = False := by
 unfold lowC blankC at *
 simp at *; omega
theorem up_not {n : Int} (h : upC n = true) : blankC n = false /\ (n = 35) = False := by
 unfold upC blankC at *
 simp at *; omega
theorem dig_not {n : Int} (h : digC n = true) : blankC n = false /\ (n = 35) = False := by
 unfold digC blankC at *
 simp at *; omega
theorem any_of_low {n : Int} (h : lowC n = true) : anyC n = true := by unfold anyC; rw [h]; rfl
theorem any_of_up {n : Int} (h : upC n = true) : anyC n = true := by unfold anyC; rw [h]; simp
theorem first_low (m : List UInt8) (hl : 0 < m.length) (h : lowC (bt m 0) = true) : firstK m = 1 /\ firstN m = stop anyC m 0 := by
 obtain ⟨a, b⟩ := low_not h
 unfold firstK firstN item
 simp [a, b, h, stop_step anyC m 0 hl (any_of_low h)]
theorem first_up (m : List UInt8) (hl : 0 < m.length) (h1 : lowC (bt m 0) = false) (h : upC (bt m 0) = true) : firstK m = 2 /\ firstN m = stop anyC m 0 := by
 obtain ⟨a, b⟩ := up_not h
 unfold firstK firstN item
 simp [a, b, h, h1, stop_step anyC m 0 hl (any_of_up h)]
theorem first_dig (m : List UInt8) (hl : 0 < m.length) (h1 : lowC (bt m 0) = false) (h2 : upC (bt m 0) = false) (h : digC (bt m 0) = true) : firstK m = 3 /\ firstN m = stop digC m 0 := by
 obtain ⟨a, b⟩ := dig_not h
 unfold firstK firstN item
 simp [a, b, h, h1, h2, stop_step digC m 0 hl h]
theorem first_sign (m : List UInt8) (h0 : (item m 0).1 ≠ 0) (h1 : lowC (bt m 0) = false) (h2 : upC (bt m 0) = false) (h : digC (bt m 0) = false) : firstK m = 4 /\ firstN m = signN (bt m 0) (bt m 1) := by
 unfold firstK firstN signN item at *
 by_cases a : blankC (bt m 0) = true
 ·simp [a] at h0
 by_cases b : bt m 0 = 35
 ·rw [b] at h0; simp [blankC] at h0
 by_cases c : twoC (bt m 0) (bt m 1) = true
 ·simp [a, b, h1, h2, h, c]
 by_cases d : signC (bt m 0) = true
 ·simp [a, b, h1, h2, h, c, d]
 ·simp [a, b, h1, h2, h, c, d]
theorem head_size (s : ByteArray) (h : 0 < s.size) : (s.extract 0 1).size = 1 := piece_size s 0 h
theorem head_bt (s : ByteArray) : bt (s.extract 0 1).data.toList 0 = bt s.data.toList 0 := piece_bt s 0
theorem first_any (s : ByteArray) (w : World) (hs : s.size <= 9223372036854775806) (h : 0 < s.size) (h0 : (item s.data.toList 0).1 ≠ 0) :
  Calls Tryz.prog 103 #[.string s] w fun e w' => e = .returned (.tuple #[.int .i64 (firstK s.data.toList : Nat), .int .i64 (firstN s.data.toList : Nat)]) /\ w = w' := by
 have HS := hZ (head_size s h)
 have HB := hZ (head_bt s)
 have hl : 0 < s.data.toList.length := by rw [len_size]; exact h
 have H0 := hZ h0
 clear h0
 have h' : 1 <= s.size := h
 rcases hid_or (lowC (bt s.data.toList 0)) with h1 | h1
 ·rcases hid_or (upC (bt s.data.toList 0)) with h2 | h2
  ·rcases hid_or (digC (bt s.data.toList 0)) with h3 | h3
   ·have R := hZ (first_sign _ H0.out h1.out h2.out h3.out)
    rw [R.out.1, R.out.2];clear hl;go_enter Tryz.func103, Tryz.ntmps103
    go_wp2_with fail
    refine (lower1 _ false _ HS.out (by rw [HB.out]; exact h1.out)).mono ?_; rintro e w' ⟨rfl, rfl⟩
    go_wp2_with fail
    refine (upper1 _ false _ HS.out (by rw [HB.out]; exact h2.out)).mono ?_; rintro e w' ⟨rfl, rfl⟩
    go_wp2_with fail
    refine (digit1 _ false _ HS.out (by rw [HB.out]; exact h3.out)).mono ?_; rintro e w' ⟨rfl, rfl⟩
    go_wp2_with fail
    refine (sign_any _ _ h).mono ?_; rintro e w' ⟨rfl, rfl⟩
    go_wp2
    go_ret2
    exact ⟨rfl, rfl⟩
   ·have R := hZ (first_dig _ hl h1.out h2.out h3.out)
    rw [R.out.1, R.out.2];clear hl;go_enter Tryz.func103, Tryz.ntmps103
    go_wp2_with fail
    refine (lower1 _ false _ HS.out (by rw [HB.out]; exact h1.out)).mono ?_; rintro e w' ⟨rfl, rfl⟩
    go_wp2_with fail
    refine (upper1 _ false _ HS.out (by rw [HB.out]; exact h2.out)).mono ?_; rintro e w' ⟨rfl, rfl⟩
    go_wp2_with fail
    refine (digit1 _ true _ HS.out (by rw [HB.out]; exact h3.out)).mono ?_; rintro e w' ⟨rfl, rfl⟩
    go_wp2_with fail
    refine (span_digit _ _ hs).mono ?_; rintro e w' ⟨rfl, rfl⟩
    go_wp2
    go_ret2
    exact ⟨rfl, rfl⟩
  ·have R := hZ (first_up _ hl h1.out h2.out)
   rw [R.out.1, R.out.2];clear hl;go_enter Tryz.func103, Tryz.ntmps103
   go_wp2_with fail
   refine (lower1 _ false _ HS.out (by rw [HB.out]; exact h1.out)).mono ?_; rintro e w' ⟨rfl, rfl⟩
   go_wp2_with fail
   refine (upper1 _ true _ HS.out (by rw [HB.out]; exact h2.out)).mono ?_; rintro e w' ⟨rfl, rfl⟩
   go_wp2_with fail
   refine (span_word _ _ hs).mono ?_; rintro e w' ⟨rfl, rfl⟩
   go_wp2
   go_ret2
   exact ⟨rfl, rfl⟩
 ·have R := hZ (first_low _ hl h1.out)
  rw [R.out.1, R.out.2];clear hl;go_enter Tryz.func103, Tryz.ntmps103
  go_wp2_with fail
  refine (lower1 _ true _ HS.out (by rw [HB.out]; exact h1.out)).mono ?_; rintro e w' ⟨rfl, rfl⟩
  go_wp2_with fail
  refine (span_word _ _ hs).mono ?_; rintro e w' ⟨rfl, rfl⟩
  go_wp2
  go_ret2
  exact ⟨rfl, rfl⟩
def Passed (s : ByteArray) (i k : Nat) : Prop := ∀ acc, fin s i acc = fin s k acc
def PassPost (s : ByteArray) (i : Nat) (w : World) (e : Ending) (w' : World) : Prop :=
 ∃ k : Nat, e = .returned (.int .i64 k) /\ w = w' /\ i <= k /\ k <= s.size /\ Passed s i k /\ (k < s.size -> (item s.data.toList k).1 ≠ 0)
theorem item_blank (l : List UInt8) (k : Nat) (x : Int) (e : bt l k = x) (h : x = 32 \/ x = 9 \/ x = 10) : item l k = (0, k + 1) := by
 unfold item blankC
 subst e
 rcases h with h | h | h <;> simp [h]
theorem item_rem (l : List UInt8) (k : Nat) (h : bt l k = 35) : item l k = (0, stop lineC l (k + 1)) := by
 unfold item blankC
 simp [h]
theorem item_rem' (l : List UInt8) (k : Nat) (hk : k < l.length) (h : bt l k = 35) : item l k = (0, stop lineC l k) := by
 rw [item_rem l k h, stop_step lineC l k hk (by rw [h]; rfl)]
theorem item_not (l : List UInt8) (k : Nat) (x : Int) (e : bt l k = x) (h1 : x ≠ 32) (h2 : x ≠ 9) (h3 : x ≠ 10) (h4 : x ≠ 35) : (item l k).1 ≠ 0 := by
 unfold item blankC
 subst e
 simp only [h4]
 (repeat' split) <;> simp_all
theorem lxpass_any (s : ByteArray) (i : Nat) (w : World) (hs : s.size <= 9223372036854775806) (hi : i <= s.size) :
  Calls Tryz.prog 102 #[.string s, .int .i64 i] w (PassPost s i w) := by
 go_enter Tryz.func102, Tryz.ntmps102
 go_wp2
 go_loop [1] (fun i' => ∃ k : Nat, i <= k /\ k <= s.size /\ i' = .int .i64 k /\ Hid (Passed s i k)) (fun i' => s.size - (intOf i').toNat)
 case atStart => exact ⟨i, by omega, by omega, rfl, hZ (fun _ => rfl)⟩
 case round =>
  obtain ⟨k, hik, hk, rfl, HP⟩ := hrel;by_cases hlt : k < s.size
  ·have BK := hZ (bt_eq s k hlt)
   have sl := stop_le lineC s.data.toList k (by simp; omega);have sg := stop_ge lineC s.data.toList k;have LS := len_size s;by_cases h35 : (s[k].toNat : Int) = 35
   ·have R := hZ (item_rem' s.data.toList k (by simpa using hlt) (BK.out.symm.trans h35))
    have g := item_gt s.data.toList k (by rw [R.out]; simp);rw [R.out] at g;have hle : stop lineC s.data.toList k <= s.size := by omega
    have g' : k < stop lineC s.data.toList k := g
    clear sl sg LS g;have a1 : ((s[k].toNat : Int) == 32) = false := by rw [h35]; rfl
    have a2 : ((s[k].toNat : Int) == 9) = false := by rw [h35]; rfl
    have a3 : ((s[k].toNat : Int) == 10) = false := by rw [h35]; rfl
    have a4 : ((s[k].toNat : Int) == 35) = true := by rw [h35]; rfl
    clear h35;go_wp2_with (go_at_call 142; refine (lineEnd_any _ _ _ hs hk).mono ?_; rintro e w' ⟨rfl, rfl⟩)
    go_round
    case rel => exact ⟨stop lineC s.data.toList k, by omega, hle, rfl, hZ (fun acc => (HP.out acc).trans (fin_skip acc hlt R.out))⟩
    case measure => simp [intOf]; omega
   ·clear sl sg LS
    by_cases hb : (s[k].toNat : Int) = 32 \/ (s[k].toNat : Int) = 9 \/ (s[k].toNat : Int) = 10
    ·have R := hZ (item_blank s.data.toList k _ BK.out.symm hb)
     rcases hb with hb | hb | hb
     ·have a1 : ((s[k].toNat : Int) == 32) = true := by rw [hb]; rfl
      clear hb h35;go_wp2
      go_round
      case rel => exact ⟨k + 1, by omega, by omega, by go_num, hZ (fun acc => (HP.out acc).trans (fin_skip acc hlt R.out))⟩
      case measure => simp [intOf]; omega
     ·have a1 : ((s[k].toNat : Int) == 32) = false := by rw [hb]; rfl
      have a2 : ((s[k].toNat : Int) == 9) = true := by rw [hb]; rfl
      clear hb h35;go_wp2
      go_round
      case rel => exact ⟨k + 1, by omega, by omega, by go_num, hZ (fun acc => (HP.out acc).trans (fin_skip acc hlt R.out))⟩
      case measure => simp [intOf]; omega
     ·have a1 : ((s[k].toNat : Int) == 32) = false := by rw [hb]; rfl
      have a2 : ((s[k].toNat : Int) == 9) = false := by rw [hb]; rfl
      have a3 : ((s[k].toNat : Int) == 10) = true := by rw [hb]; rfl
      clear hb h35;go_wp2
      go_round
      case rel => exact ⟨k + 1, by omega, by omega, by go_num, hZ (fun acc => (HP.out acc).trans (fin_skip acc hlt R.out))⟩
      case measure => simp [intOf]; omega
    ·have n1 : (s[k].toNat : Int) ≠ 32 := fun e => hb (.inl e)
     have n2 : (s[k].toNat : Int) ≠ 9 := fun e => hb (.inr (.inl e))
     have n3 : (s[k].toNat : Int) ≠ 10 := fun e => hb (.inr (.inr e))
     have R := hZ (item_not s.data.toList k _ BK.out.symm n1 n2 n3 h35);have a1 : ((s[k].toNat : Int) == 32) = false := by simpa using n1
     have a2 : ((s[k].toNat : Int) == 9) = false := by simpa using n2
     have a3 : ((s[k].toNat : Int) == 10) = false := by simpa using n3
     have a4 : ((s[k].toNat : Int) == 35) = false := by simpa using h35
     clear n1 n2 n3 hb h35;go_wp2
     go_ret;exact ⟨k, rfl, rfl, hik, hk, HP.out, fun _ => R.out⟩
  ·have hk' : s.size <= k := by omega
   go_wp2
   go_ret;exact ⟨k, rfl, rfl, hik, hk, HP.out, fun a => absurd a hlt⟩
def tokCells (t : Tok) : List Value := [.int .i64 (t.kind : Int), .int .i64 (t.place : Int), .string t.text]
def rowCells (ts : List Tok) : List Value := ts.flatMap tokCells
theorem rowCells_snoc (ts : List Tok) (t : Tok) : rowCells (ts ++ [t]) = rowCells ts ++ tokCells t := by
  unfold rowCells; simp
theorem own_below {w w' : World} {base : Nat} {e : TypeId} {size : Nat} {v : Value} {n : Nat} {xs : List Value} (h : w.ownsRow base e size v n xs) (hb : Below w.heap.size w w') : w'.ownsRow base e size v n xs := by
  refine ⟨h.1, ?_⟩;rcases h.2 with hn | ⟨g, cap, cur, rfl, hbase, hgg, rest⟩
  · exact .inl hn
  · refine .inr ⟨g, cap, cur, rfl, hbase, ?_, rest⟩
    rw [hb.block g (Array.getElem?_eq_some_iff.1 hgg).1];exact hgg
def TokPost (s : ByteArray) (w : World) (e : Ending) (w' : World) : Prop :=
  Below w.heap.size w w' /\
    ((∃ (v : Value) (ts : List Tok), fin s 0 [] = (ts, -1) /\ e = .returned (.tuple #[v, .nilIface]) /\ w'.ownsRow w.heap.size 119 3 v ts.length (rowCells ts) /\ ts.length <= s.size) \/
     (∃ k b : Nat, fin s 0 [] = ([], (k : Int)) /\ e = .returned (.tuple #[.slice none 0 0, .iface 89 (.pointer (some ⟨b, 0, none⟩))]) /\ w.heap.size <= b /\ b < w'.heap.size /\
        w'.cell? ⟨b, 0, none⟩ = some (.int .i64 k) /\ w'.cell? ⟨b, 1, none⟩ = some (.iface 32 (.int .i64 2))))
theorem infoTok : (Tryz.prog.info? 119).map (fun i => (i.zero, i.size, i.bytes)) = some (some (.agg #[.int .i64 0, .int .i64 0, .string ⟨#[]⟩]), 3, 32) := by kernel_rfl
theorem clone_any (s : ByteArray) (w : World) (hs : s.size <= 281474976710656) : Calls Tryz.prog 104 #[.string s] w fun e w' => e = .returned (.string s) /\ Below w.heap.size w w' := by
  go_enter Tryz.func104, Tryz.ntmps104
  go_wp2_with fail
  refine (Tryz.stringslite_Clone _ _ hs).mono ?_; rintro e w1 ⟨rfl, hb1⟩
  go_wp2
  go_ret;exact ⟨rfl, hb1⟩
theorem pass0 (s : ByteArray) (w : World) (hs : s.size <= 9223372036854775806) : Calls Tryz.prog 102 #[.string s, .int .i64 0] w (PassPost s 0 w) := lxpass_any s 0 w hs (by omega)
theorem pass_at (s : ByteArray) (x : Int) (i : Nat) (w : World) (hs : s.size <= 9223372036854775806) (hi : i <= s.size) (hx : x = i) : Calls Tryz.prog 102 #[.string s, .int .i64 x] w (PassPost s i w) := by
  subst hx; exact lxpass_any s i w hs hi
theorem first_tok (l : List UInt8) (k : Nat) (hk : k < l.length) (h5 : (item l k).1 ≠ 5) : ∃ z : Nat, firstK (l.drop k) = (item l k).1 /\ firstN (l.drop k) = z /\ 0 < z /\ k + z <= l.length /\ item l k = ((item l k).1, k + z) := by
  have e := item_drop l k;have g := item_gt l k h5;have q := item_le l k hk;have e1 : (item l k).1 = (item (l.drop k) 0).1 := by rw [e]
  have e2 : (item l k).2 = k + (item (l.drop k) 0).2 := by rw [e]
  refine ⟨(item (l.drop k) 0).2, ?_, ?_, by omega, by omega, ?_⟩
  · unfold firstK; rw [<- e1, if_neg h5]
  · unfold firstN; rw [<- e1, if_neg h5]
  · rw [<- e2]
theorem first_none (l : List UInt8) (k : Nat) (h5 : (item l k).1 = 5) : firstN (l.drop k) = 0 := by
  have e := item_drop l k;have e1 : (item l k).1 = (item (l.drop k) 0).1 := by rw [e]
  unfold firstN; rw [<- e1, if_pos h5]
theorem item_drop_kind (l : List UInt8) (k : Nat) (h : (item l k).1 ≠ 0) : (item (l.drop k) 0).1 ≠ 0 := by
  have e := item_drop l k;rw [e] at h; exact h
theorem tokens_any (s : ByteArray) (w : World) (hs : s.size <= 20000) : Calls Tryz.prog 65 #[.string s] w (TokPost s w) := by
  obtain ⟨i0, hi, hz0, hz1, hz2⟩ := info_parts infoTok;have hs1 : s.size <= 9223372036854775806 := by omega
  have hn : ¬ (20000 : Int) < s.size := by omega
  have LS := hZ (len_size s);go_enter Tryz.func65, Tryz.ntmps65
  go_wp2_with fail
  refine (pass0 s _ hs1).mono ?_; rintro e w' ⟨k0, rfl, rfl, -, hk0, hP0, hS0⟩
  have HP0 := hZ hP0;have HS0 := hZ hS0;clear hP0 hS0;go_wp2
  go_loopw [4, 5] (fun v i wr => ∃ (k : Nat) (acc : List Tok), k <= s.size /\ i = .int .i64 k /\ Hid (fin s 0 [] = fin s k acc) /\ Hid (k < s.size -> (item s.data.toList k).1 ≠ 0) /\ acc.length <= k /\ wr.ownsRow w.heap.size 119 3 v acc.length (rowCells acc) /\ Below w.heap.size w wr) (fun _ i _ => s.size - (intOf i).toNat)
  case atStart => exact ⟨k0, [], hk0, rfl, hZ (HP0.out []), HS0, by simp, World.ownsRow_nil _ _ _ _, Below.refl _ _⟩
  case round =>
    obtain ⟨k, acc, hk, rfl, HF, HS, hacc, hown, hb⟩ := hrel;obtain ⟨wo, rfl⟩ : ∃ wo : World, wo = wr := ⟨_, rfl⟩;by_cases hlt : k < s.size
    · have hll : k < s.data.toList.length := by rw [LS.out]; exact hlt
      have TL := hZ (tail_list s k);have TZ := hZ (tail_size s k);have tz0 : 0 < (s.extract k s.size).size := by rw [TZ.out]; omega
      have tz1 : (s.extract k s.size).size <= 9223372036854775806 := by rw [TZ.out]; omega
      have K0 : Hid ((item (s.extract k s.size).data.toList 0).1 ≠ 0) := hZ (by rw [TL.out]; exact item_drop_kind _ _ (HS.out hlt));have H0 := hZ tz0;have H1 := hZ tz1;have HK := hZ (HS.out hlt);clear tz0 tz1 TZ;by_cases h5 : (item s.data.toList k).1 = 5
      · have N0 : Hid (((firstN (s.data.toList.drop k) : Nat) : Int) = 0) := hZ (by rw [first_none _ _ h5]; rfl)
        have RF : Hid (fin s 0 [] = ([], (k : Int))) := hZ (by
          rw [HF.out];exact fin_bad acc hlt (k := (item s.data.toList k).2) (by rw [<- h5]))
        clear h5 hll;go_wp2_with fail
        refine (first_any _ _ H1.out H0.out K0.out).mono ?_; rintro e w' ⟨rfl, rfl⟩
        rw [TL.out, N0.out];go_wp2
        go_ret2
        refine ⟨?_, .inr ⟨k, _, RF.out, rfl, hb.size, by simp, by go_simp, by go_simp⟩⟩;repeat (first | exact hb | with_reducible refine Below.drew ?_ | with_reducible refine below_drewN ?_ _ | with_reducible refine below_new ?_ _)
      · obtain ⟨z, e1, e2, z0, zl, ei⟩ := first_tok _ _ hll h5
        have E1 := hZ e1;have E2 := hZ e2;have zl' : k + z <= s.size := by have := LS.out; omega
        have hz : ((z : Int) == 0) = false := by simp; omega
        have RF : Hid (fin s 0 [] = fin s (k + z) (acc ++ [⟨(item s.data.toList k).1, k, s.extract k (k + z)⟩])) := hZ (by
          rw [HF.out];exact fin_tok acc hlt ei HK.out h5)
        have PZ : Hid ((s.extract k (k + z)).size <= 281474976710656) := hZ (by simp; omega);generalize hc : (item s.data.toList k).1 = c at E1 RF
        clear e1 e2 ei h5 hll zl hc;go_wp2_with fail
        refine (first_any _ _ H1.out H0.out K0.out).mono ?_; rintro e w' ⟨rfl, rfl⟩
        rw [TL.out, E1.out, E2.out];go_wp2_with fail
        refine (clone_any _ _ (by simpa using PZ.out)).mono ?_; rintro e w2 ⟨rfl, hb2⟩
        have hown2 := own_below hown hb2;have hbb := below_over hb hb2;have hp32 : ((acc.length + 1) * 32 <= 140737488355328) := by omega
        go_wp2_with (at_builtin; refine wpList_append_own _ rfl _ _ 80 rfl w.heap.size 119 i0 (.agg #[.int .i64 0, .int .i64 0, .string ⟨#[]⟩]) 3 32 Tryz.underlying80 hi hz0 hz1 hz2 rfl (by decide) _ _ _ rfl (hown2.alloc _) ⟨w2.heap.size, 0, none⟩ 1 1 (tokCells ⟨c, k, s.extract k (k + z)⟩) rfl rfl ?c1 ?c2 ?c3 ?c4 ?c5 ?_)
        case c1 =>
          intro j u hj;match j, hj with
          | 0, hj => simp [tokCells] at hj; subst hj; go_simp
          | 1, hj => simp [tokCells] at hj; subst hj; simp [Addr.add]
          | 2, hj => simp [tokCells] at hj; subst hj; simp [Addr.add]
        case c2 => intro u hu; simp [tokCells] at hu; rcases hu with rfl | rfl | rfl <;> rfl
        case c3 => unfold maxLen; omega
        case c4 => exact hp32
        case c5 => have := hbb.size; simp; omega
        intro v3 w3 hown3 hg3 _;have hb3 : Below w.heap.size w w3 := (below_new hbb _).grown hg3 (by have := hbb.size; simp; omega) (fun q hq => (hown2.lt q hq).1)
        have hown4 : Hid (w3.ownsRow w.heap.size 119 3 v3 (acc ++ [(⟨c, k, s.extract k (k + z)⟩ : Tok)]).length (rowCells (acc ++ [⟨c, k, s.extract k (k + z)⟩]))) := hZ (by
          rw [rowCells_snoc, List.length_append]; exact hown3)
        clear hown hown2 hown3 hg3 hb hb2 hbb hp32;go_wp2_with (go_at_call 102; refine (pass_at s _ (k + z) _ hs1 zl' (by simp)).mono ?_; rintro e w' ⟨k2, rfl, rfl, hk2a, hk2b, hP2, hS2⟩; have HP2 := hZ hP2; have HS2 := hZ hS2; clear hP2 hS2)
        go_roundw
        case rel => exact ⟨k2, _, hk2b, rfl, hZ (RF.out.trans (HP2.out _)), HS2, by simp; omega, hown4.out, hb3⟩
        case measure => simp [intOf]; omega
    · have hk' : s.size <= k := by omega
      have RF : Hid (fin s 0 [] = (acc, -1)) := hZ (by rw [HF.out]; exact fin_end s k acc hk');go_wp2
      go_ret2
      exact ⟨hb, .inl ⟨_, acc, RF.out, rfl, hown, by omega⟩⟩
def RowAt (w : World) (A : Option Addr) (ts : List Tok) : Prop :=
  ∀ i t, ts[i]? = some t -> ∃ g, A = some ⟨g, 0, none⟩ /\ g < w.heap.size /\ w.cell? ⟨g, i * 3, none⟩ = some (.int .i64 (t.kind : Int)) /\ w.cell? ⟨g, i * 3 + 1, none⟩ = some (.int .i64 (t.place : Int)) /\ w.cell? ⟨g, i * 3 + 2, none⟩ = some (.string t.text)
theorem rowCells_at (ts : List Tok) (i j : Nat) (t : Tok) (h : ts[i]? = some t) (hj : j < 3) : (rowCells ts)[i * 3 + j]? = (tokCells t)[j]? := by
  unfold rowCells
  induction ts generalizing i with
  | nil => simp at h
  | cons a r ih =>
    rw [List.flatMap_cons];rcases i with _ | i
    · simp at h; subst h
      rw [List.getElem?_append_left (by simp [tokCells]; omega)];simp
    · rw [List.getElem?_append_right (by simp [tokCells]; omega)]
      have : (i + 1) * 3 + j - (tokCells a).length = i * 3 + j := by simp [tokCells]; omega
      rw [this];exact ih i (by simpa using h)
theorem own_rowAt {w : World} {base : Nat} {v : Value} {ts : List Tok} (h : w.ownsRow base 119 3 v ts.length (rowCells ts)) : ∃ A c, v = .slice A ts.length c /\ RowAt w A ts := by
  rcases h.2 with ⟨rfl, hn⟩ | ⟨g, cap, cur, rfl, hb, hg, hrest⟩
  · have hts : ts = [] := List.eq_nil_of_length_eq_zero hn
    subst hts;exact ⟨none, 0, rfl, fun i t ht => by simp at ht⟩
  · refine ⟨some ⟨g, 0, none⟩, cap, rfl, fun i t ht => ⟨g, rfl, (Array.getElem?_eq_some_iff.1 hg).1, ?_, ?_, ?_⟩⟩
    all_goals
      have hc := h.cells (g := g) rfl;have hadd : ∀ j, (⟨g, 0, none⟩ : Addr).add j = ⟨g, j, none⟩ := fun j => by unfold Addr.add; split <;> simp_all
    · have := hc (i * 3) (.int .i64 (t.kind : Int)) ((rowCells_at ts i 0 t ht (by omega)).trans rfl)
      rwa [hadd] at this
    · have := hc (i * 3 + 1) (.int .i64 (t.place : Int)) ((rowCells_at ts i 1 t ht (by omega)).trans rfl)
      rwa [hadd] at this
    · have := hc (i * 3 + 2) (.string t.text) ((rowCells_at ts i 2 t ht (by omega)).trans rfl)
      rwa [hadd] at this
theorem tokens_yes (s : ByteArray) (ts : List Tok) (w : World) (hs : s.size <= 20000) (h : fin s 0 [] = (ts, -1)) :
    Calls Tryz.prog 65 #[.string s] w fun e w' => ∃ A c, e = .returned (.tuple #[.slice A ts.length c, .nilIface]) /\ ts.length <= 20000 /\ RowAt w' A ts /\ Below w.heap.size w w' := by
  refine (tokens_any s w hs).mono ?_;rintro e w' ⟨hb, ⟨v, ts', hf, rfl, hown, hl⟩ | ⟨k, b, hf, -⟩⟩
  · rw [h] at hf
    obtain rfl : ts = ts' := (Prod.mk.inj hf).1;obtain ⟨A, c, rfl, hr⟩ := own_rowAt hown;exact ⟨A, c, rfl, by omega, hr, hb⟩
  · rw [h] at hf
    have := (Prod.mk.inj hf).2
    omega
theorem tokens_no (s : ByteArray) (k : Nat) (w : World) (hs : s.size <= 20000) (h : fin s 0 [] = ([], (k : Int))) :
    Calls Tryz.prog 65 #[.string s] w fun e w' => ∃ b, e = .returned (.tuple #[.slice none 0 0, .iface 89 (.pointer (some ⟨b, 0, none⟩))]) /\ w.heap.size <= b /\ b < w'.heap.size /\
        w'.cell? ⟨b, 0, none⟩ = some (.int .i64 k) /\ w'.cell? ⟨b, 1, none⟩ = some (.iface 32 (.int .i64 2)) /\ Below w.heap.size w w' := by
  refine (tokens_any s w hs).mono ?_;rintro e w' ⟨hb, ⟨v, ts', hf, -⟩ | ⟨k', b, hf, rfl, h1, h2, h3, h4⟩⟩
  · rw [h] at hf
    have := (Prod.mk.inj hf).2
    omega
  · rw [h] at hf
    have : (k : Int) = k' := (Prod.mk.inj hf).2
    obtain rfl : k = k' := by omega
    exact ⟨b, rfl, h1, h2, h3, h4, hb⟩
end Go.Proofs.YteecgiebimdbhaaGreatDoor
