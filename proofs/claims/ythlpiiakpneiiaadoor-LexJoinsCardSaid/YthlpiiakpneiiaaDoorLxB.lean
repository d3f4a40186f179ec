/-
  Walks of package lex: the sign, the token that a text begins with, and what is passed by.
-/
import Derived.Test.YthlpiiakpneiiaaDoorLxA
namespace Go.Proofs.YthlpiiakpneiiaaDoor
open Go.RowKit
open M

/-- How many bytes a sign has, by the first two. -/
def signN (a b : Int) : Nat := if twoC a b = true then 2 else if signC a = true then 1 else 0

theorem two_parts (a b : Int) : twoC a b = ((a == 45 && b == 62) || (a == 46 && b == 46)) := rfl
theorem dash_gt (s : ByteArray) : Lib.hasPrefix s.data.toList (⟨#[45, 62]⟩ : ByteArray).data.toList = (bt s.data.toList 0 == 45 && bt s.data.toList 1 == 62) := pre_two 45 62 (by decide) (by decide) _
theorem dot_dot (s : ByteArray) : Lib.hasPrefix s.data.toList (⟨#[46, 46]⟩ : ByteArray).data.toList = (bt s.data.toList 0 == 46 && bt s.data.toList 1 == 46) := pre_two 46 46 (by decide) (by decide) _
theorem sign_ix (s : ByteArray) (h : 0 < s.size) : signC (bt s.data.toList 0) = decide ((0 : Int) ≤ Lib.indexByte ([123, 125, 40, 41, 91, 93, 60, 62, 44, 58, 46, 61] : List UInt8) ((s[0].toNat : Int)).toNat.toUInt8) := by
  rw [← Lib.contains_iff_indexByte, ← bt_eq s 0 h, ← sign_iff]
  congr 1
  simp

set_option maxHeartbeats 1000000 in
theorem sign_any (s : ByteArray) (w : World) (h : 0 < s.size) :
    Calls Tryd.prog 27 #[.string s] w fun e w' => e = .returned (.int .i64 (signN (bt s.data.toList 0) (bt s.data.toList 1) : Nat)) ∧ w = w' := by
  have D1 := Lib.hid (dash_gt s)
  have D2 := Lib.hid (dot_dot s)
  rcases hid_or (bt s.data.toList 0 == 45 && bt s.data.toList 1 == 62) with h1 | h1
  · rcases hid_or (bt s.data.toList 0 == 46 && bt s.data.toList 1 == 46) with h2 | h2
    · have S := Lib.hid (sign_ix s h)
      have T : Hid (twoC (bt s.data.toList 0) (bt s.data.toList 1) = false) := Lib.hid (by rw [two_parts, h1.out, h2.out]; rfl)
      rcases hid_or (signC (bt s.data.toList 0)) with h3 | h3
      · have R : Hid (signN (bt s.data.toList 0) (bt s.data.toList 1) = 0) := Lib.hid (by unfold signN; rw [T.out, h3.out]; rfl)
        have B : ¬ (0 : Int) ≤ Lib.indexByte ([123, 125, 40, 41, 91, 93, 60, 62, 44, 58, 46, 61] : List UInt8) ((s[0].toNat : Int)).toNat.toUInt8 := by
          have := S.out; rw [h3.out] at this; simpa using this.symm
        generalize hz : Lib.indexByte ([123, 125, 40, 41, 91, 93, 60, 62, 44, 58, 46, 61] : List UInt8) ((s[0].toNat : Int)).toNat.toUInt8 = z at B
        have HZ := Lib.hid hz
        clear hz S
        rw [R.out]
        go_enter Tryd.func27, Tryd.ntmps27
        go_wp2_with fail
        refine (Tryd.strings_HasPrefix _ _ _).mono ?_; rintro e w' ⟨rfl, rfl⟩; rw [D1.out, h1.out]
        go_wp2_with fail
        refine (Tryd.strings_HasPrefix _ _ _).mono ?_; rintro e w' ⟨rfl, rfl⟩; rw [D2.out, h2.out]
        go_wp2_with fail
        refine (Tryd.strings_IndexByte _ _ _).mono ?_; rintro e w' ⟨rfl, rfl⟩
        simp only [HZ.out]
        go_wp2
        go_ret
        exact ⟨rfl, rfl⟩
      · have R : Hid (signN (bt s.data.toList 0) (bt s.data.toList 1) = 1) := Lib.hid (by unfold signN; rw [T.out, h3.out]; rfl)
        have B : (0 : Int) ≤ Lib.indexByte ([123, 125, 40, 41, 91, 93, 60, 62, 44, 58, 46, 61] : List UInt8) ((s[0].toNat : Int)).toNat.toUInt8 := by
          have := S.out; rw [h3.out] at this; simpa using this.symm
        generalize hz : Lib.indexByte ([123, 125, 40, 41, 91, 93, 60, 62, 44, 58, 46, 61] : List UInt8) ((s[0].toNat : Int)).toNat.toUInt8 = z at B
        have HZ := Lib.hid hz
        clear hz S
        rw [R.out]
        go_enter Tryd.func27, Tryd.ntmps27
        go_wp2_with fail
        refine (Tryd.strings_HasPrefix _ _ _).mono ?_; rintro e w' ⟨rfl, rfl⟩; rw [D1.out, h1.out]
        go_wp2_with fail
        refine (Tryd.strings_HasPrefix _ _ _).mono ?_; rintro e w' ⟨rfl, rfl⟩; rw [D2.out, h2.out]
        go_wp2_with fail
        refine (Tryd.strings_IndexByte _ _ _).mono ?_; rintro e w' ⟨rfl, rfl⟩
        simp only [HZ.out]
        go_wp2
        go_ret
        exact ⟨rfl, rfl⟩
    · have R : Hid (signN (bt s.data.toList 0) (bt s.data.toList 1) = 2) := Lib.hid (by unfold signN; rw [two_parts, h1.out, h2.out]; rfl)
      rw [R.out]
      go_enter Tryd.func27, Tryd.ntmps27
      go_wp2_with fail
      refine (Tryd.strings_HasPrefix _ _ _).mono ?_; rintro e w' ⟨rfl, rfl⟩; rw [D1.out, h1.out]
      go_wp2_with fail
      refine (Tryd.strings_HasPrefix _ _ _).mono ?_; rintro e w' ⟨rfl, rfl⟩; rw [D2.out, h2.out]
      go_wp2
      go_ret
      exact ⟨rfl, rfl⟩
  · have R : Hid (signN (bt s.data.toList 0) (bt s.data.toList 1) = 2) := Lib.hid (by unfold signN; rw [two_parts, h1.out]; rfl)
    rw [R.out]
    go_enter Tryd.func27, Tryd.ntmps27
    go_wp2_with fail
    refine (Tryd.strings_HasPrefix _ _ _).mono ?_; rintro e w' ⟨rfl, rfl⟩; rw [D1.out, h1.out]
    go_wp2
    go_ret
    exact ⟨rfl, rfl⟩

/-- What 'first' tells of what stands at a text's begin. -/
def firstK (m : List UInt8) : Nat := if (item m 0).1 = 5 then 4 else (item m 0).1
def firstN (m : List UInt8) : Nat := if (item m 0).1 = 5 then 0 else (item m 0).2

theorem low_not {n : Int} (h : lowC n = true) : blankC n = false ∧ (n = 35) = False := by
  unfold lowC blankC at *
  simp at *; omega
theorem up_not {n : Int} (h : upC n = true) : blankC n = false ∧ (n = 35) = False := by
  unfold upC blankC at *
  simp at *; omega
theorem dig_not {n : Int} (h : digC n = true) : blankC n = false ∧ (n = 35) = False := by
  unfold digC blankC at *
  simp at *; omega
theorem any_of_low {n : Int} (h : lowC n = true) : anyC n = true := by unfold anyC; rw [h]; rfl
theorem any_of_up {n : Int} (h : upC n = true) : anyC n = true := by unfold anyC; rw [h]; simp
theorem first_low (m : List UInt8) (hl : 0 < m.length) (h : lowC (bt m 0) = true) : firstK m = 1 ∧ firstN m = stop anyC m 0 := by
  obtain ⟨a, b⟩ := low_not h
  unfold firstK firstN item
  simp [a, b, h, stop_step anyC m 0 hl (any_of_low h)]
theorem first_up (m : List UInt8) (hl : 0 < m.length) (h1 : lowC (bt m 0) = false) (h : upC (bt m 0) = true) : firstK m = 2 ∧ firstN m = stop anyC m 0 := by
  obtain ⟨a, b⟩ := up_not h
  unfold firstK firstN item
  simp [a, b, h, h1, stop_step anyC m 0 hl (any_of_up h)]
theorem first_dig (m : List UInt8) (hl : 0 < m.length) (h1 : lowC (bt m 0) = false) (h2 : upC (bt m 0) = false) (h : digC (bt m 0) = true) : firstK m = 3 ∧ firstN m = stop digC m 0 := by
  obtain ⟨a, b⟩ := dig_not h
  unfold firstK firstN item
  simp [a, b, h, h1, h2, stop_step digC m 0 hl h]
theorem first_sign (m : List UInt8) (h0 : (item m 0).1 ≠ 0) (h1 : lowC (bt m 0) = false) (h2 : upC (bt m 0) = false) (h : digC (bt m 0) = false) : firstK m = 4 ∧ firstN m = signN (bt m 0) (bt m 1) := by
  unfold firstK firstN signN item at *
  by_cases a : blankC (bt m 0) = true
  · simp [a] at h0
  by_cases b : bt m 0 = 35
  · rw [b] at h0; simp [blankC] at h0
  by_cases c : twoC (bt m 0) (bt m 1) = true
  · simp [a, b, h1, h2, h, c]
  by_cases d : signC (bt m 0) = true
  · simp [a, b, h1, h2, h, c, d]
  · simp [a, b, h1, h2, h, c, d]

theorem head_size (s : ByteArray) (h : 0 < s.size) : (s.extract 0 1).size = 1 := piece_size s 0 h
theorem head_bt (s : ByteArray) : bt (s.extract 0 1).data.toList 0 = bt s.data.toList 0 := piece_bt s 0

set_option maxHeartbeats 1000000 in
theorem first_any (s : ByteArray) (w : World) (hs : s.size ≤ 9223372036854775806) (h : 0 < s.size) (h0 : (item s.data.toList 0).1 ≠ 0) :
    Calls Tryd.prog 12 #[.string s] w fun e w' => e = .returned (.tuple #[.int .i64 (firstK s.data.toList : Nat), .int .i64 (firstN s.data.toList : Nat)]) ∧ w = w' := by
  have HS := Lib.hid (head_size s h)
  have HB := Lib.hid (head_bt s)
  have hl : 0 < s.data.toList.length := by rw [len_size]; exact h
  have H0 := Lib.hid h0
  clear h0
  have h' : 1 ≤ s.size := h
  rcases hid_or (lowC (bt s.data.toList 0)) with h1 | h1
  · rcases hid_or (upC (bt s.data.toList 0)) with h2 | h2
    · rcases hid_or (digC (bt s.data.toList 0)) with h3 | h3
      · have R := Lib.hid (first_sign _ H0.out h1.out h2.out h3.out)
        rw [R.out.1, R.out.2]
        clear hl
        go_enter Tryd.func12, Tryd.ntmps12
        go_wp2_with fail
        refine (lower1 _ false _ HS.out (by rw [HB.out]; exact h1.out)).mono ?_; rintro e w' ⟨rfl, rfl⟩
        go_wp2_with fail
        refine (upper1 _ false _ HS.out (by rw [HB.out]; exact h2.out)).mono ?_; rintro e w' ⟨rfl, rfl⟩
        go_wp2_with fail
        refine (digit1 _ false _ HS.out (by rw [HB.out]; exact h3.out)).mono ?_; rintro e w' ⟨rfl, rfl⟩
        go_wp2_with fail
        refine (sign_any _ _ h).mono ?_; rintro e w' ⟨rfl, rfl⟩
        go_wp2
        go_ret2
        exact ⟨rfl, rfl⟩
      · have R := Lib.hid (first_dig _ hl h1.out h2.out h3.out)
        rw [R.out.1, R.out.2]
        clear hl
        go_enter Tryd.func12, Tryd.ntmps12
        go_wp2_with fail
        refine (lower1 _ false _ HS.out (by rw [HB.out]; exact h1.out)).mono ?_; rintro e w' ⟨rfl, rfl⟩
        go_wp2_with fail
        refine (upper1 _ false _ HS.out (by rw [HB.out]; exact h2.out)).mono ?_; rintro e w' ⟨rfl, rfl⟩
        go_wp2_with fail
        refine (digit1 _ true _ HS.out (by rw [HB.out]; exact h3.out)).mono ?_; rintro e w' ⟨rfl, rfl⟩
        go_wp2_with fail
        refine (span_digit _ _ hs).mono ?_; rintro e w' ⟨rfl, rfl⟩
        go_wp2
        go_ret2
        exact ⟨rfl, rfl⟩
    · have R := Lib.hid (first_up _ hl h1.out h2.out)
      rw [R.out.1, R.out.2]
      clear hl
      go_enter Tryd.func12, Tryd.ntmps12
      go_wp2_with fail
      refine (lower1 _ false _ HS.out (by rw [HB.out]; exact h1.out)).mono ?_; rintro e w' ⟨rfl, rfl⟩
      go_wp2_with fail
      refine (upper1 _ true _ HS.out (by rw [HB.out]; exact h2.out)).mono ?_; rintro e w' ⟨rfl, rfl⟩
      go_wp2_with fail
      refine (span_word _ _ hs).mono ?_; rintro e w' ⟨rfl, rfl⟩
      go_wp2
      go_ret2
      exact ⟨rfl, rfl⟩
  · have R := Lib.hid (first_low _ hl h1.out)
    rw [R.out.1, R.out.2]
    clear hl
    go_enter Tryd.func12, Tryd.ntmps12
    go_wp2_with fail
    refine (lower1 _ true _ HS.out (by rw [HB.out]; exact h1.out)).mono ?_; rintro e w' ⟨rfl, rfl⟩
    go_wp2_with fail
    refine (span_word _ _ hs).mono ?_; rintro e w' ⟨rfl, rfl⟩
    go_wp2
    go_ret2
    exact ⟨rfl, rfl⟩

/-- From i to k all is passed by, and at k stands what isn't. -/
def Passed (s : ByteArray) (i k : Nat) : Prop := ∀ acc, fin s i acc = fin s k acc
def PassPost (s : ByteArray) (i : Nat) (w : World) (e : Ending) (w' : World) : Prop :=
  ∃ k : Nat, e = .returned (.int .i64 k) ∧ w = w' ∧ i ≤ k ∧ k ≤ s.size ∧ Passed s i k ∧ (k < s.size → (item s.data.toList k).1 ≠ 0)

theorem item_blank (l : List UInt8) (k : Nat) (x : Int) (e : bt l k = x) (h : x = 32 ∨ x = 9 ∨ x = 10) : item l k = (0, k + 1) := by
  unfold item blankC
  subst e
  rcases h with h | h | h <;> simp [h]
theorem item_rem (l : List UInt8) (k : Nat) (h : bt l k = 35) : item l k = (0, stop lineC l (k + 1)) := by
  unfold item blankC
  simp [h]
theorem item_rem' (l : List UInt8) (k : Nat) (hk : k < l.length) (h : bt l k = 35) : item l k = (0, stop lineC l k) := by
  rw [item_rem l k h, stop_step lineC l k hk (by rw [h]; rfl)]
theorem item_not (l : List UInt8) (k : Nat) (x : Int) (e : bt l k = x) (h1 : x ≠ 32) (h2 : x ≠ 9) (h3 : x ≠ 10) (h4 : x ≠ 35) : (item l k).1 ≠ 0 := by
  unfold item blankC
  subst e
  simp only [h4]
  (repeat' split) <;> simp_all

set_option maxHeartbeats 2000000 in
theorem pass_any (s : ByteArray) (i : Nat) (w : World) (hs : s.size ≤ 9223372036854775806) (hi : i ≤ s.size) :
    Calls Tryd.prog 11 #[.string s, .int .i64 i] w (PassPost s i w) := by
  go_enter Tryd.func11, Tryd.ntmps11
  go_wp2
  go_loop [1] (fun i' => ∃ k : Nat, i ≤ k ∧ k ≤ s.size ∧ i' = .int .i64 k ∧ Hid (Passed s i k)) (fun i' => s.size - (intOf i').toNat)
  case atStart => exact ⟨i, by omega, by omega, rfl, Lib.hid (fun _ => rfl)⟩
  case round =>
    obtain ⟨k, hik, hk, rfl, HP⟩ := hrel
    by_cases hlt : k < s.size
    · have BK := Lib.hid (bt_eq s k hlt)
      have sl := stop_le lineC s.data.toList k (by simp; omega)
      have sg := stop_ge lineC s.data.toList k
      have LS := len_size s
      by_cases h35 : (s[k].toNat : Int) = 35
      · have R := Lib.hid (item_rem' s.data.toList k (by simpa using hlt) (BK.out.symm.trans h35))
        have g := item_gt s.data.toList k (by rw [R.out]; simp)
        rw [R.out] at g
        have hle : stop lineC s.data.toList k ≤ s.size := by omega
        have g' : k < stop lineC s.data.toList k := g
        clear sl sg LS g
        have a1 : ((s[k].toNat : Int) == 32) = false := by rw [h35]; rfl
        have a2 : ((s[k].toNat : Int) == 9) = false := by rw [h35]; rfl
        have a3 : ((s[k].toNat : Int) == 10) = false := by rw [h35]; rfl
        have a4 : ((s[k].toNat : Int) == 35) = true := by rw [h35]; rfl
        clear h35
        go_wp2_with (go_at_call 21; refine (lineEnd_any _ _ _ hs hk).mono ?_; rintro e w' ⟨rfl, rfl⟩)
        go_round
        case rel => exact ⟨stop lineC s.data.toList k, by omega, hle, rfl, Lib.hid (fun acc => (HP.out acc).trans (fin_skip acc hlt R.out))⟩
        case measure => simp [intOf]; omega
      · clear sl sg LS
        by_cases hb : (s[k].toNat : Int) = 32 ∨ (s[k].toNat : Int) = 9 ∨ (s[k].toNat : Int) = 10
        · have R := Lib.hid (item_blank s.data.toList k _ BK.out.symm hb)
          rcases hb with hb | hb | hb
          · have a1 : ((s[k].toNat : Int) == 32) = true := by rw [hb]; rfl
            clear hb h35
            go_wp2
            go_round
            case rel => exact ⟨k + 1, by omega, by omega, by go_num, Lib.hid (fun acc => (HP.out acc).trans (fin_skip acc hlt R.out))⟩
            case measure => simp [intOf]; omega
          · have a1 : ((s[k].toNat : Int) == 32) = false := by rw [hb]; rfl
            have a2 : ((s[k].toNat : Int) == 9) = true := by rw [hb]; rfl
            clear hb h35
            go_wp2
            go_round
            case rel => exact ⟨k + 1, by omega, by omega, by go_num, Lib.hid (fun acc => (HP.out acc).trans (fin_skip acc hlt R.out))⟩
            case measure => simp [intOf]; omega
          · have a1 : ((s[k].toNat : Int) == 32) = false := by rw [hb]; rfl
            have a2 : ((s[k].toNat : Int) == 9) = false := by rw [hb]; rfl
            have a3 : ((s[k].toNat : Int) == 10) = true := by rw [hb]; rfl
            clear hb h35
            go_wp2
            go_round
            case rel => exact ⟨k + 1, by omega, by omega, by go_num, Lib.hid (fun acc => (HP.out acc).trans (fin_skip acc hlt R.out))⟩
            case measure => simp [intOf]; omega
        · have n1 : (s[k].toNat : Int) ≠ 32 := fun e => hb (.inl e)
          have n2 : (s[k].toNat : Int) ≠ 9 := fun e => hb (.inr (.inl e))
          have n3 : (s[k].toNat : Int) ≠ 10 := fun e => hb (.inr (.inr e))
          have R := Lib.hid (item_not s.data.toList k _ BK.out.symm n1 n2 n3 h35)
          have a1 : ((s[k].toNat : Int) == 32) = false := by simpa using n1
          have a2 : ((s[k].toNat : Int) == 9) = false := by simpa using n2
          have a3 : ((s[k].toNat : Int) == 10) = false := by simpa using n3
          have a4 : ((s[k].toNat : Int) == 35) = false := by simpa using h35
          clear n1 n2 n3 hb h35
          go_wp2
          go_ret
          exact ⟨k, rfl, rfl, hik, hk, HP.out, fun _ => R.out⟩
    · have hk' : s.size ≤ k := by omega
      go_wp2
      go_ret
      exact ⟨k, rfl, rfl, hik, hk, HP.out, fun a => absurd a hlt⟩

end Go.Proofs.YthlpiiakpneiiaaDoor
