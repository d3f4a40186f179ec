/-
  Walks of package ident: how a name is spelled, small names, great names. No condition but that a text's length is an int.
-/
import Derived.Test.YtnnppdlhmcobcaaDoorIdA
namespace Go.Proofs.YtnnppdlhmcobcaaDoor
open Go.RowKit
open M

theorem empty_facts (s : ByteArray) (h : s.size = 0) : s.toList = [] ∧ s.toList.isEmpty = true := by
  have hl : s.data.toList = [] := by rw [← List.length_eq_zero_iff, len_size]; exact h
  have g1 : s.toList = [] := by rw [Lib.toList_data, hl]
  exact ⟨g1, by rw [g1]; rfl⟩
theorem full_facts (s : ByteArray) (h : ¬ s.size = 0) : ¬ s.toList = [] ∧ s.toList.isEmpty = false := by
  have hl : s.data.toList ≠ [] := by intro e; apply h; rw [← len_size, e]; rfl
  have g1 : ¬ s.toList = [] := by rw [Lib.toList_data]; exact hl
  exact ⟨g1, by simpa using g1⟩

set_option maxHeartbeats 1000000 in
theorem spelled_low (s : ByteArray) (w : World) (hs : s.size ≤ 9223372036854775807) :
    Calls Tryd.prog 54 #[.string s, .func (.func 55) #[] #[], .func (.func 56) #[] #[]] w fun e w' => e = .returned (.bool (spell lowC lowDigC s.data.toList)) ∧ w = w' := by
  by_cases h0 : s.size = 0
  · have R := Lib.hid (spell_empty lowC lowDigC s h0)
    rw [R.out]
    obtain ⟨g1, g2⟩ := empty_facts s h0
    clear h0 R
    go_enter Tryd.func54, Tryd.ntmps54
    go_wp2
    go_ret
    exact ⟨rfl, rfl⟩
  obtain ⟨g1, g2⟩ := full_facts s h0
  have hp : 0 < s.size := by omega
  clear h0
  by_cases h1 : 20 < s.size
  · have R := Lib.hid (spell_long lowC lowDigC s h1)
    rw [R.out]
    have h1' : (20 : Int) < ↑s.size := by omega
    clear h1 R
    go_enter Tryd.func54, Tryd.ntmps54
    go_wp2
    go_ret
    exact ⟨rfl, rfl⟩
  have h1' : (↑s.size : Int) ≤ 20 := by omega
  have h1'' : ¬ (20 : Int) < ↑s.size := by omega
  have B0 := Lib.hid (bt_eq s 0 hp)
  rcases hid_or (lowC (bt s.data.toList 0)) with hf | hf
  · have R := Lib.hid (spell_first lowC lowDigC s hf.out)
    rw [R.out]
    clear h1 R
    go_enter Tryd.func54, Tryd.ntmps54
    go_wp2_with fail
    rw [B0.out]
    refine (lower_any _ _).mono ?_; rintro e w' ⟨rfl, rfl⟩; rw [hf.out]
    go_wp2
    go_ret
    exact ⟨rfl, rfl⟩
  go_enter Tryd.func54, Tryd.ntmps54
  go_wp2_with fail
  rw [B0.out]
  refine (lower_any _ _).mono ?_; rintro e w' ⟨rfl, rfl⟩; rw [hf.out]
  go_wp2
  go_loop [7] (fun i => ∃ k : Nat, 1 ≤ k ∧ k ≤ s.size ∧ i = .int .i64 k ∧ Hid (∀ j, 1 ≤ j → j < k → lowDigC (bt s.data.toList j) = true)) (fun i => s.size - (intOf i).toNat)
  case atStart => exact ⟨1, by omega, by omega, rfl, Lib.hid (fun j a b => by omega)⟩
  case round =>
    obtain ⟨k, hk1, hk, rfl, HK⟩ := hrel
    by_cases hlt : k < s.size
    · have BK := Lib.hid (bt_eq s k hlt)
      rcases hid_or (lowDigC (bt s.data.toList k)) with hg | hg
      · go_wp2_with fail
        rw [BK.out]
        refine (lowDig_any _ _).mono ?_; rintro e w' ⟨rfl, rfl⟩; rw [hg.out]
        go_wp2
        go_ret
        exact ⟨ret_bool (spell_later lowC lowDigC s k hk1 hlt hg.out), rfl⟩
      · go_wp2_with fail
        rw [BK.out]
        refine (lowDig_any _ _).mono ?_; rintro e w' ⟨rfl, rfl⟩; rw [hg.out]
        go_wp2
        go_round
        case rel => exact ⟨k + 1, by omega, by omega, by go_num, Lib.hid (upto_step (P := fun j => lowDigC (bt s.data.toList j)) HK.out hg.out)⟩
        case measure => simp [intOf]; omega
    · go_wp2
      go_ret
      exact ⟨ret_bool (spell_all lowC lowDigC s hp (by omega) hf.out (fun j a b => HK.out j a (by omega))), rfl⟩

set_option maxHeartbeats 1000000 in
theorem spelled_up (s : ByteArray) (w : World) (hs : s.size ≤ 9223372036854775807) :
    Calls Tryd.prog 54 #[.string s, .func (.func 58) #[] #[], .func (.func 59) #[] #[]] w fun e w' => e = .returned (.bool (spell upC anyC s.data.toList)) ∧ w = w' := by
  by_cases h0 : s.size = 0
  · have R := Lib.hid (spell_empty upC anyC s h0)
    rw [R.out]
    obtain ⟨g1, g2⟩ := empty_facts s h0
    clear h0 R
    go_enter Tryd.func54, Tryd.ntmps54
    go_wp2
    go_ret
    exact ⟨rfl, rfl⟩
  obtain ⟨g1, g2⟩ := full_facts s h0
  have hp : 0 < s.size := by omega
  clear h0
  by_cases h1 : 20 < s.size
  · have R := Lib.hid (spell_long upC anyC s h1)
    rw [R.out]
    have h1' : (20 : Int) < ↑s.size := by omega
    clear h1 R
    go_enter Tryd.func54, Tryd.ntmps54
    go_wp2
    go_ret
    exact ⟨rfl, rfl⟩
  have h1' : (↑s.size : Int) ≤ 20 := by omega
  have h1'' : ¬ (20 : Int) < ↑s.size := by omega
  have B0 := Lib.hid (bt_eq s 0 hp)
  rcases hid_or (upC (bt s.data.toList 0)) with hf | hf
  · have R := Lib.hid (spell_first upC anyC s hf.out)
    rw [R.out]
    clear h1 R
    go_enter Tryd.func54, Tryd.ntmps54
    go_wp2_with fail
    rw [B0.out]
    refine (upper_any _ _).mono ?_; rintro e w' ⟨rfl, rfl⟩; rw [hf.out]
    go_wp2
    go_ret
    exact ⟨rfl, rfl⟩
  go_enter Tryd.func54, Tryd.ntmps54
  go_wp2_with fail
  rw [B0.out]
  refine (upper_any _ _).mono ?_; rintro e w' ⟨rfl, rfl⟩; rw [hf.out]
  go_wp2
  go_loop [7] (fun i => ∃ k : Nat, 1 ≤ k ∧ k ≤ s.size ∧ i = .int .i64 k ∧ Hid (∀ j, 1 ≤ j → j < k → anyC (bt s.data.toList j) = true)) (fun i => s.size - (intOf i).toNat)
  case atStart => exact ⟨1, by omega, by omega, rfl, Lib.hid (fun j a b => by omega)⟩
  case round =>
    obtain ⟨k, hk1, hk, rfl, HK⟩ := hrel
    by_cases hlt : k < s.size
    · have BK := Lib.hid (bt_eq s k hlt)
      rcases hid_or (anyC (bt s.data.toList k)) with hg | hg
      · go_wp2_with fail
        rw [BK.out]
        refine (any_any _ _).mono ?_; rintro e w' ⟨rfl, rfl⟩; rw [hg.out]
        go_wp2
        go_ret
        exact ⟨ret_bool (spell_later upC anyC s k hk1 hlt hg.out), rfl⟩
      · go_wp2_with fail
        rw [BK.out]
        refine (any_any _ _).mono ?_; rintro e w' ⟨rfl, rfl⟩; rw [hg.out]
        go_wp2
        go_round
        case rel => exact ⟨k + 1, by omega, by omega, by go_num, Lib.hid (upto_step (P := fun j => anyC (bt s.data.toList j)) HK.out hg.out)⟩
        case measure => simp [intOf]; omega
    · go_wp2
      go_ret
      exact ⟨ret_bool (spell_all upC anyC s hp (by omega) hf.out (fun j a b => HK.out j a (by omega))), rfl⟩

set_option maxHeartbeats 400000 in
theorem small_any (s : ByteArray) (w : World) (hs : s.size ≤ 9223372036854775807) :
    Calls Tryd.prog 45 #[.string s] w fun e w' => e = .returned (.bool (smallB s.data.toList)) ∧ w = w' := by
  unfold smallB
  rcases hid_or (spell lowC lowDigC s.data.toList) with h | h <;> rw [h.out]
  · go_enter Tryd.func45, Tryd.ntmps45
    go_wp2_with fail
    refine (spelled_low _ _ hs).mono ?_; rintro e w' ⟨rfl, rfl⟩; rw [h.out]
    go_wp2
    go_ret
    exact ⟨rfl, rfl⟩
  · go_enter Tryd.func45, Tryd.ntmps45
    go_wp2_with fail
    refine (spelled_low _ _ hs).mono ?_; rintro e w' ⟨rfl, rfl⟩; rw [h.out]
    go_wp2_with fail
    refine (key_any _ _).mono ?_; rintro e w' ⟨rfl, rfl⟩
    go_wp2
    go_ret
    exact ⟨rfl, rfl⟩
set_option maxHeartbeats 400000 in
theorem great_any (s : ByteArray) (w : World) (hs : s.size ≤ 9223372036854775807) :
    Calls Tryd.prog 46 #[.string s] w fun e w' => e = .returned (.bool (greatB s.data.toList)) ∧ w = w' := by
  unfold greatB
  rcases hid_or (spell upC anyC s.data.toList) with h | h <;> rw [h.out]
  · go_enter Tryd.func46, Tryd.ntmps46
    go_wp2_with fail
    refine (spelled_up _ _ hs).mono ?_; rintro e w' ⟨rfl, rfl⟩; rw [h.out]
    go_wp2
    go_ret
    exact ⟨rfl, rfl⟩
  · go_enter Tryd.func46, Tryd.ntmps46
    go_wp2_with fail
    refine (spelled_up _ _ hs).mono ?_; rintro e w' ⟨rfl, rfl⟩; rw [h.out]
    go_wp2_with fail
    refine (word_any _ _).mono ?_; rintro e w' ⟨rfl, rfl⟩
    go_wp2
    go_ret
    exact ⟨rfl, rfl⟩

end Go.Proofs.YtnnppdlhmcobcaaDoor
