/-
  Walks of the calls of package ident: which bytes are letters and digits, keys, the types' words, how a name is spelled. No condition.
-/
import Derived.Test.YtnnppdlhmcobcaaDoorChecked
import Derived.Test.YtnnppdlhmcobcaaDoorIdM
import Derived.Test.YtnnppdlhmcobcaaDoorBase
import Derived.WalkKit
import Derived.Lib.Hide
import Derived.WalkSpells
import Derived.WalkLawsBesides
import Derived.RegionTactic
import Derived.IntWalk
import Derived.LoopTactic
import Derived.Lib.Strings
namespace Go.Proofs.YtnnppdlhmcobcaaDoor
open Go.RowKit
open M

set_option maxHeartbeats 400000 in
theorem lower_any (n : Int) (w : World) : Calls Tryd.prog 55 #[.int .u8 n] w fun e w' => e = .returned (.bool (lowC n)) ∧ w = w' := by
  go_enter Tryd.func55, Tryd.ntmps55
  go_wp2
  all_goals go_ret
  all_goals exact ⟨ret_bool (by unfold lowC; simp_all; try omega), rfl⟩
set_option maxHeartbeats 400000 in
theorem upper_any (n : Int) (w : World) : Calls Tryd.prog 58 #[.int .u8 n] w fun e w' => e = .returned (.bool (upC n)) ∧ w = w' := by
  go_enter Tryd.func58, Tryd.ntmps58
  go_wp2
  all_goals go_ret
  all_goals exact ⟨ret_bool (by unfold upC; simp_all; try omega), rfl⟩
set_option maxHeartbeats 400000 in
theorem digit_any (n : Int) (w : World) : Calls Tryd.prog 65 #[.int .u8 n] w fun e w' => e = .returned (.bool (digC n)) ∧ w = w' := by
  go_enter Tryd.func65, Tryd.ntmps65
  go_wp2
  all_goals go_ret
  all_goals exact ⟨ret_bool (by unfold digC; simp_all; try omega), rfl⟩
set_option maxHeartbeats 400000 in
theorem lowDig_any (n : Int) (w : World) : Calls Tryd.prog 56 #[.int .u8 n] w fun e w' => e = .returned (.bool (lowDigC n)) ∧ w = w' := by
  unfold lowDigC
  rcases hid_or (lowC n) with h | h <;> rw [h.out]
  all_goals
    go_enter Tryd.func56, Tryd.ntmps56
    go_wp2_with fail
    refine (lower_any _ _).mono ?_; rintro e w' ⟨rfl, rfl⟩; rw [h.out]
    go_wp2_with (go_at_call 65; refine (digit_any _ _).mono ?_; rintro e w' ⟨rfl, rfl⟩)
    go_ret
    exact ⟨rfl, rfl⟩
set_option maxHeartbeats 400000 in
theorem any_any (n : Int) (w : World) : Calls Tryd.prog 59 #[.int .u8 n] w fun e w' => e = .returned (.bool (anyC n)) ∧ w = w' := by
  unfold anyC
  rcases hid_or (lowC n) with h | h <;> rw [h.out]
  · rcases hid_or (upC n) with h2 | h2 <;> rw [h2.out]
    all_goals
      go_enter Tryd.func59, Tryd.ntmps59
      go_wp2_with fail
      refine (lower_any _ _).mono ?_; rintro e w' ⟨rfl, rfl⟩; rw [h.out]
      go_wp2_with fail
      refine (upper_any _ _).mono ?_; rintro e w' ⟨rfl, rfl⟩; rw [h2.out]
      go_wp2_with (go_at_call 65; refine (digit_any _ _).mono ?_; rintro e w' ⟨rfl, rfl⟩)
      go_ret
      exact ⟨rfl, rfl⟩
  · go_enter Tryd.func59, Tryd.ntmps59
    go_wp2_with fail
    refine (lower_any _ _).mono ?_; rintro e w' ⟨rfl, rfl⟩; rw [h.out]
    go_wp2
    go_ret
    exact ⟨rfl, rfl⟩

set_option maxHeartbeats 1000000 in
theorem key_any (s : ByteArray) (w : World) : Calls Tryd.prog 57 #[.string s] w fun e w' => e = .returned (.bool (keyB s.data.toList)) ∧ w = w' := by
  have E := Lib.hid (show s.toList = s.data.toList from Lib.toList_data s)
  go_enter Tryd.func57, Tryd.ntmps57
  go_wp2
  all_goals go_ret
  all_goals refine ⟨ret_bool ?_, rfl⟩
  all_goals (rw [← E.out]; clear E; simp_all [keyB, keys])
set_option maxHeartbeats 1000000 in
theorem word_any (s : ByteArray) (w : World) : Calls Tryd.prog 60 #[.string s] w fun e w' => e = .returned (.bool (wordB s.data.toList)) ∧ w = w' := by
  have E := Lib.hid (show s.toList = s.data.toList from Lib.toList_data s)
  go_enter Tryd.func60, Tryd.ntmps60
  go_wp2
  all_goals go_ret
  all_goals refine ⟨ret_bool ?_, rfl⟩
  all_goals (rw [← E.out]; clear E; simp_all [wordB, words])

end Go.Proofs.YtnnppdlhmcobcaaDoor
