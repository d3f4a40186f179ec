/-
  Walks of the reference's small names and great names (IdD without the examples of layer 2's statements).
-/
import Derived.Test.YtnnppdlhmcobcaaDoorIdC
namespace Go.Proofs.YtnnppdlhmcobcaaDoor
open Go.RowKit
open M

theorem letters_pos {g : Int → Bool} {s : ByteArray} (h : letters g s.data.toList = true) : 0 < s.size := by
  have := ((letters_iff _ _).1 h).1; rwa [len_size] at this
theorem below_chain {w a b : World} (h1 : Below w.heap.size w a) (h2 : a = b) : Below w.heap.size w b := h2 ▸ h1

set_option maxHeartbeats 1000000 in
theorem refSmall_any (s : ByteArray) (w : World) (hs : s.size ≤ 9223372036854775807) :
    Calls Tryd.prog 39 #[.string s] w fun e w' => e = .returned (.bool (smallB s.data.toList)) ∧ Below w.heap.size w w' := by
  rcases hid_or (letters lowDigC s.data.toList) with h | h
  · have R := Lib.hid (small_none _ h.out)
    rw [R.out]; clear R
    go_enter Tryd.func39, Tryd.ntmps39
    go_wp2_with fail
    refine (letters_low _ _ hs).mono ?_; rintro e w' ⟨rfl, rfl⟩; rw [h.out]
    go_wp2_with fail
    refine (refKey_any _ _).mono ?_; rintro e w1 ⟨rfl, hb1⟩
    go_wp2
    go_ret
    exact ⟨rfl, hb1⟩
  · have R := Lib.hid (small_ref _ h.out)
    have hp := letters_pos h.out
    have B0 := Lib.hid (bt_eq s 0 hp)
    rw [R.out]; clear R
    rcases hid_or (keyB s.data.toList) with h2 | h2 <;> rw [h2.out]
    · rw [← B0.out]
      go_enter Tryd.func39, Tryd.ntmps39
      go_wp2_with fail
      refine (letters_low _ _ hs).mono ?_; rintro e w' ⟨rfl, rfl⟩; rw [h.out]
      go_wp2_with fail
      refine (refKey_any _ _).mono ?_; rintro e w1 ⟨rfl, hb1⟩; rw [h2.out]
      go_wp2
      go_ret
      exact ⟨rfl, hb1⟩
    · go_enter Tryd.func39, Tryd.ntmps39
      go_wp2_with fail
      refine (letters_low _ _ hs).mono ?_; rintro e w' ⟨rfl, rfl⟩; rw [h.out]
      go_wp2_with fail
      refine (refKey_any _ _).mono ?_; rintro e w1 ⟨rfl, hb1⟩; rw [h2.out]
      go_wp2
      go_ret
      exact ⟨rfl, hb1⟩

set_option maxHeartbeats 1000000 in
theorem refGreat_any (s : ByteArray) (w : World) (hs : s.size ≤ 9223372036854775807) :
    Calls Tryd.prog 40 #[.string s] w fun e w' => e = .returned (.bool (greatB s.data.toList)) ∧ w = w' := by
  rcases hid_or (letters anyC s.data.toList) with h | h
  · have R := Lib.hid (great_none _ h.out)
    rw [R.out]; clear R
    go_enter Tryd.func40, Tryd.ntmps40
    go_wp2_with fail
    refine (letters_big _ _ hs).mono ?_; rintro e w' ⟨rfl, rfl⟩; rw [h.out]
    go_wp2
    go_ret
    exact ⟨rfl, rfl⟩
  · have R := Lib.hid (great_ref _ h.out)
    have hp := letters_pos h.out
    have B0 := Lib.hid (bt_eq s 0 hp)
    have E := Lib.hid (show s.toList = s.data.toList from Lib.toList_data s)
    unfold greatB
    rw [R.out, ← B0.out, ← E.out]; clear R B0
    go_enter Tryd.func40, Tryd.ntmps40
    go_wp2_with fail
    refine (letters_big _ _ hs).mono ?_; rintro e w' ⟨rfl, rfl⟩; rw [h.out]
    go_wp2
    all_goals go_ret
    all_goals refine ⟨ret_bool ?_, rfl⟩
    all_goals (clear h E; rw [Bool.eq_iff_iff]; simp_all [wordB, words] <;> (intros; omega))

end Go.Proofs.YtnnppdlhmcobcaaDoor
