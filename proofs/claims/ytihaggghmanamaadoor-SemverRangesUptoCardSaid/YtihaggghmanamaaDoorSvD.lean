/-
  The walk of semver.Parse: its two contracts, where the text is a version's and where it is none's.
-/
import Derived.Test.YtihaggghmanamaaDoorSvC
namespace Go.Proofs.YtihaggghmanamaaDoor
open Go.RowKit

theorem cut_is (s : ByteArray) (c : UInt8) (w : World) (hs : s.size ≤ 9223372036854775807) :
    Calls Tryd.prog 24 #[.string s, .string ⟨#[c]⟩] w fun e w' => ∃ (A B : ByteArray) (f : Bool) (n : Nat), A.data.toList = (Lib.cut s.data.toList [c]).1 ∧ B.data.toList = (Lib.cut s.data.toList [c]).2.1 ∧ A.size ≤ s.size ∧ B.size ≤ s.size ∧ e = .returned (.tuple #[.string A, .string B, .bool f]) ∧ w' = w.drewN n :=
  (cut_any s c w hs).mono fun e w' ⟨h, n, hn⟩ => ⟨_, _, _, n, List.toList_toArray, List.toList_toArray, by rw [Lib.size_eq, Lib.size_eq]; exact (M.cut_le _ _).1, by rw [Lib.size_eq, Lib.size_eq]; exact (M.cut_le _ _).2, h, hn⟩

/-- Whether a text is a version's. -/
def isVer (l : List UInt8) : Bool := M.pB (M.t1 l) && (M.pB (M.t2 l) && (M.pB (M.t3 l) && okVer (M.pV (M.t1 l)) (M.pV (M.t2 l)) (M.pV (M.t3 l))))

set_option maxHeartbeats 1000000 in
theorem parse_yes (s : ByteArray) (w : World) (hs : s.size ≤ 9223372036854775807) (h : isVer s.data.toList = true) :
    Calls Tryd.prog 11 #[.string s] w fun e w' => e = .returned (.tuple #[.agg #[.int .i64 (M.pV (M.t1 s.data.toList)), .int .i64 (M.pV (M.t2 s.data.toList)), .int .i64 (M.pV (M.t3 s.data.toList))], .nilIface]) ∧ Below w.heap.size w w' := by
  simp only [isVer, Bool.and_eq_true] at h
  obtain ⟨h1, h2, h3, h4⟩ := h
  have H1 := Lib.hid h1; have H2 := Lib.hid h2; have H3 := Lib.hid h3; have H4 := Lib.hid h4
  clear h1 h2 h3 h4
  go_enter Tryd.func11, Tryd.ntmps11
  go_wp2_with fail
  refine (cut_is _ _ _ hs).mono ?_; rintro e w' ⟨A, B, f, n, hA, hB, hA2, hB2, rfl, rfl⟩
  have eA : A.data.toList = M.t1 s.data.toList := hA
  have EA := Lib.hid eA; have HB := Lib.hid hB; clear hA eA hB
  go_wp2_with fail
  refine (cut_is _ _ _ (by omega)).mono ?_; rintro e w' ⟨C, D, g, n2, hC, hD, hC2, hD2, rfl, rfl⟩
  have eC : C.data.toList = M.t2 s.data.toList := by rw [hC, HB.out]; rfl
  have eD : D.data.toList = M.t3 s.data.toList := by rw [hD, HB.out]; rfl
  have EC := Lib.hid eC; have ED := Lib.hid eD; clear hC eC hD eD HB
  go_wp2_with fail
  refine (part_any _ _ (by omega)).mono ?_; rintro e w' ⟨rfl, rfl⟩; rw [EA.out, H1.out]
  go_wp2_with fail
  refine (part_any _ _ (by omega)).mono ?_; rintro e w' ⟨rfl, rfl⟩; rw [EC.out, H2.out]
  go_wp2_with fail
  refine (part_any _ _ (by omega)).mono ?_; rintro e w' ⟨rfl, rfl⟩; rw [ED.out, H3.out]
  go_wp2_with fail
  refine (may_any _ _ _ _).mono ?_; rintro e w1 ⟨rfl, hb⟩; rw [H4.out]
  obtain ⟨hc, hf⟩ := bcell hb
  have hz : w.heap.size + 1 < w1.heap.size := by have := hb.size; simp at this; omega
  have hz0 : w.heap.size < w1.heap.size := by omega
  go_wp2
  refine bodyPost_ret (v := .tuple #[.agg #[.int .i64 (M.pV (M.t1 s.data.toList)), .int .i64 (M.pV (M.t2 s.data.toList)), .int .i64 (M.pV (M.t3 s.data.toList))], .nilIface]) (by simp [results, Tryd.results11, go_sem, hc, show w.heap.size < w.heap.size + 1 + 1 from by omega]) rfl ⟨rfl, ?_⟩
  repeat (first | exact Below.refl _ _ | refine Below.drew ?_ | refine below_drewN ?_ _ | refine below_new ?_ _ | refine below_put ?_ (by simp) _ | refine below_over ?_ (by assumption))

set_option maxHeartbeats 1000000 in
theorem parse_no (s : ByteArray) (w : World) (hs : s.size ≤ 9223372036854775807) (h : isVer s.data.toList = false) :
    Calls Tryd.prog 11 #[.string s] w fun e w' => e = .returned (.tuple #[.agg #[.int .i64 0, .int .i64 0, .int .i64 0], .iface 31 (.int .i64 2)]) ∧ Below w.heap.size w w' := by
  simp only [isVer, Bool.and_eq_false_iff] at h
  have H : Hid (M.pB (M.t1 s.data.toList) = false) ∨ Hid (M.pB (M.t1 s.data.toList) = true) ∧ Hid (M.pB (M.t2 s.data.toList) = false) ∨ Hid (M.pB (M.t1 s.data.toList) = true) ∧ Hid (M.pB (M.t2 s.data.toList) = true) ∧ Hid (M.pB (M.t3 s.data.toList) = false) ∨ Hid (M.pB (M.t1 s.data.toList) = true) ∧ Hid (M.pB (M.t2 s.data.toList) = true) ∧ Hid (M.pB (M.t3 s.data.toList) = true) ∧ Hid (okVer (M.pV (M.t1 s.data.toList)) (M.pV (M.t2 s.data.toList)) (M.pV (M.t3 s.data.toList)) = false) := by
    unfold Hid
    revert h
    generalize M.pB (M.t1 s.data.toList) = x1
    generalize M.pB (M.t2 s.data.toList) = x2
    generalize M.pB (M.t3 s.data.toList) = x3
    generalize okVer (M.pV (M.t1 s.data.toList)) (M.pV (M.t2 s.data.toList)) (M.pV (M.t3 s.data.toList)) = x4
    cases x1 <;> cases x2 <;> cases x3 <;> cases x4 <;> simp
  clear h
  go_enter Tryd.func11, Tryd.ntmps11
  go_wp2_with fail
  refine (cut_is _ _ _ hs).mono ?_; rintro e w' ⟨A, B, f, n, hA, hB, hA2, hB2, rfl, rfl⟩
  have eA : A.data.toList = M.t1 s.data.toList := hA
  have EA := Lib.hid eA; have HB := Lib.hid hB; clear hA eA hB
  go_wp2_with fail
  refine (cut_is _ _ _ (by omega)).mono ?_; rintro e w' ⟨C, D, g, n2, hC, hD, hC2, hD2, rfl, rfl⟩
  have eC : C.data.toList = M.t2 s.data.toList := by rw [hC, HB.out]; rfl
  have eD : D.data.toList = M.t3 s.data.toList := by rw [hD, HB.out]; rfl
  have EC := Lib.hid eC; have ED := Lib.hid eD; clear hC eC hD eD HB
  go_wp2_with fail
  refine (part_any _ _ (by omega)).mono ?_; rintro e w' ⟨rfl, rfl⟩; rw [EA.out]
  go_wp2_with fail
  refine (part_any _ _ (by omega)).mono ?_; rintro e w' ⟨rfl, rfl⟩; rw [EC.out]
  go_wp2_with fail
  refine (part_any _ _ (by omega)).mono ?_; rintro e w' ⟨rfl, rfl⟩; rw [ED.out]
  rcases H with H1 | ⟨H1, H2⟩ | ⟨H1, H2, H3⟩ | ⟨H1, H2, H3, H4⟩
  · rw [H1.out]
    go_wp2
    refine bodyPost_ret (v := .tuple #[.agg #[.int .i64 0, .int .i64 0, .int .i64 0], .iface 31 (.int .i64 2)]) (by simp [results, Tryd.results11, go_sem]) rfl ⟨rfl, ?_⟩
    repeat (first | exact Below.refl _ _ | refine Below.drew ?_ | refine below_drewN ?_ _ | refine below_new ?_ _ | refine below_put ?_ (by simp) _ | refine below_over ?_ (by assumption))
  · rw [H1.out, H2.out]
    go_wp2
    refine bodyPost_ret (v := .tuple #[.agg #[.int .i64 0, .int .i64 0, .int .i64 0], .iface 31 (.int .i64 2)]) (by simp [results, Tryd.results11, go_sem]) rfl ⟨rfl, ?_⟩
    repeat (first | exact Below.refl _ _ | refine Below.drew ?_ | refine below_drewN ?_ _ | refine below_new ?_ _ | refine below_put ?_ (by simp) _ | refine below_over ?_ (by assumption))
  · rw [H1.out, H2.out, H3.out]
    go_wp2
    refine bodyPost_ret (v := .tuple #[.agg #[.int .i64 0, .int .i64 0, .int .i64 0], .iface 31 (.int .i64 2)]) (by simp [results, Tryd.results11, go_sem]) rfl ⟨rfl, ?_⟩
    repeat (first | exact Below.refl _ _ | refine Below.drew ?_ | refine below_drewN ?_ _ | refine below_new ?_ _ | refine below_put ?_ (by simp) _ | refine below_over ?_ (by assumption))
  · rw [H1.out, H2.out, H3.out]
    go_wp2_with fail
    refine (may_any _ _ _ _).mono ?_; rintro e w1 ⟨rfl, hb⟩; rw [H4.out]
    obtain ⟨hc, hf⟩ := bcell hb
    have hz : w.heap.size + 1 < w1.heap.size := by have := hb.size; simp at this; omega
    have hz0 : w.heap.size < w1.heap.size := by omega
    go_wp2
    refine bodyPost_ret (v := .tuple #[.agg #[.int .i64 0, .int .i64 0, .int .i64 0], .iface 31 (.int .i64 2)]) (by simp [results, Tryd.results11, go_sem, hc, show w.heap.size < w.heap.size + 1 + 1 from by omega]) rfl ⟨rfl, ?_⟩
    repeat (first | exact Below.refl _ _ | refine Below.drew ?_ | refine below_drewN ?_ _ | refine below_new ?_ _ | refine below_put ?_ (by simp) _ | refine below_over ?_ (by assumption))

end Go.Proofs.YtihaggghmanamaaDoor
