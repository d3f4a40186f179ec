/-
  The walks of strings.Cut at one byte (whatever the text's length), of parsePart, and of Parse.
-/
import Derived.Test.YtihaggghmanamaaDoorSvB
import Derived.Test.YtihaggghmanamaaDoorSvM
namespace Go.Proofs.YtihaggghmanamaaDoor
open Go.RowKit

set_option maxHeartbeats 1000000 in
theorem cutLite (s : ByteArray) (c : UInt8) (w : World) (hs : s.size ≤ 9223372036854775807) :
    Calls Tryd.prog 29 #[.string s, .string ⟨#[c]⟩] w fun e w' => e = .returned (.tuple #[.string ⟨(Lib.cut s.data.toList [c]).1.toArray⟩, .string ⟨(Lib.cut s.data.toList [c]).2.1.toArray⟩, .bool (Lib.cut s.data.toList [c]).2.2]) ∧ ∃ n, w' = w.drewN n := by
  rcases Lib.indexB_cases s ⟨#[c]⟩ with hix | ⟨i, hix, hroom⟩
  · obtain ⟨e1, e2, e3⟩ := Lib.cutB_miss s ⟨#[c]⟩ hix
    have f1 : Lib.indexByte s.data.toList c = -1 := by rw [← Lib.index_one]; exact hix
    have F1 := Lib.hid f1; clear f1 hix
    show Calls _ _ _ _ fun e w' => e = .returned (.tuple #[.string ⟨(Lib.cut s.data.toList (⟨#[c]⟩ : ByteArray).data.toList).1.toArray⟩, .string ⟨(Lib.cut s.data.toList (⟨#[c]⟩ : ByteArray).data.toList).2.1.toArray⟩, .bool (Lib.cut s.data.toList (⟨#[c]⟩ : ByteArray).data.toList).2.2]) ∧ ∃ n, w' = w.drewN n
    rw [e1, e2, e3]; clear e1 e2 e3
    go_enter Tryd.func29, Tryd.ntmps29
    go_wp2_with fail
    refine (Tryd.stringslite_Index_one _ _ _).mono ?_; rintro e w' ⟨rfl, rfl⟩; rw [F1.out]
    go_wp2
    go_ret3
    exact ⟨rfl, 0, rfl⟩
  · obtain ⟨e1, e2, e3⟩ := Lib.cutB_hit s ⟨#[c]⟩ i hix
    have f1 : Lib.indexByte s.data.toList c = i := by rw [← Lib.index_one]; exact hix
    have F1 := Lib.hid f1; clear f1 hix
    have hroom' : i + 1 ≤ s.size := hroom
    have c1 : (0 : Int) ≤ ↑i := by omega
    have c2 : (↑i : Int) ≤ ↑s.size := by omega
    have c3 : (0 : Int) ≤ ↑i + 1 := by omega
    have c4 : (↑i + 1 : Int) ≤ ↑s.size := by omega
    clear hroom
    have hs1 : (⟨#[c]⟩ : ByteArray).size = 1 := rfl
    rw [hs1] at e2
    show Calls _ _ _ _ fun e w' => e = .returned (.tuple #[.string ⟨(Lib.cut s.data.toList (⟨#[c]⟩ : ByteArray).data.toList).1.toArray⟩, .string ⟨(Lib.cut s.data.toList (⟨#[c]⟩ : ByteArray).data.toList).2.1.toArray⟩, .bool (Lib.cut s.data.toList (⟨#[c]⟩ : ByteArray).data.toList).2.2]) ∧ ∃ n, w' = w.drewN n
    rw [e1, e2, e3]; clear e1 e2 e3
    go_enter Tryd.func29, Tryd.ntmps29
    go_wp2_with fail
    refine (Tryd.stringslite_Index_one _ _ _).mono ?_; rintro e w' ⟨rfl, rfl⟩; rw [F1.out]
    go_wp2
    have hw : IntKind.i64.wrap ((i : Int) + 1) = (i : Int) + 1 := IntWalk.i64_in _ (by omega)
    have ht : ((i : Int) + 1).toNat = i + 1 := by omega
    go_region
    go_wp2
    go_ret3
    exact ⟨rfl, 1, rfl⟩

set_option maxHeartbeats 400000 in
theorem cut_any (s : ByteArray) (c : UInt8) (w : World) (hs : s.size ≤ 9223372036854775807) :
    Calls Tryd.prog 24 #[.string s, .string ⟨#[c]⟩] w fun e w' => e = .returned (.tuple #[.string ⟨(Lib.cut s.data.toList [c]).1.toArray⟩, .string ⟨(Lib.cut s.data.toList [c]).2.1.toArray⟩, .bool (Lib.cut s.data.toList [c]).2.2]) ∧ ∃ n, w' = w.drewN n := by
  go_enter Tryd.func24, Tryd.ntmps24
  go_wp2_with fail
  refine (cutLite _ _ _ hs).mono ?_; rintro e w' ⟨rfl, n, rfl⟩
  go_wp2
  go_ret3
  exact ⟨rfl, n, rfl⟩

theorem ret_part {a x : Int} {b y : Bool} (h : x = a ∧ y = b) : Ending.returned (.tuple #[.int .i64 a, .bool b]) = .returned (.tuple #[.int .i64 x, .bool y]) := by rw [h.1, h.2]

open M in
set_option maxHeartbeats 1000000 in
/-- The loop: no nought stands ahead of others. -/
theorem part_go (s : ByteArray) (w : World) (hs : s.size ≤ 9223372036854775807) (h0 : 0 < s.size) (h1 : s.toList.isEmpty = false) (_h2 : ¬ s.toList = []) (hz : (s[0].toNat : Int) = 48 ∧ (!s.toList == [48]) = false ∨ ¬ (s[0].toNat : Int) = 48) (hg : partOf s.data.toList = partGo 0 s.data.toList) :
    Calls Tryd.prog 25 #[.string s] w fun e w' => e = .returned (.tuple #[.int .i64 (pV s.data.toList), .bool (pB s.data.toList)]) ∧ w = w' := by
  have HG := Lib.hid hg; clear hg
  rcases hz with ⟨z1, z2⟩ | z1
  all_goals
    go_enter Tryd.func25, Tryd.ntmps25
    go_wp2
    go_loop [4, 20] (fun n i => ∃ (k : Nat) (m : Int), k ≤ s.size ∧ i = .int .i64 k ∧ n = .int .i64 m ∧ 0 ≤ m ∧ m ≤ 999999999 ∧ Hid (partGo 0 (s.data.toList.take k) = some m)) (fun _ i => s.size - (intOf i).toNat)
    case atStart => exact ⟨0, 0, Nat.zero_le _, rfl, rfl, by omega, by omega, rfl⟩
    case round =>
      obtain ⟨k, m, hk, rfl, rfl, hm0, hm1, HM⟩ := hrel
      by_cases hlt : k < s.size
      · go_wp2
        all_goals
          first
          | (go_ret2
             exact ⟨ret_part (p_of_none (by rw [HG.out]; first | exact go_bad s k hlt m HM.out (by omega) | exact go_big s k hlt m HM.out (by omega))), rfl⟩)
          | (go_round
             case rel => exact ⟨k + 1, _, by omega, by go_num, rfl, by omega, by omega, go_good s k hlt m HM.out (by omega) (by omega) (by omega)⟩
             case measure => simp [intOf]; omega)
      · go_wp2
        go_ret2
        obtain rfl : k = s.size := by omega
        exact ⟨ret_part (p_of_some (by rw [HG.out, ← HM.out, List.take_of_length_le (by simp)])), rfl⟩

open M in
set_option maxHeartbeats 1000000 in
theorem part_any (s : ByteArray) (w : World) (hs : s.size ≤ 9223372036854775807) :
    Calls Tryd.prog 25 #[.string s] w fun e w' => e = .returned (.tuple #[.int .i64 (pV s.data.toList), .bool (pB s.data.toList)]) ∧ w = w' := by
  by_cases h0 : s.size = 0
  · have hl : s.data.toList = [] := by rw [← List.length_eq_zero_iff, ← Lib.size_eq]; exact h0
    have R := ret_part (a := 0) (b := false) (x := pV s.data.toList) (y := pB s.data.toList) (by rw [hl]; exact p_empty)
    rw [← R]; clear R
    have g1 : s.toList = [] := by rw [Lib.toList_data, hl]
    have g2 : s.toList.isEmpty = true := by rw [g1]; rfl
    clear hl h0
    go_enter Tryd.func25, Tryd.ntmps25
    go_wp2
    go_ret2
    exact ⟨rfl, rfl⟩
  · have hp : 0 < s.size := by omega
    have hl : s.data.toList ≠ [] := by intro e; rw [Lib.size_eq, e] at hp; simp at hp
    have g1 : ¬ s.toList = [] := by rw [Lib.toList_data]; exact hl
    have g2 : s.toList.isEmpty = false := by rw [Lib.toList_data]; simpa using hl
    have hh : s.data.toList.head? = some s[0] := by
      rw [List.head?_eq_getElem?, List.getElem?_eq_getElem (by rw [← Lib.size_eq]; exact hp)]; rfl
    by_cases hz : s[0] = 48
    · have z1 : (s[0].toNat : Int) = 48 := by rw [hz]; rfl
      by_cases h1 : s.data.toList = [48]
      · refine part_go s w hs hp g2 g1 (.inl ⟨z1, by rw [Lib.toList_data, h1]; rfl⟩) (p_go hl (fun e => e.2 h1))
      · have R := ret_part (a := 0) (b := false) (x := pV s.data.toList) (y := pB s.data.toList) (p_nought (by rw [hh, hz]) h1)
        rw [← R]; clear R
        have g3 : (!s.toList == [48]) = true := by rw [Lib.toList_data]; simpa using h1
        clear hl hh h1 hz h0
        go_enter Tryd.func25, Tryd.ntmps25
        go_wp2
        go_ret2
        exact ⟨rfl, rfl⟩
    · have z1 : ¬ (s[0].toNat : Int) = 48 := by
        intro e; apply hz; exact UInt8.toNat_inj.1 (by show s[0].toNat = 48; omega)
      refine part_go s w hs hp g2 g1 (.inr z1) (p_go hl (fun e => hz (by have := e.1; rw [hh] at this; exact Option.some.inj this)))

end Go.Proofs.YtihaggghmanamaaDoor
