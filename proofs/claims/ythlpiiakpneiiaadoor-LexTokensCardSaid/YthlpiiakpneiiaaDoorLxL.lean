/-
  The walk of LexTokens: whatever text is handed in.
-/
import Derived.Test.YthlpiiakpneiiaaDoorLxU
import Derived.Test.YthlpiiakpneiiaaDoorLxR
namespace Go.Proofs.YthlpiiakpneiiaaDoor
open Go.RowKit
open M

theorem ref_yes (s : ByteArray) (ts : List Tok) (w : World) (hs : s.size ≤ 20000) (h : fin s 0 [] = (ts, -1)) :
    Calls Tryd.prog 7 #[.string s] w fun e w' => ∃ A c, e = .returned (.tuple #[.slice A ts.length c, .int .i64 (-1)]) ∧ RowAt w' A ts ∧ Below w.heap.size w w' := by
  refine (refTokens_any s w hs).mono ?_
  rintro e w' ⟨hb, ⟨v, ts', hf, rfl, hown, -⟩ | ⟨k, hf, -⟩⟩
  · rw [h] at hf
    obtain rfl : ts = ts' := (Prod.mk.inj hf).1
    obtain ⟨A, c, rfl, hr⟩ := own_rowAt hown
    exact ⟨A, c, rfl, hr, hb⟩
  · rw [h] at hf
    have := (Prod.mk.inj hf).2
    omega
theorem ref_no (s : ByteArray) (k : Nat) (w : World) (hs : s.size ≤ 20000) (h : fin s 0 [] = ([], (k : Int))) :
    Calls Tryd.prog 7 #[.string s] w fun e w' => e = .returned (.tuple #[.slice none 0 0, .int .i64 k]) ∧ Below w.heap.size w w' := by
  refine (refTokens_any s w hs).mono ?_
  rintro e w' ⟨hb, ⟨v, ts', hf, -⟩ | ⟨k', hf, rfl⟩⟩
  · rw [h] at hf
    have := (Prod.mk.inj hf).2
    omega
  · rw [h] at hf
    have : (k : Int) = k' := (Prod.mk.inj hf).2
    obtain rfl : k = k' := by omega
    exact ⟨rfl, hb⟩

set_option maxHeartbeats 2000000 in
theorem lexTokens_any (s : ByteArray) (w : World) (hs : s.size ≤ 9223372036854775807) (hg : ErrT w) :
    Calls Tryd.prog 3 #[.string s] w fun e w' => e = .returned (.bool true) ∧ Below w.heap.size w w' := by
  by_cases hn : 20000 < s.size
  · have hn' : (20000 : Int) < s.size := by omega
    have he := sp_eqCode 3 3
    go_enter Tryd.func3, Tryd.ntmps3
    go_wp2_with fail
    refine (up_any _ hg).mono ?_; rintro e w1 ⟨rfl, hb1⟩
    go_wp2_with fail
    refine (tokens_large _ _ hn).mono ?_; rintro e w' ⟨rfl, rfl⟩
    go_wp2
    go_ret
    exact ⟨rfl, hb1⟩
  · have hs' : s.size ≤ 20000 := by omega
    have hn' : ¬ (20000 : Int) < s.size := by omega
    rcases fin_at s s.size 0 [] (by omega) with hf | ⟨k, hk, hf⟩
    · have HF : Hid (fin s 0 [] = ((fin s 0 []).1, -1)) := Lib.hid (by rw [← hf])
      clear hf
      go_enter Tryd.func3, Tryd.ntmps3
      go_wp2_with fail
      refine (up_any _ hg).mono ?_; rintro e w1 ⟨rfl, hb1⟩
      go_wp2_with fail
      refine (tokens_yes s _ _ hs' HF.out).mono ?_; rintro e w2 ⟨A, c, rfl, hl, hr, hb2⟩
      have HR := Lib.hid hr
      clear hr
      go_wp2_with fail
      refine (ref_yes s _ _ hs' HF.out).mono ?_; rintro e w3 ⟨B, d, rfl, hr', hb3⟩
      have HR3 := Lib.hid (HR.out.below hb3)
      have HR' := Lib.hid hr'
      clear hr'
      go_wp2_with fail
      refine (same_any A B c d _ _ hl HR3.out HR'.out).mono ?_; rintro e w4 ⟨rfl, hb4⟩
      go_wp2
      go_ret
      exact ⟨rfl, below_over (below_over (below_over hb1 hb2) hb3) hb4⟩
    · have HF := Lib.hid hf
      clear hf
      go_enter Tryd.func3, Tryd.ntmps3
      go_wp2_with fail
      refine (up_any _ hg).mono ?_; rintro e w1 ⟨rfl, hb1⟩
      go_wp2_with fail
      refine (tokens_no s k _ hs' HF.out).mono ?_; rintro e w2 ⟨b, rfl, h1, h2, h3, h4, hb2⟩
      go_wp2_with fail
      refine (ref_no s k _ hs' HF.out).mono ?_; rintro e w3 ⟨rfl, hb3⟩
      have ht := hg.on (below_over (below_over hb1 hb2) hb3)
      have c0 := cell_on hb3 h2 h3
      have c1 := cell_on hb3 h2 h4
      have h2' := Nat.lt_of_lt_of_le h2 hb3.size
      have hbb := below_over (below_over hb1 hb2) hb3
      clear h3 h4 h2 h1 hb1 hb2 hb3
      go_wp2_with fail
      refine (isSpot_any b k 2 _ ht h2' c0 c1).mono ?_; rintro e w4 ⟨rfl, hb4⟩
      go_wp2
      go_ret
      exact ⟨rfl, below_over hbb hb4⟩

end Go.Proofs.YthlpiiakpneiiaaDoor
