/-
  The walk of LexJoins: whatever tokens are handed in.
-/
import Derived.Test.YthlpiiakpneiiaaDoorLxJ
namespace Go.Proofs.YthlpiiakpneiiaaDoor
open Go.RowKit
open M

set_option maxRecDepth 100000 in
set_option maxHeartbeats 4000000 in
theorem lexJoins_any (A : Option Addr) (n c : Nat) (T : Nat → ByteArray) (w : World) (hn : n ≤ 9223372036854775807) (hT : TextsAt w A n T) (hg : ErrT w) :
    Calls Tryd.prog 4 #[.slice A n c] w fun e w' => e = .returned (.bool true) ∧ Below w.heap.size w w' := by
  by_cases h5 : 500 < n
  · have h5' : (500 : Int) < n := by omega
    clear hT
    go_enter Tryd.func4, Tryd.ntmps4
    go_wp2_with fail
    refine (up_any _ hg).mono ?_; rintro e w1 ⟨rfl, hb1⟩
    go_wp2
    go_ret
    exact ⟨rfl, hb1⟩
  · have h5' : ¬ (500 : Int) < n := by omega
    have hn5 : n ≤ 500 := by omega
    have HT := Lib.hid hT
    clear hT h5
    go_enter Tryd.func4, Tryd.ntmps4
    go_wp2_with fail
    refine (up_any _ hg).mono ?_; rintro e w1 ⟨rfl, hb1⟩
    have HT1 := Lib.hid (HT.out.below hb1)
    go_wp2
    go_loop [4, 5] (fun s i => ∃ k : Nat, k ≤ n ∧ i = .int .i64 k ∧ s = .string (jnB T k) ∧ Hid (∀ j, j < k → (T j).size ≤ 1000)) (fun _ i => n - (intOf i).toNat)
    case atStart => exact ⟨0, by omega, rfl, rfl, Lib.hid (fun j hj => by omega)⟩
    case round =>
      obtain ⟨k, hk, rfl, rfl, HS⟩ := hrel
      by_cases hlt : k < n
      · obtain ⟨g, o, x, y, rfl, -, -, -, a2⟩ := HT1.out k hlt
        by_cases hz : 1000 < (T k).size
        · have hz' : (1000 : Int) < (T k).size := by omega
          go_wp2
          go_ret
          exact ⟨rfl, hb1⟩
        · have hz' : ¬ (1000 : Int) < (T k).size := by omega
          have HS1 : Hid (∀ j, j < k + 1 → (T j).size ≤ 1000) := Lib.hid (fun j hj => by
            rcases Nat.lt_or_ge j k with a | a
            · exact HS.out j a
            · rw [show j = k by omega]; omega)
          have hjl := jn_len T k HS.out
          have hjs := jnB_size T k
          rcases Nat.eq_zero_or_pos k with hp | hp
          · have hp' : ¬ (0 : Int) < k := by omega
            have HJ : Hid (jnB T k ++ T k = jnB T (k + 1)) := Lib.hid (by subst hp; exact jnB_first T)
            have n1 : ¬ ((jnB T k).size + (T k).size > 9223372036854775807) := by omega
            clear hp hjl hjs
            go_wp2
            rw [HJ.out]
            go_round
            case rel => exact ⟨k + 1, by omega, by go_num, rfl, HS1⟩
            case measure => simp [intOf]; omega
          · have hp' : (0 : Int) < k := by omega
            have HJ : Hid (jnB T k ++ ⟨#[32]⟩ ++ T k = jnB T (k + 1)) := Lib.hid (jnB_more T k hp)
            have n1 : ¬ ((jnB T k).size + 1 > 9223372036854775807) := by omega
            have n2 : ¬ ((jnB T k).size + 1 + (T k).size > 9223372036854775807) := by omega
            clear hp hjl hjs
            go_wp2
            rw [HJ.out]
            go_round
            case rel => exact ⟨k + 1, by omega, by go_num, rfl, HS1⟩
            case measure => simp [intOf]; omega
      · obtain rfl : k = n := by omega
        go_wp2_with fail
        refine (join_any A k c T _ hn5 HT1.out HS.out).mono ?_; rintro e w2 ⟨rfl, hb2⟩
        go_wp2
        go_ret
        exact ⟨rfl, below_over hb1 hb2⟩

end Go.Proofs.YthlpiiakpneiiaaDoor
