/-
  A number's decimal digits, and the walk of the reference's Digits.
-/
import Derived.Test.YtnnppdlhmcobcaaDoorChecked
import Derived.Test.YtnnppdlhmcobcaaDoorBase
import Derived.WalkKit
import Derived.Lib.AppendIntMem
import Derived.Lib.ItoaLen
import Derived.Lib.IndexBytes
import Derived.Deep.RegionHeld3
import Derived.Deep.RegionWith
import Derived.IntWalk
import Derived.Laws.BitsLemmas
namespace Go.Proofs.YtnnppdlhmcobcaaDoor
open Go.RowKit

/-- A number's decimal digits. -/
def dec (n : Int) : ByteArray := ⟨(Lib.decDigits n.toNat).toArray⟩
theorem dec_size (n : Int) (h0 : 0 ≤ n) (h1 : n ≤ 9223372036854775807) : (dec n).size ≤ 20 := by
  unfold dec
  rw [Lib.size_eq, List.toList_toArray, Lib.decDigits_length]
  exact Lib.nDigits_le20 _ (by omega)

/-- An int as a byte. -/
def byteOf (x : Int) : UInt8 := UInt8.ofNat x.toNat
theorem dec_small (n : Int) (h0 : 0 ≤ n) (h1 : n < 10) : dec n = ⟨#[byteOf (48 + n)]⟩ := by
  unfold dec byteOf
  rw [show (48 + n).toNat = 48 + n.toNat by omega]
  rw [Lib.decDigits, dif_pos (by omega)]
theorem dec_big (n : Int) (h1 : 10 ≤ n) : dec n = dec (n / 10) ++ ⟨#[byteOf (48 + n % 10)]⟩ := by
  unfold dec byteOf
  rw [show (48 + n % 10).toNat = 48 + (n % 10).toNat by omega]
  rw [Lib.decDigits, dif_neg (by omega), show n.toNat / 10 = (n / 10).toNat by omega, show n.toNat % 10 = (n % 10).toNat by omega]
  exact (ByteArray.mk_append_mk _ _).symm

/-- A slice of one byte as a string, in whatever world holds its cell. -/
theorem conv_one (x : Int) (W : World) (b : Nat) (h : W.cell? ⟨b, 0, none⟩ = some (.int .u8 x)) :
    (convert 39 9 (.slice (some ⟨b, 0, none⟩) 1 1)).run Tryd.prog W = .ok (.string ⟨#[byteOf x]⟩) W :=
  run_convert_bytes_arg W 39 5 Tryd.underlying39 Tryd.underlying5 b 0 1 1 [x] rfl (fun i hi => by
    obtain rfl : i = 0 := by omega
    exact h) 9 Tryd.underlying9

set_option maxHeartbeats 1000000 in
theorem digits_small (n : Int) (w : World) (h0 : 0 ≤ n) (h1 : n < 10) :
    Calls Tryd.prog 27 #[.int .i64 n] w fun e w' => e = .returned (.string (dec n)) ∧ Below w.heap.size w w' := by
  rw [dec_small n h0 h1]
  have k := conv_one (48 + n)
  go_enter Tryd.func27, Tryd.ntmps27
  go_wp2
  go_ret
  refine ⟨rfl, ?_⟩
  repeat (first | exact Below.refl _ _ | refine Below.drew ?_ | refine below_drewN ?_ _ | refine below_new ?_ _ | refine below_put ?_ (by simp; omega) _ | refine below_over ?_ (by assumption))

set_option maxHeartbeats 1000000 in
theorem digits_step (n : Int) (w : World) (h0 : 10 ≤ n) (h1 : n ≤ 9223372036854775807)
    (ih : ∀ w : World, Calls Tryd.prog 27 #[.int .i64 (n / 10)] w fun e w' => e = .returned (.string (dec (n / 10))) ∧ Below w.heap.size w w') :
    Calls Tryd.prog 27 #[.int .i64 n] w fun e w' => e = .returned (.string (dec n)) ∧ Below w.heap.size w w' := by
  have D := Lib.hid (dec_big n h0)
  have IH := Lib.hid ih; clear ih
  have z := dec_size (n / 10) (by omega) (by omega)
  have n1 : ¬ ((dec (n / 10)).size + 1 > 9223372036854775807) := by omega
  have hq : IntKind.i64.wrap (n.tdiv 10) = n / 10 := by rw [Int.tdiv_eq_ediv_of_nonneg (by omega)]; exact IntWalk.i64_in _ (by omega)
  have hr : n.tmod 10 = n % 10 := Int.tmod_eq_emod_of_nonneg (by omega)
  have hs : IntKind.i64.wrap (48 + n % 10) = 48 + n % 10 := IntWalk.i64_in _ (by omega)
  have hs8 : IntKind.u8.wrap (48 + n % 10) = 48 + n % 10 := IntWalk.u8_in _ (by omega)
  have m0 : 0 ≤ n % 10 := by omega
  have m1 : n % 10 < 10 := by omega
  have k := conv_one (48 + n % 10)
  go_enter Tryd.func27, Tryd.ntmps27
  go_wp2_with fail
  go_region_with (go_at_call 27; refine (IH.out _).mono ?_; rintro e w1 ⟨rfl, hbw⟩; obtain ⟨hcw, hfw⟩ := bcell hbw)
  all_goals
    go_wp2
    go_ret
    rw [D.out]
    refine ⟨rfl, ?_⟩
    repeat (first | exact Below.refl _ _ | refine Below.drew ?_ | refine below_drewN ?_ _ | refine below_new ?_ _ | refine below_put ?_ (by simp; omega) _ | refine below_over ?_ (by assumption))

theorem digits_nat : ∀ (m : Nat) (n : Int) (w : World), n.toNat < m → 0 ≤ n → n ≤ 9223372036854775807 →
    Calls Tryd.prog 27 #[.int .i64 n] w fun e w' => e = .returned (.string (dec n)) ∧ Below w.heap.size w w'
  | 0, n, w, h, _, _ => by omega
  | m + 1, n, w, h, h0, h1 => by
    by_cases hs : n < 10
    · exact digits_small n w h0 hs
    · exact digits_step n w (by omega) h1 (fun w => digits_nat m (n / 10) w (by omega) (by omega) (by omega))
theorem digits_any (n : Int) (w : World) (h0 : 0 ≤ n) (h1 : n ≤ 9223372036854775807) :
    Calls Tryd.prog 27 #[.int .i64 n] w fun e w' => e = .returned (.string (dec n)) ∧ Below w.heap.size w w' :=
  digits_nat (n.toNat + 1) n w (by omega) h0 h1

end Go.Proofs.YtnnppdlhmcobcaaDoor
