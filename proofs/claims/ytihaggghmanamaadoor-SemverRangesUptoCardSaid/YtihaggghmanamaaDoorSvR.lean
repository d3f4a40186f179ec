/-
  The walks of the reference's Digits and Print.
-/
import Derived.Test.YtihaggghmanamaaDoorSvP
namespace Go.Proofs.YtihaggghmanamaaDoor
open Go.RowKit

/-- An int as a byte. -/
def byteOf (x : Int) : UInt8 := UInt8.ofNat x.toNat
theorem dec_small (n : Int) (h0 : 0 ≤ n) (h1 : n < 10) : dec n = ⟨#[byteOf (48 + n)]⟩ := by
  unfold dec byteOf
  rw [show (48 + n).toNat = 48 + n.toNat by omega]
  rw [Lib.decDigits, dif_pos (by omega)]
theorem dec_big (n : Int) (h1 : 10 ≤ n) : dec n = dec (n / 10) ++ ⟨#[byteOf (48 + n % 10)]⟩ := by
  unfold dec byteOf
  rw [show (48 + n % 10).toNat = 48 + (n % 10).toNat by omega]
  rw [Lib.decDigits, dif_neg (by omega), show n.toNat / 10 = (n / 10).toNat by omega, show n.toNat % 10 = (n % 10).toNat by omega]
  exact (ByteArray.mk_append_mk _ _).symm

/-- A slice of one byte as a string, in whatever world holds its cell. -/
theorem conv_one (x : Int) (W : World) (b : Nat) (h : W.cell? ⟨b, 0, none⟩ = some (.int .u8 x)) :
    (convert 56 9 (.slice (some ⟨b, 0, none⟩) 1 1)).run Tryd.prog W = .ok (.string ⟨#[byteOf x]⟩) W :=
  run_convert_bytes_arg W 56 5 Tryd.underlying56 Tryd.underlying5 b 0 1 1 [x] rfl (fun i hi => by
    obtain rfl : i = 0 := by omega
    exact h) 9 Tryd.underlying9

set_option maxHeartbeats 1000000 in
theorem digits_small (n : Int) (w : World) (h0 : 0 ≤ n) (h1 : n < 10) :
    Calls Tryd.prog 23 #[.int .i64 n] w fun e w' => e = .returned (.string (dec n)) ∧ Below w.heap.size w w' := by
  rw [dec_small n h0 h1]
  have k := conv_one (48 + n)
  go_enter Tryd.func23, Tryd.ntmps23
  go_wp2
  go_ret
  refine ⟨rfl, ?_⟩
  repeat (first | exact Below.refl _ _ | refine Below.drew ?_ | refine below_drewN ?_ _ | refine below_new ?_ _ | refine below_put ?_ (by simp; omega) _ | refine below_over ?_ (by assumption))

set_option maxHeartbeats 1000000 in
theorem digits_step (n : Int) (w : World) (h0 : 10 ≤ n) (h1 : n ≤ 9223372036854775807)
    (ih : ∀ w : World, Calls Tryd.prog 23 #[.int .i64 (n / 10)] w fun e w' => e = .returned (.string (dec (n / 10))) ∧ Below w.heap.size w w') :
    Calls Tryd.prog 23 #[.int .i64 n] w fun e w' => e = .returned (.string (dec n)) ∧ Below w.heap.size w w' := by
  have D := Lib.hid (dec_big n h0)
  have IH := Lib.hid ih; clear ih
  have z := dec_size (n / 10) (by omega) (by omega)
  have n1 : ¬ ((dec (n / 10)).size + 1 > 9223372036854775807) := by omega
  have hq : IntKind.i64.wrap (n.tdiv 10) = n / 10 := by rw [Int.tdiv_eq_ediv_of_nonneg (by omega)]; exact IntWalk.i64_in _ (by omega)
  have hr : n.tmod 10 = n % 10 := Int.tmod_eq_emod_of_nonneg (by omega)
  have hs : IntKind.i64.wrap (48 + n % 10) = 48 + n % 10 := IntWalk.i64_in _ (by omega)
  have hs8 : IntKind.u8.wrap (48 + n % 10) = 48 + n % 10 := IntWalk.u8_in _ (by omega)
  have m0 : 0 ≤ n % 10 := by omega
  have m1 : n % 10 < 10 := by omega
  have k := conv_one (48 + n % 10)
  go_enter Tryd.func23, Tryd.ntmps23
  go_wp2_with fail
  go_region_with (go_at_call 23; refine (IH.out _).mono ?_; rintro e w1 ⟨rfl, hbw⟩; obtain ⟨hcw, hfw⟩ := bcell hbw)
  all_goals
    go_wp2
    go_ret
    rw [D.out]
    refine ⟨rfl, ?_⟩
    repeat (first | exact Below.refl _ _ | refine Below.drew ?_ | refine below_drewN ?_ _ | refine below_new ?_ _ | refine below_put ?_ (by simp; omega) _ | refine below_over ?_ (by assumption))

theorem digits_nat : ∀ (m : Nat) (n : Int) (w : World), n.toNat < m → 0 ≤ n → n ≤ 9223372036854775807 →
    Calls Tryd.prog 23 #[.int .i64 n] w fun e w' => e = .returned (.string (dec n)) ∧ Below w.heap.size w w'
  | 0, n, w, h, _, _ => by omega
  | m + 1, n, w, h, h0, h1 => by
    by_cases hs : n < 10
    · exact digits_small n w h0 hs
    · exact digits_step n w (by omega) h1 (fun w => digits_nat m (n / 10) w (by omega) (by omega) (by omega))
theorem digits_any (n : Int) (w : World) (h0 : 0 ≤ n) (h1 : n ≤ 9223372036854775807) :
    Calls Tryd.prog 23 #[.int .i64 n] w fun e w' => e = .returned (.string (dec n)) ∧ Below w.heap.size w w' :=
  digits_nat (n.toNat + 1) n w (by omega) h0 h1

set_option maxHeartbeats 1000000 in
theorem refPrint_any (a b c : Int) (w : World) (ha : 0 ≤ a ∧ a ≤ 9223372036854775807) (hb : 0 ≤ b ∧ b ≤ 9223372036854775807) (hc : 0 ≤ c ∧ c ≤ 9223372036854775807) (hp : Pow w) :
    Calls Tryd.prog 10 #[.agg #[.int .i64 a, .int .i64 b, .int .i64 c]] w fun e w' => e = .returned (.string (verText a b c)) ∧ Below w.heap.size w w' := by
  obtain ⟨ha1, ha2⟩ := ha; obtain ⟨hb1, hb2⟩ := hb; obtain ⟨hc1, hc2⟩ := hc
  have hT : TS w.heap.size a b c (w.alloc (.cells #[.int .i64 a, .int .i64 b, .int .i64 c] 23)) (w.alloc (.cells #[.int .i64 a, .int .i64 b, .int .i64 c] 23)) :=
    ⟨Below.refl _ _, by simp, by go_simp, by go_simp, by go_simp, hp.on (below_new (Below.refl _ _) _)⟩
  clear hp
  have z1 := dec_size a ha1 ha2
  have z2 := dec_size b hb1 hb2
  have z3 := dec_size c hc1 hc2
  have n1 : ¬ ((dec a).size + 1 > 9223372036854775807) := by omega
  have n2 : ¬ ((dec a).size + 1 + (dec b).size > 9223372036854775807) := by omega
  have n3 : ¬ ((dec a).size + 1 + (dec b).size + 1 > 9223372036854775807) := by omega
  have n4 : ¬ ((dec a).size + 1 + (dec b).size + 1 + (dec c).size > 9223372036854775807) := by omega
  go_enter Tryd.func10, Tryd.ntmps10
  go_wp2_with fail
  go_region_held3 (fun w' => w'.cell? ⟨w.heap.size, 0, none⟩ = some (.int .i64 a) ∧ w'.cell? ⟨w.heap.size, 1, none⟩ = some (.int .i64 b) ∧ w'.cell? ⟨w.heap.size, 2, none⟩ = some (.int .i64 c) ∧ TS w.heap.size a b c (w.alloc (.cells #[.int .i64 a, .int .i64 b, .int .i64 c] 23)) w')
    (first | exact (TS.drew hT).all | (go_split_ands; refine (TS.on ?_ hbw).all; assumption))
    (first | (go_at_call 23; go_split_ands; refine (digits_any _ _ ?_ ?_).mono ?_; (omega); (omega); rintro e w1 ⟨rfl, hbw⟩))
  go_wp2
  go_ret
  go_split_ands
  refine ⟨rfl, ?_⟩
  repeat refine Below.drew ?_
  refine below_over (below_new (Below.refl _ _) _) (TS.below (k := w.heap.size) (a := a) (b := b) (c := c) (W0 := w.alloc (.cells #[.int .i64 a, .int .i64 b, .int .i64 c] 23)) (by assumption))

end Go.Proofs.YtihaggghmanamaaDoor
