/-
  The walks of semver's text and Print: the numbers in decimal digits, points between.
-/
import Derived.Test.YtihaggghmanamaaDoorSvU
import Derived.Lib.AppendIntMem
import Derived.Lib.ItoaLen
import Derived.Deep.RegionHeld3
namespace Go.Proofs.YtihaggghmanamaaDoor
open Go.RowKit

/-- The library's table of powers of ten lies as the program's text lays it. -/
def Pow (w : World) : Prop := Lib.TabIs Tryd.prog w "internal/strconv.uint64pow10" .u64 Lib.pow10Tab
theorem Pow.on {w w' : World} (h : Pow w) (hb : Below w.heap.size w w') : Pow w' := Lib.tabBelow_of_tabIs h w' hb

/-- A number's decimal digits. -/
def dec (n : Int) : ByteArray := ⟨(Lib.decDigits n.toNat).toArray⟩
/-- A version's text. -/
def verText (a b c : Int) : ByteArray := dec a ++ ⟨#[46]⟩ ++ dec b ++ ⟨#[46]⟩ ++ dec c

theorem dec_size (n : Int) (h0 : 0 ≤ n) (h1 : n ≤ 9223372036854775807) : (dec n).size ≤ 20 := by
  unfold dec
  rw [Lib.size_eq, List.toList_toArray, Lib.decDigits_length]
  exact Lib.nDigits_le20 _ (by omega)

theorem itoa_any (n : Int) (w : World) (h0 : 0 ≤ n) (h1 : n ≤ 9223372036854775807) (hp : Pow w) :
    Calls Tryd.prog 28 #[.int .i64 n] w fun e w' => e = .returned (.string (dec n)) ∧ Below w.heap.size w w' :=
  (Tryd.strconv_Itoa n (by omega) h1 w hp).mono fun e w' ⟨he, k, os, hw⟩ => by
    subst hw
    refine ⟨?_, ⟨rfl, rfl, rfl, Lib.size_grow _ _ _, ?_⟩⟩
    · rw [he]; unfold Lib.itoa dec; rw [if_neg (by omega)]
    · intro j hj
      exact Lib.heap_grow_old w k os j hj

/-- What the region of a text stands on: the version's box at block k, and the table. -/
structure TS (k : Nat) (a b c : Int) (W0 w' : World) : Prop where
  below : Below W0.heap.size W0 w'
  lt : k < W0.heap.size
  c0 : W0.cell? ⟨k, 0, none⟩ = some (.int .i64 a)
  c1 : W0.cell? ⟨k, 1, none⟩ = some (.int .i64 b)
  c2 : W0.cell? ⟨k, 2, none⟩ = some (.int .i64 c)
  pow : Pow W0
theorem TS.all {k : Nat} {a b c : Int} {W0 w' : World} (h : TS k a b c W0 w') :
    w'.cell? ⟨k, 0, none⟩ = some (.int .i64 a) ∧ w'.cell? ⟨k, 1, none⟩ = some (.int .i64 b) ∧ w'.cell? ⟨k, 2, none⟩ = some (.int .i64 c) ∧ TS k a b c W0 w' :=
  ⟨(h.below.cell (p := ⟨k, 0, none⟩) h.lt).trans h.c0, (h.below.cell (p := ⟨k, 1, none⟩) h.lt).trans h.c1, (h.below.cell (p := ⟨k, 2, none⟩) h.lt).trans h.c2, h⟩
theorem TS.drew {k : Nat} {a b c : Int} {W0 w' : World} (h : TS k a b c W0 w') : TS k a b c W0 w'.drew := { h with below := h.below.drew }
theorem TS.on {k : Nat} {a b c : Int} {W0 w' w'' : World} (h : TS k a b c W0 w') (hb : Below w'.heap.size w' w'') : TS k a b c W0 w'' := { h with below := below_over h.below hb }
theorem TS.powAt {k : Nat} {a b c : Int} {W0 w' : World} (h : TS k a b c W0 w') : Pow w' := h.pow.on h.below

set_option maxHeartbeats 1000000 in
theorem text_any (a b c : Int) (w : World) (ha : 0 ≤ a ∧ a ≤ 9223372036854775807) (hb : 0 ≤ b ∧ b ≤ 9223372036854775807) (hc : 0 ≤ c ∧ c ≤ 9223372036854775807) (hp : Pow w) :
    Calls Tryd.prog 21 #[.agg #[.int .i64 a, .int .i64 b, .int .i64 c]] w fun e w' => e = .returned (.string (verText a b c)) ∧ Below w.heap.size w w' := by
  obtain ⟨ha1, ha2⟩ := ha; obtain ⟨hb1, hb2⟩ := hb; obtain ⟨hc1, hc2⟩ := hc
  have hT : TS w.heap.size a b c (w.alloc (.cells #[.int .i64 a, .int .i64 b, .int .i64 c] 23)) (w.alloc (.cells #[.int .i64 a, .int .i64 b, .int .i64 c] 23)) :=
    ⟨Below.refl _ _, by simp, by go_simp, by go_simp, by go_simp, hp.on (below_new (Below.refl _ _) _)⟩
  clear hp
  have z1 := dec_size a ha1 ha2
  have z2 := dec_size b hb1 hb2
  have z3 := dec_size c hc1 hc2
  have n1 : ¬ ((dec a).size + 1 > 9223372036854775807) := by omega
  have n2 : ¬ ((dec a).size + 1 + (dec b).size > 9223372036854775807) := by omega
  have n3 : ¬ ((dec a).size + 1 + (dec b).size + 1 > 9223372036854775807) := by omega
  have n4 : ¬ ((dec a).size + 1 + (dec b).size + 1 + (dec c).size > 9223372036854775807) := by omega
  go_enter Tryd.func21, Tryd.ntmps21
  go_wp2_with fail
  go_region_held3 (fun w' => w'.cell? ⟨w.heap.size, 0, none⟩ = some (.int .i64 a) ∧ w'.cell? ⟨w.heap.size, 1, none⟩ = some (.int .i64 b) ∧ w'.cell? ⟨w.heap.size, 2, none⟩ = some (.int .i64 c) ∧ TS w.heap.size a b c (w.alloc (.cells #[.int .i64 a, .int .i64 b, .int .i64 c] 23)) w')
    (first | exact (TS.drew hT).all | (go_split_ands; refine (TS.on ?_ hbw).all; assumption))
    (first | (go_at_call 28; go_split_ands; refine (itoa_any _ _ ?_ ?_ ?_).mono ?_; (omega); (omega); (refine TS.powAt (k := w.heap.size) (a := a) (b := b) (c := c) (W0 := w.alloc (.cells #[.int .i64 a, .int .i64 b, .int .i64 c] 23)) ?_; assumption); rintro e w1 ⟨rfl, hbw⟩))
  go_wp2
  go_ret
  go_split_ands
  refine ⟨rfl, ?_⟩
  repeat refine Below.drew ?_
  refine below_over (below_new (Below.refl _ _) _) (TS.below (k := w.heap.size) (a := a) (b := b) (c := c) (W0 := w.alloc (.cells #[.int .i64 a, .int .i64 b, .int .i64 c] 23)) (by assumption))

set_option maxHeartbeats 1000000 in
theorem print_yes (a b c : Int) (w : World) (h : okVer a b c = true) (hp : Pow w) :
    Calls Tryd.prog 7 #[.agg #[.int .i64 a, .int .i64 b, .int .i64 c]] w fun e w' => e = .returned (.tuple #[.string (verText a b c), .nilIface]) ∧ Below w.heap.size w w' := by
  obtain ⟨g1, g2, g3, g4, g5, g6⟩ := okVer_bd h
  have H := Lib.hid h; clear h
  go_enter Tryd.func7, Tryd.ntmps7
  go_wp2_with fail
  refine (may_any _ _ _ _).mono ?_; rintro e w1 ⟨rfl, hb1⟩; rw [H.out]
  obtain ⟨hc1, hf1⟩ := bcell hb1
  have hz1 : w.heap.size < w1.heap.size := by have := hb1.size; (try simp at this); omega
  go_wp2_with fail
  refine (text_any _ _ _ _ ⟨by omega, by omega⟩ ⟨by omega, by omega⟩ ⟨by omega, by omega⟩ (hp.on (below_over (below_new (Below.refl _ _) _) hb1))).mono ?_; rintro e w2 ⟨rfl, hb2⟩
  go_wp2
  go_ret2
  refine ⟨rfl, ?_⟩
  repeat (first | exact Below.refl _ _ | refine Below.drew ?_ | refine below_drewN ?_ _ | refine below_new ?_ _ | refine below_put ?_ (by simp; omega) _ | refine below_over ?_ (by assumption))

set_option maxHeartbeats 1000000 in
theorem print_no (a b c : Int) (w : World) (h : okVer a b c = false) :
    Calls Tryd.prog 7 #[.agg #[.int .i64 a, .int .i64 b, .int .i64 c]] w fun e w' => e = .returned (.tuple #[.string ⟨#[]⟩, .iface 31 (.int .i64 1)]) ∧ Below w.heap.size w w' := by
  have H := Lib.hid h; clear h
  go_enter Tryd.func7, Tryd.ntmps7
  go_wp2_with fail
  refine (may_any _ _ _ _).mono ?_; rintro e w1 ⟨rfl, hb1⟩; rw [H.out]
  go_wp2
  go_ret2
  refine ⟨rfl, ?_⟩
  repeat (first | exact Below.refl _ _ | refine Below.drew ?_ | refine below_drewN ?_ _ | refine below_new ?_ _ | refine below_put ?_ (by simp; omega) _ | refine below_over ?_ (by assumption))

end Go.Proofs.YtihaggghmanamaaDoor
