/-
  The walk of PrintRange.
-/
import Derived.Test.YtihaggghmanamaaDoorSvV
namespace Go.Proofs.YtihaggghmanamaaDoor
open Go.RowKit

/-- A box of six ints at block k, and the table. -/
structure TR (k : Nat) (a b c x y z : Int) (W0 w' : World) : Prop where
  below : Below W0.heap.size W0 w'
  lt : k < W0.heap.size
  c0 : W0.cell? ⟨k, 0, none⟩ = some (.int .i64 a)
  c1 : W0.cell? ⟨k, 1, none⟩ = some (.int .i64 b)
  c2 : W0.cell? ⟨k, 2, none⟩ = some (.int .i64 c)
  c3 : W0.cell? ⟨k, 3, none⟩ = some (.int .i64 x)
  c4 : W0.cell? ⟨k, 4, none⟩ = some (.int .i64 y)
  c5 : W0.cell? ⟨k, 5, none⟩ = some (.int .i64 z)
  pow : Pow W0
theorem TR.all {k : Nat} {a b c x y z : Int} {W0 w' : World} (h : TR k a b c x y z W0 w') :
    w'.cell? ⟨k, 0, none⟩ = some (.int .i64 a) ∧ w'.cell? ⟨k, 1, none⟩ = some (.int .i64 b) ∧ w'.cell? ⟨k, 2, none⟩ = some (.int .i64 c) ∧ w'.cell? ⟨k, 3, none⟩ = some (.int .i64 x) ∧ w'.cell? ⟨k, 4, none⟩ = some (.int .i64 y) ∧ w'.cell? ⟨k, 5, none⟩ = some (.int .i64 z) ∧ TR k a b c x y z W0 w' :=
  ⟨(h.below.cell (p := ⟨k, 0, none⟩) h.lt).trans h.c0, (h.below.cell (p := ⟨k, 1, none⟩) h.lt).trans h.c1, (h.below.cell (p := ⟨k, 2, none⟩) h.lt).trans h.c2, (h.below.cell (p := ⟨k, 3, none⟩) h.lt).trans h.c3, (h.below.cell (p := ⟨k, 4, none⟩) h.lt).trans h.c4, (h.below.cell (p := ⟨k, 5, none⟩) h.lt).trans h.c5, h⟩
theorem TR.drew {k : Nat} {a b c x y z : Int} {W0 w' : World} (h : TR k a b c x y z W0 w') : TR k a b c x y z W0 w'.drew := { h with below := h.below.drew }
theorem TR.on {k : Nat} {a b c x y z : Int} {W0 w' w'' : World} (h : TR k a b c x y z W0 w') (hb : Below w'.heap.size w' w'') : TR k a b c x y z W0 w'' := { h with below := below_over h.below hb }
theorem TR.powAt {k : Nat} {a b c x y z : Int} {W0 w' : World} (h : TR k a b c x y z W0 w') : Pow w' := h.pow.on h.below

/-- A range's text. -/
def rngText (a b c x y z : Int) : ByteArray := verText a b c ++ ⟨#[46, 46]⟩ ++ verText x y z
theorem verText_size (a b c : Int) (h : okVer a b c = true) : (verText a b c).size ≤ 29 := by
  obtain ⟨g1, g2, g3, g4, g5, g6⟩ := okVer_bd h
  rw [Lib.size_eq, verText_list]
  exact M.vt_len a b c g2 g4 g6
theorem okRng_parts {a b c x y z : Int} (h : okRng a b c x y z = true) : okVer a b c = true ∧ okVer x y z = true := by
  simp only [okRng, Bool.and_eq_true] at h
  exact ⟨h.1, h.2.1⟩

set_option maxHeartbeats 4000000 in
theorem printRange_yes (a b c x y z : Int) (w : World) (h : okRng a b c x y z = true) (hp : Pow w) :
    Calls Tryd.prog 13 #[.agg #[.int .i64 a, .int .i64 b, .int .i64 c, .int .i64 x, .int .i64 y, .int .i64 z]] w fun e w' => e = .returned (.tuple #[.string (rngText a b c x y z), .nilIface]) ∧ Below w.heap.size w w' := by
  obtain ⟨k1, k2⟩ := okRng_parts h
  obtain ⟨g1, g2, g3, g4, g5, g6⟩ := okVer_bd k1
  obtain ⟨j1, j2, j3, j4, j5, j6⟩ := okVer_bd k2
  have z1 := verText_size a b c k1
  have z2 := verText_size x y z k2
  have n1 : ¬ ((verText a b c).size + 2 > 9223372036854775807) := by omega
  have n2 : ¬ ((verText a b c).size + 2 + (verText x y z).size > 9223372036854775807) := by omega
  clear k1 k2
  have H := Lib.hid h; clear h
  go_enter Tryd.func13, Tryd.ntmps13
  go_wp2_with fail
  refine (mayRange_any _ _ _ _ _ _ _).mono ?_; rintro e w1 ⟨rfl, hb1⟩; rw [H.out]
  obtain ⟨hc1, hf1⟩ := bcell hb1
  have g1_0 : w.heap.size < w1.heap.size := by have := hb1.size; (try simp at this); omega
  go_wp2_with fail
  have hT : TR w.heap.size a b c x y z (w.alloc (.cells #[.int .i64 a, .int .i64 b, .int .i64 c, .int .i64 x, .int .i64 y, .int .i64 z] 38)) w1 :=
    TR.on ⟨Below.refl _ _, by simp, by go_simp, by go_simp, by go_simp, by go_simp, by go_simp, by go_simp, hp.on (below_new (Below.refl _ _) _)⟩ hb1
  clear hb1 hc1 hf1
  go_region_held3 (fun w' => w'.cell? ⟨w.heap.size, 0, none⟩ = some (.int .i64 a) ∧ w'.cell? ⟨w.heap.size, 1, none⟩ = some (.int .i64 b) ∧ w'.cell? ⟨w.heap.size, 2, none⟩ = some (.int .i64 c) ∧ w'.cell? ⟨w.heap.size, 3, none⟩ = some (.int .i64 x) ∧ w'.cell? ⟨w.heap.size, 4, none⟩ = some (.int .i64 y) ∧ w'.cell? ⟨w.heap.size, 5, none⟩ = some (.int .i64 z) ∧ TR w.heap.size a b c x y z (w.alloc (.cells #[.int .i64 a, .int .i64 b, .int .i64 c, .int .i64 x, .int .i64 y, .int .i64 z] 38)) w')
    (first | exact (TR.drew hT).all | (go_split_ands; refine (TR.on ?_ hbw).all; assumption))
    (first | (go_at_call 21; go_split_ands; refine (text_any _ _ _ _ ⟨?_, ?_⟩ ⟨?_, ?_⟩ ⟨?_, ?_⟩ ?_).mono ?_; (omega); (omega); (omega); (omega); (omega); (omega); (refine TR.powAt (k := w.heap.size) (a := a) (b := b) (c := c) (x := x) (y := y) (z := z) (W0 := (w.alloc (.cells #[.int .i64 a, .int .i64 b, .int .i64 c, .int .i64 x, .int .i64 y, .int .i64 z] 38))) ?_; assumption); rintro e w2 ⟨rfl, hbw⟩))
  go_wp2
  go_ret2
  go_split_ands
  refine ⟨rfl, ?_⟩
  repeat refine Below.drew ?_
  refine below_over (below_new (Below.refl _ _) _) (TR.below (k := w.heap.size) (a := a) (b := b) (c := c) (x := x) (y := y) (z := z) (W0 := (w.alloc (.cells #[.int .i64 a, .int .i64 b, .int .i64 c, .int .i64 x, .int .i64 y, .int .i64 z] 38))) (by assumption))

set_option maxHeartbeats 1000000 in
theorem printRange_no (a b c x y z : Int) (w : World) (h : okRng a b c x y z = false) :
    Calls Tryd.prog 13 #[.agg #[.int .i64 a, .int .i64 b, .int .i64 c, .int .i64 x, .int .i64 y, .int .i64 z]] w fun e w' => e = .returned (.tuple #[.string ⟨#[]⟩, .iface 31 (.int .i64 1)]) ∧ Below w.heap.size w w' := by
  have H := Lib.hid h; clear h
  go_enter Tryd.func13, Tryd.ntmps13
  go_wp2_with fail
  refine (mayRange_any _ _ _ _ _ _ _).mono ?_; rintro e w1 ⟨rfl, hb1⟩; rw [H.out]
  obtain ⟨hc1, hf1⟩ := bcell hb1
  have g1_0 : w.heap.size < w1.heap.size := by have := hb1.size; (try simp at this); omega
  go_wp2
  go_ret2
  refine ⟨rfl, ?_⟩
  repeat (first | exact Below.refl _ _ | refine Below.drew ?_ | refine below_drewN ?_ _ | refine below_new ?_ _ | refine below_put ?_ (by simp; omega) _ | refine below_over ?_ (by assumption))

end Go.Proofs.YtihaggghmanamaaDoor
