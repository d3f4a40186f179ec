/-
  The walk of SemverRanges, where the range may be.
-/
import Derived.Test.YtihaggghmanamaaDoorSvZ
namespace Go.Proofs.YtihaggghmanamaaDoor
open Go.RowKit

set_option maxRecDepth 100000 in
set_option maxHeartbeats 4000000 in
theorem ranges_yes (a b c x y z p q r : Int) (s1 s2 : ByteArray) (w : World) (hs : s1.size + s2.size ≤ 1048576) (hp : Pow w) (hm : MaxL w) (H : Hid (okRng a b c x y z = true)) :
    Calls Tryd.prog 4 #[.agg #[.int .i64 a, .int .i64 b, .int .i64 c, .int .i64 x, .int .i64 y, .int .i64 z], .agg #[.int .i64 p, .int .i64 q, .int .i64 r], .string s1, .string s2] w fun e w' => e = .returned (.bool true) ∧ Below w.heap.size w w' := by
  obtain ⟨k1, k2⟩ := okRng_parts H.out
  obtain ⟨g1, g2, g3, g4, g5, g6⟩ := okVer_bd k1
  obtain ⟨j1, j2, j3, j4, j5, j6⟩ := okVer_bd k2
  have z1 := verText_size a b c k1
  have z2 := verText_size x y z k2
  have n1 : ¬ ((verText a b c).size + 2 > 9223372036854775807) := by omega
  have n2 : ¬ ((verText a b c).size + 2 + (verText x y z).size > 9223372036854775807) := by omega
  have n3 : (!((verText a b c ++ ⟨#[46, 46]⟩ ++ verText x y z).toList == (verText a b c ++ ⟨#[46, 46]⟩ ++ verText x y z).toList)) = false := by simp
  clear k1 k2
  obtain ⟨iv, HI⟩ : ∃ v, Hid (inRng a b c x y z p q r = v) := ⟨_, rfl⟩
  have n0 : (iv != iv) = false := by simp
  have s1b : ¬ (s1.size + 2 > 9223372036854775807) := by omega
  have s2b : ¬ (s1.size + 2 + s2.size > 9223372036854775807) := by omega
  go_enter Tryd.func4, Tryd.ntmps4
  go_wp2_with fail
  refine (up_any _).mono ?_; rintro e w1 ⟨rfl, hb1⟩
  obtain ⟨hc1, hf1⟩ := bcell hb1
  have g1_0 : w.heap.size < w1.heap.size := by have := hb1.size; (try simp at this); omega
  have g1_1 : w.heap.size + 1 < w1.heap.size := by have := hb1.size; (try simp at this); omega
  go_wp2_with fail
  refine (printRange_is _ _ _ _ _ _ _ H.out (hp.on (by repeat (first | (with_reducible exact Below.refl _ _) | (with_reducible refine Below.drew ?_) | (with_reducible refine below_drewN ?_ _) | (with_reducible refine below_new ?_ _) | ((with_reducible refine below_put ?_ ?_ _); rotate_left; focus (first | (simp; done) | (simp; omega) | omega)) | (with_reducible refine below_over ?_ (by assumption)))))).mono ?_; rintro e w2 ⟨rfl, hb2⟩
  obtain ⟨hc2, hf2⟩ := bcell hb2
  have g2_0 : w.heap.size < w2.heap.size := by have := hb2.size; (try simp at this); omega
  have g2_1 : w.heap.size + 1 < w2.heap.size := by have := hb2.size; (try simp at this); omega
  go_wp2_with fail
  refine (refMayRange_any _ _ _ _ _ _ _).mono ?_; rintro e w3 ⟨rfl, hb3⟩; rw [H.out]
  obtain ⟨hc3, hf3⟩ := bcell hb3
  have g3_0 : w.heap.size < w3.heap.size := by have := hb3.size; (try simp at this); omega
  have g3_1 : w.heap.size + 1 < w3.heap.size := by have := hb3.size; (try simp at this); omega
  go_wp2_with fail
  have hx : Below ((w.alloc (.cells #[.int .i64 a, .int .i64 b, .int .i64 c, .int .i64 x, .int .i64 y, .int .i64 z] 38)).alloc (.cells #[.int .i64 p, .int .i64 q, .int .i64 r] 23)).heap.size ((w.alloc (.cells #[.int .i64 a, .int .i64 b, .int .i64 c, .int .i64 x, .int .i64 y, .int .i64 z] 38)).alloc (.cells #[.int .i64 p, .int .i64 q, .int .i64 r] 23)) w3 := by repeat (first | (with_reducible exact Below.refl _ _) | (with_reducible refine Below.drew ?_) | (with_reducible refine below_drewN ?_ _) | (with_reducible refine below_new ?_ _) | ((with_reducible refine below_put ?_ ?_ _); rotate_left; focus (first | (simp; done) | (simp; omega) | omega)) | (with_reducible refine below_over ?_ (by assumption)))
  have hT : T9 w.heap.size a b c x y z p q r w3 w3 := by
    refine ⟨Below.refl _ _, g3_1, ?_, ?_, ?_, ?_, ?_, ?_, ?_, ?_, ?_, hp.on (by repeat (first | (with_reducible exact Below.refl _ _) | (with_reducible refine Below.drew ?_) | (with_reducible refine below_drewN ?_ _) | (with_reducible refine below_new ?_ _) | ((with_reducible refine below_put ?_ ?_ _); rotate_left; focus (first | (simp; done) | (simp; omega) | omega)) | (with_reducible refine below_over ?_ (by assumption))))⟩
    iterate 6 (refine (hx.cell (by simp <;> omega)).trans ?_; go_simp)
    iterate 3 (refine (hx.cell (by simp <;> omega)).trans ?_; go_simp)
  have hw3 : Below w.heap.size w w3 := by repeat (first | (with_reducible exact Below.refl _ _) | (with_reducible refine Below.drew ?_) | (with_reducible refine below_drewN ?_ _) | (with_reducible refine below_new ?_ _) | ((with_reducible refine below_put ?_ ?_ _); rotate_left; focus (first | (simp; done) | (simp; omega) | omega)) | (with_reducible refine below_over ?_ (by assumption)))
  clear hb1 hc1 hf1 hb2 hc2 hf2 hb3 hc3 hf3
  go_cut [40] (fun s40 wx => s40 = .bool false ∧ T9 w.heap.size a b c x y z p q r w3 wx)
  case first =>
    go_region_held3 (fun w' => w'.cell? ⟨w.heap.size, 0, none⟩ = some (.int .i64 a) ∧ w'.cell? ⟨w.heap.size, 1, none⟩ = some (.int .i64 b) ∧ w'.cell? ⟨w.heap.size, 2, none⟩ = some (.int .i64 c) ∧ w'.cell? ⟨w.heap.size, 3, none⟩ = some (.int .i64 x) ∧ w'.cell? ⟨w.heap.size, 4, none⟩ = some (.int .i64 y) ∧ w'.cell? ⟨w.heap.size, 5, none⟩ = some (.int .i64 z) ∧ w'.cell? ⟨w.heap.size + 1, 0, none⟩ = some (.int .i64 p) ∧ w'.cell? ⟨w.heap.size + 1, 1, none⟩ = some (.int .i64 q) ∧ w'.cell? ⟨w.heap.size + 1, 2, none⟩ = some (.int .i64 r) ∧ T9 w.heap.size a b c x y z p q r w3 w')
      (first | exact (T9.drew hT).all | (go_split_ands; refine (T9.on ?_ hbw).all; assumption))
      (first
      | (go_at_call 15; go_split_ands; refine (mayRange_is _ _ _ _ _ _ _ _ H).mono ?_; rintro e w4 ⟨rfl, hbw⟩)
      | (go_at_call 16; go_split_ands; refine (in_is _ _ _ _ _ _ _ _ _ _ _ HI).mono ?_; rintro e w4 ⟨rfl, hbw⟩)
      | (go_at_call 17; go_split_ands; refine (refIn_is _ _ _ _ _ _ _ _ _ _ _ HI).mono ?_; rintro e w4 ⟨rfl, hbw⟩))
    go_wp2_with fail
    go_split_ands
    go_meet
    exact ⟨rfl, by assumption⟩
  case rest =>
    obtain ⟨rfl, q9⟩ := hcut
    clear hT n0 HI iv
    go_wp2_with fail
    go_cut [70] (fun s70 wx => s70 = .bool false ∧ T9 w.heap.size a b c x y z p q r w3 wx)
    case first =>
      obtain ⟨q0, q1, q2, q3, q4, q5, q6, q7, q8, q9⟩ := q9.all
      clear hs hp hm s1b s2b g1_0 g1_1 g2_0 g2_1 hx q6 q7 q8
      have r0 := cell_regrown q0
      have r1 := cell_regrown q1
      have r2 := cell_regrown q2
      have r3 := cell_regrown q3
      have r4 := cell_regrown q4
      have r5 := cell_regrown q5
      have cP1 : ∀ d os, Calls Tryd.prog 10 #[.agg #[.int .i64 a, .int .i64 b, .int .i64 c]] (Sort.grow (redrawn wc d) os) fun e w'' => e = .returned (.string (verText a b c)) ∧ ∃ p : Regrown, w'' = Sort.grow (redrawn wc p.d) p.os := fun d os => Calls.regrown_of (refPrint_any _ _ _ _ ⟨by omega, by omega⟩ ⟨by omega, by omega⟩ ⟨by omega, by omega⟩ (q9.powAt.on (below_regrown wc d os)))
      have cP2 : ∀ d os, Calls Tryd.prog 10 #[.agg #[.int .i64 x, .int .i64 y, .int .i64 z]] (Sort.grow (redrawn wc d) os) fun e w'' => e = .returned (.string (verText x y z)) ∧ ∃ p : Regrown, w'' = Sort.grow (redrawn wc p.d) p.os := fun d os => Calls.regrown_of (refPrint_any _ _ _ _ ⟨by omega, by omega⟩ ⟨by omega, by omega⟩ ⟨by omega, by omega⟩ (q9.powAt.on (below_regrown wc d os)))
      refine wp_region_quiet_below (by kernel_rfl) (by kernel_rfl) ?_
      repeat (any_goals (first | go_big_quiet_step (first | (with_reducible exact cP1 _ _) | (with_reducible exact cP2 _ _)) | quiet_step (first | (with_reducible exact cP1 _ _) | (with_reducible exact cP2 _ _))))
      refine wpQuiet_nil ?_
      intro _ hw'
      obtain ⟨⟨dq, osq⟩, hw''⟩ := hw'
      subst hw''
      have q9' := q9.on (below_regrown wc dq osq)
      go_wp2_with fail
      go_meet
      exact ⟨rfl, q9'⟩
    case rest =>
      clear q9
      obtain ⟨rfl, q9⟩ := hcut
      have hwc : Below w.heap.size w wc := below_over hw3 q9.below
      clear q9 hw3 hx
      rcases rv_or s1.data.toList with RA | ⟨a1, b1, c1, RA⟩
      · have HB : NV s1.data.toList ∨ NV s2.data.toList ∨ ∃ a b c x y z, RV s1.data.toList a b c ∧ RV s2.data.toList x y z ∧ okRng a b c x y z = false := .inl RA
        rcases rv_or s2.data.toList with RB | ⟨x1, y1, z1, RB⟩
        · skip
          go_wp2_with fail
          refine (pr_bad _ _ _ hs (hm.on (by repeat (first | (with_reducible exact hwc) | (with_reducible exact Below.refl _ _) | (with_reducible refine Below.drew ?_) | (with_reducible refine below_drewN ?_ _) | (with_reducible refine below_new ?_ _) | ((with_reducible refine below_put ?_ ?_ _); rotate_left; focus (first | (simp; done) | (simp; omega) | omega)) | (with_reducible refine below_over ?_ (by assumption))))) HB).mono ?_; rintro e w11 ⟨rfl, hb11⟩
          obtain ⟨hc11, hf11⟩ := bcell hb11
          go_wp2_with fail
          refine (ref_nv _ _ _ (by omega) (hp.on (by repeat (first | (with_reducible exact hwc) | (with_reducible exact Below.refl _ _) | (with_reducible refine Below.drew ?_) | (with_reducible refine below_drewN ?_ _) | (with_reducible refine below_new ?_ _) | ((with_reducible refine below_put ?_ ?_ _); rotate_left; focus (first | (simp; done) | (simp; omega) | omega)) | (with_reducible refine below_over ?_ (by assumption))))) rfl RA).mono ?_; rintro e w12 ⟨rfl, hb12⟩
          obtain ⟨hc12, hf12⟩ := bcell hb12
          have g12_0 : w11.heap.size < w12.heap.size := by have := hb12.size; (try simp at this); omega
          go_wp2_with fail
          refine (ref_nv _ _ _ (by omega) (hp.on (by repeat (first | (with_reducible exact hwc) | (with_reducible exact Below.refl _ _) | (with_reducible refine Below.drew ?_) | (with_reducible refine below_drewN ?_ _) | (with_reducible refine below_new ?_ _) | ((with_reducible refine below_put ?_ ?_ _); rotate_left; focus (first | (simp; done) | (simp; omega) | omega)) | (with_reducible refine below_over ?_ (by assumption))))) rfl RB).mono ?_; rintro e w13 ⟨rfl, hb13⟩
          obtain ⟨hc13, hf13⟩ := bcell hb13
          have g13_0 : w11.heap.size < w13.heap.size := by have := hb13.size; (try simp at this); omega
          have g13_1 : w12.heap.size < w13.heap.size := by have := hb13.size; (try simp at this); omega
          have he := eqErr 2 2
          go_wp2
          go_ret
          refine ⟨rfl, ?_⟩
          repeat (first | (with_reducible exact hwc) | (with_reducible exact Below.refl _ _) | (with_reducible refine Below.drew ?_) | (with_reducible refine below_drewN ?_ _) | (with_reducible refine below_new ?_ _) | ((with_reducible refine below_put ?_ ?_ _); rotate_left; focus (first | (simp; done) | (simp; omega) | omega)) | (with_reducible refine below_over ?_ (by assumption)))
        · skip
          go_wp2_with fail
          refine (pr_bad _ _ _ hs (hm.on (by repeat (first | (with_reducible exact hwc) | (with_reducible exact Below.refl _ _) | (with_reducible refine Below.drew ?_) | (with_reducible refine below_drewN ?_ _) | (with_reducible refine below_new ?_ _) | ((with_reducible refine below_put ?_ ?_ _); rotate_left; focus (first | (simp; done) | (simp; omega) | omega)) | (with_reducible refine below_over ?_ (by assumption))))) HB).mono ?_; rintro e w11 ⟨rfl, hb11⟩
          obtain ⟨hc11, hf11⟩ := bcell hb11
          go_wp2_with fail
          refine (ref_nv _ _ _ (by omega) (hp.on (by repeat (first | (with_reducible exact hwc) | (with_reducible exact Below.refl _ _) | (with_reducible refine Below.drew ?_) | (with_reducible refine below_drewN ?_ _) | (with_reducible refine below_new ?_ _) | ((with_reducible refine below_put ?_ ?_ _); rotate_left; focus (first | (simp; done) | (simp; omega) | omega)) | (with_reducible refine below_over ?_ (by assumption))))) rfl RA).mono ?_; rintro e w12 ⟨rfl, hb12⟩
          obtain ⟨hc12, hf12⟩ := bcell hb12
          have g12_0 : w11.heap.size < w12.heap.size := by have := hb12.size; (try simp at this); omega
          go_wp2_with fail
          refine (ref_rv _ _ _ _ _ _ (by omega) (hp.on (by repeat (first | (with_reducible exact hwc) | (with_reducible exact Below.refl _ _) | (with_reducible refine Below.drew ?_) | (with_reducible refine below_drewN ?_ _) | (with_reducible refine below_new ?_ _) | ((with_reducible refine below_put ?_ ?_ _); rotate_left; focus (first | (simp; done) | (simp; omega) | omega)) | (with_reducible refine below_over ?_ (by assumption))))) rfl RB).mono ?_; rintro e w13 ⟨rfl, hb13⟩
          obtain ⟨hc13, hf13⟩ := bcell hb13
          have g13_0 : w11.heap.size < w13.heap.size := by have := hb13.size; (try simp at this); omega
          have g13_1 : w12.heap.size < w13.heap.size := by have := hb13.size; (try simp at this); omega
          have he := eqErr 2 2
          go_wp2
          go_ret
          refine ⟨rfl, ?_⟩
          repeat (first | (with_reducible exact hwc) | (with_reducible exact Below.refl _ _) | (with_reducible refine Below.drew ?_) | (with_reducible refine below_drewN ?_ _) | (with_reducible refine below_new ?_ _) | ((with_reducible refine below_put ?_ ?_ _); rotate_left; focus (first | (simp; done) | (simp; omega) | omega)) | (with_reducible refine below_over ?_ (by assumption)))
      · rcases rv_or s2.data.toList with RB | ⟨x1, y1, z1, RB⟩
        · have HB : NV s1.data.toList ∨ NV s2.data.toList ∨ ∃ a b c x y z, RV s1.data.toList a b c ∧ RV s2.data.toList x y z ∧ okRng a b c x y z = false := .inr (.inl RB)
          go_wp2_with fail
          refine (pr_bad _ _ _ hs (hm.on (by repeat (first | (with_reducible exact hwc) | (with_reducible exact Below.refl _ _) | (with_reducible refine Below.drew ?_) | (with_reducible refine below_drewN ?_ _) | (with_reducible refine below_new ?_ _) | ((with_reducible refine below_put ?_ ?_ _); rotate_left; focus (first | (simp; done) | (simp; omega) | omega)) | (with_reducible refine below_over ?_ (by assumption))))) HB).mono ?_; rintro e w11 ⟨rfl, hb11⟩
          obtain ⟨hc11, hf11⟩ := bcell hb11
          go_wp2_with fail
          refine (ref_rv _ _ _ _ _ _ (by omega) (hp.on (by repeat (first | (with_reducible exact hwc) | (with_reducible exact Below.refl _ _) | (with_reducible refine Below.drew ?_) | (with_reducible refine below_drewN ?_ _) | (with_reducible refine below_new ?_ _) | ((with_reducible refine below_put ?_ ?_ _); rotate_left; focus (first | (simp; done) | (simp; omega) | omega)) | (with_reducible refine below_over ?_ (by assumption))))) rfl RA).mono ?_; rintro e w12 ⟨rfl, hb12⟩
          obtain ⟨hc12, hf12⟩ := bcell hb12
          have g12_0 : w11.heap.size < w12.heap.size := by have := hb12.size; (try simp at this); omega
          go_wp2_with fail
          refine (ref_nv _ _ _ (by omega) (hp.on (by repeat (first | (with_reducible exact hwc) | (with_reducible exact Below.refl _ _) | (with_reducible refine Below.drew ?_) | (with_reducible refine below_drewN ?_ _) | (with_reducible refine below_new ?_ _) | ((with_reducible refine below_put ?_ ?_ _); rotate_left; focus (first | (simp; done) | (simp; omega) | omega)) | (with_reducible refine below_over ?_ (by assumption))))) rfl RB).mono ?_; rintro e w13 ⟨rfl, hb13⟩
          obtain ⟨hc13, hf13⟩ := bcell hb13
          have g13_0 : w11.heap.size < w13.heap.size := by have := hb13.size; (try simp at this); omega
          have g13_1 : w12.heap.size < w13.heap.size := by have := hb13.size; (try simp at this); omega
          have he := eqErr 2 2
          go_wp2
          go_ret
          refine ⟨rfl, ?_⟩
          repeat (first | (with_reducible exact hwc) | (with_reducible exact Below.refl _ _) | (with_reducible refine Below.drew ?_) | (with_reducible refine below_drewN ?_ _) | (with_reducible refine below_new ?_ _) | ((with_reducible refine below_put ?_ ?_ _); rotate_left; focus (first | (simp; done) | (simp; omega) | omega)) | (with_reducible refine below_over ?_ (by assumption)))
        · rcases hid_or (okRng a1 b1 c1 x1 y1 z1) with H3 | H3
          · have HB : NV s1.data.toList ∨ NV s2.data.toList ∨ ∃ a b c x y z, RV s1.data.toList a b c ∧ RV s2.data.toList x y z ∧ okRng a b c x y z = false := .inr (.inr ⟨_, _, _, _, _, _, RA, RB, H3.out⟩)
            go_wp2_with fail
            refine (pr_bad _ _ _ hs (hm.on (by repeat (first | (with_reducible exact hwc) | (with_reducible exact Below.refl _ _) | (with_reducible refine Below.drew ?_) | (with_reducible refine below_drewN ?_ _) | (with_reducible refine below_new ?_ _) | ((with_reducible refine below_put ?_ ?_ _); rotate_left; focus (first | (simp; done) | (simp; omega) | omega)) | (with_reducible refine below_over ?_ (by assumption))))) HB).mono ?_; rintro e w11 ⟨rfl, hb11⟩
            obtain ⟨hc11, hf11⟩ := bcell hb11
            go_wp2_with fail
            refine (ref_rv _ _ _ _ _ _ (by omega) (hp.on (by repeat (first | (with_reducible exact hwc) | (with_reducible exact Below.refl _ _) | (with_reducible refine Below.drew ?_) | (with_reducible refine below_drewN ?_ _) | (with_reducible refine below_new ?_ _) | ((with_reducible refine below_put ?_ ?_ _); rotate_left; focus (first | (simp; done) | (simp; omega) | omega)) | (with_reducible refine below_over ?_ (by assumption))))) rfl RA).mono ?_; rintro e w12 ⟨rfl, hb12⟩
            obtain ⟨hc12, hf12⟩ := bcell hb12
            have g12_0 : w11.heap.size < w12.heap.size := by have := hb12.size; (try simp at this); omega
            go_wp2_with fail
            refine (ref_rv _ _ _ _ _ _ (by omega) (hp.on (by repeat (first | (with_reducible exact hwc) | (with_reducible exact Below.refl _ _) | (with_reducible refine Below.drew ?_) | (with_reducible refine below_drewN ?_ _) | (with_reducible refine below_new ?_ _) | ((with_reducible refine below_put ?_ ?_ _); rotate_left; focus (first | (simp; done) | (simp; omega) | omega)) | (with_reducible refine below_over ?_ (by assumption))))) rfl RB).mono ?_; rintro e w13 ⟨rfl, hb13⟩
            obtain ⟨hc13, hf13⟩ := bcell hb13
            have g13_0 : w11.heap.size < w13.heap.size := by have := hb13.size; (try simp at this); omega
            have g13_1 : w12.heap.size < w13.heap.size := by have := hb13.size; (try simp at this); omega
            go_wp2_with fail
            refine (refMayRange_any _ _ _ _ _ _ _).mono ?_; rintro e w14 ⟨rfl, hb14⟩; rw [H3.out]
            obtain ⟨hc14, hf14⟩ := bcell hb14
            have g14_0 : w11.heap.size < w14.heap.size := by have := hb14.size; (try simp at this); omega
            have g14_1 : w12.heap.size < w14.heap.size := by have := hb14.size; (try simp at this); omega
            have g14_2 : w13.heap.size < w14.heap.size := by have := hb14.size; (try simp at this); omega
            have g14_3 : w13.heap.size + 1 < w14.heap.size := by have := hb14.size; (try simp at this); omega
            have t1 : w11.heap.size < w13.heap.size + 1 + 1 := by omega
            have t2 : w13.heap.size < w13.heap.size + 1 + 1 := by omega
            have t3 : w11.heap.size < w13.heap.size + 1 := by omega
            have he := eqErr 2 2
            go_wp2
            go_ret
            refine ⟨rfl, ?_⟩
            repeat (first | (with_reducible exact hwc) | (with_reducible exact Below.refl _ _) | (with_reducible refine Below.drew ?_) | (with_reducible refine below_drewN ?_ _) | (with_reducible refine below_new ?_ _) | ((with_reducible refine below_put ?_ ?_ _); rotate_left; focus (first | (simp; done) | (simp; omega) | omega)) | (with_reducible refine below_over ?_ (by assumption)))
          · skip
            go_wp2_with fail
            refine (pr_good _ _ _ _ _ _ _ _ _ hs (hm.on (by repeat (first | (with_reducible exact hwc) | (with_reducible exact Below.refl _ _) | (with_reducible refine Below.drew ?_) | (with_reducible refine below_drewN ?_ _) | (with_reducible refine below_new ?_ _) | ((with_reducible refine below_put ?_ ?_ _); rotate_left; focus (first | (simp; done) | (simp; omega) | omega)) | (with_reducible refine below_over ?_ (by assumption))))) RA RB H3).mono ?_; rintro e w11 ⟨rfl, hb11⟩
            obtain ⟨hc11, hf11⟩ := bcell hb11
            go_wp2_with fail
            refine (ref_rv _ _ _ _ _ _ (by omega) (hp.on (by repeat (first | (with_reducible exact hwc) | (with_reducible exact Below.refl _ _) | (with_reducible refine Below.drew ?_) | (with_reducible refine below_drewN ?_ _) | (with_reducible refine below_new ?_ _) | ((with_reducible refine below_put ?_ ?_ _); rotate_left; focus (first | (simp; done) | (simp; omega) | omega)) | (with_reducible refine below_over ?_ (by assumption))))) rfl RA).mono ?_; rintro e w12 ⟨rfl, hb12⟩
            obtain ⟨hc12, hf12⟩ := bcell hb12
            have g12_0 : w11.heap.size < w12.heap.size := by have := hb12.size; (try simp at this); omega
            go_wp2_with fail
            refine (ref_rv _ _ _ _ _ _ (by omega) (hp.on (by repeat (first | (with_reducible exact hwc) | (with_reducible exact Below.refl _ _) | (with_reducible refine Below.drew ?_) | (with_reducible refine below_drewN ?_ _) | (with_reducible refine below_new ?_ _) | ((with_reducible refine below_put ?_ ?_ _); rotate_left; focus (first | (simp; done) | (simp; omega) | omega)) | (with_reducible refine below_over ?_ (by assumption))))) rfl RB).mono ?_; rintro e w13 ⟨rfl, hb13⟩
            obtain ⟨hc13, hf13⟩ := bcell hb13
            have g13_0 : w11.heap.size < w13.heap.size := by have := hb13.size; (try simp at this); omega
            have g13_1 : w12.heap.size < w13.heap.size := by have := hb13.size; (try simp at this); omega
            go_wp2_with fail
            refine (refMayRange_any _ _ _ _ _ _ _).mono ?_; rintro e w14 ⟨rfl, hb14⟩; rw [H3.out]
            obtain ⟨hc14, hf14⟩ := bcell hb14
            have g14_0 : w11.heap.size < w14.heap.size := by have := hb14.size; (try simp at this); omega
            have g14_1 : w12.heap.size < w14.heap.size := by have := hb14.size; (try simp at this); omega
            have g14_2 : w13.heap.size < w14.heap.size := by have := hb14.size; (try simp at this); omega
            have g14_3 : w13.heap.size + 1 < w14.heap.size := by have := hb14.size; (try simp at this); omega
            have t1 : w11.heap.size < w13.heap.size + 1 + 1 := by omega
            have t2 : w13.heap.size < w13.heap.size + 1 + 1 := by omega
            have t3 : w11.heap.size < w13.heap.size + 1 := by omega
            go_wp2
            go_ret
            refine ⟨rfl, ?_⟩
            repeat (first | (with_reducible exact hwc) | (with_reducible exact Below.refl _ _) | (with_reducible refine Below.drew ?_) | (with_reducible refine below_drewN ?_ _) | (with_reducible refine below_new ?_ _) | ((with_reducible refine below_put ?_ ?_ _); rotate_left; focus (first | (simp; done) | (simp; omega) | omega)) | (with_reducible refine below_over ?_ (by assumption)))


end Go.Proofs.YtihaggghmanamaaDoor
