/-
  The walk of package kind's formed: are a type's own fields those of its kind?
-/
import Derived.Test.YtnnppdlhmcobcaaDoorKdF
namespace Go.Proofs.YtnnppdlhmcobcaaDoor
open Go.RowKit
open M

set_option maxRecDepth 100000 in
set_option maxHeartbeats 16000000 in
theorem formed_any (t : Ty) (v : Value) (w : World) (hv : TyV w v t) :
    Calls Tryd.prog 35 #[v] w fun e w' => e = .returned (.bool (formT t)) ∧ Below w.heap.size w w' := by
  have HV := Lib.hid hv
  obtain ⟨l, rfl, hT⟩ := hv
  obtain ⟨An, cn, As, cs, rfl, zp, zm, za, hzn, hz, hN, -⟩ := hT.parts
  have HNM := Lib.hid hN
  clear hT hN
  have HF := Lib.hid (formT_w t)
  generalize hn : t.subs.length = n at hz HF HV
  generalize hq : t.names.length = q at hzn HF HV
  have HQ := Lib.hid hq
  clear hn hq
  by_cases hx : t.kind = 1
  · skip
    have b1 : (t.kind == 1) = true := by rw [hx]; rfl
    by_cases n0 : n = 0
    · have n0i : (((n : Nat) : Int) == 0) = true := by simp; omega
      by_cases q0 : q = 0
      · have q0i : (((q : Nat) : Int) == 0) = true := by simp; omega
        rcases hid_or (noMore t) with um | um
        · skip
          have R : Hid (formT t = false) := Lib.hid (by
            rw [HF.out]
            unfold formW
            simp [hx, um.out])
          clear HF
          clear hx n0 q0
          as_aux_lemma =>
          rw [R.out]
          clear R
          go_enter Tryd.func35, Tryd.ntmps35
          go_wp2_with fail
          go_quiet (fail)
          go_wp2_with fail
          refine (unnamed_any t _ _ (HV.out.below (below_drewN (below_new (Below.refl _ _) _) _))).mono ?_; rintro e w0 ⟨rfl, hb0⟩; rw [um.out]
          go_wp2_with fail
          go_ret
          exact ⟨rfl, (below_drewN (below_new (Below.refl _ _) _) _).trans (hb0.mono (by simp))⟩
        · skip
          have R : Hid (formT t = true) := Lib.hid (by
            rw [HF.out]
            unfold formW
            simp [hx, n0, q0, um.out])
          clear HF
          clear hx n0 q0
          as_aux_lemma =>
          rw [R.out]
          clear R
          go_enter Tryd.func35, Tryd.ntmps35
          go_wp2_with fail
          go_quiet (fail)
          go_wp2_with fail
          refine (unnamed_any t _ _ (HV.out.below (below_drewN (below_new (Below.refl _ _) _) _))).mono ?_; rintro e w0 ⟨rfl, hb0⟩; rw [um.out]
          go_wp2_with fail
          go_ret
          exact ⟨rfl, (below_drewN (below_new (Below.refl _ _) _) _).trans (hb0.mono (by simp))⟩
      · have q0i : (((q : Nat) : Int) == 0) = false := by simp; omega
        have R : Hid (formT t = false) := Lib.hid (by
          rw [HF.out]
          unfold formW
          simp [hx, q0])
        clear HF
        clear hx n0 q0
        as_aux_lemma =>
        rw [R.out]
        clear R
        go_enter Tryd.func35, Tryd.ntmps35
        go_wp2_with fail
        go_quiet (fail)
        go_wp2_with fail
        go_ret
        exact ⟨rfl, below_drewN (below_new (Below.refl _ _) _) _⟩
    · have n0i : (((n : Nat) : Int) == 0) = false := by simp; omega
      have R : Hid (formT t = false) := Lib.hid (by
        rw [HF.out]
        unfold formW
        simp [hx, n0])
      clear HF
      clear hx n0
      as_aux_lemma =>
      rw [R.out]
      clear R
      go_enter Tryd.func35, Tryd.ntmps35
      go_wp2_with fail
      go_quiet (fail)
      go_wp2_with fail
      go_ret
      exact ⟨rfl, below_drewN (below_new (Below.refl _ _) _) _⟩
  have c1 : ¬ t.kind = 1 := hx
  have d1 : (t.kind == 1) = false := by simpa using hx
  clear hx
  by_cases hx : t.kind = 2
  · skip
    have b1 : (t.kind == 1) = false := by rw [hx]; rfl
    have b2 : (t.kind == 2) = true := by rw [hx]; rfl
    by_cases n0 : n = 0
    · have n0i : (((n : Nat) : Int) == 0) = true := by simp; omega
      by_cases q0 : q = 0
      · have q0i : (((q : Nat) : Int) == 0) = true := by simp; omega
        rcases hid_or (noMore t) with um | um
        · skip
          have R : Hid (formT t = false) := Lib.hid (by
            rw [HF.out]
            unfold formW
            simp [hx, um.out])
          clear HF
          clear hx n0 q0
          as_aux_lemma =>
          rw [R.out]
          clear R
          go_enter Tryd.func35, Tryd.ntmps35
          go_wp2_with fail
          go_quiet (fail)
          go_wp2_with fail
          refine (unnamed_any t _ _ (HV.out.below (below_drewN (below_new (Below.refl _ _) _) _))).mono ?_; rintro e w0 ⟨rfl, hb0⟩; rw [um.out]
          go_wp2_with fail
          go_ret
          exact ⟨rfl, (below_drewN (below_new (Below.refl _ _) _) _).trans (hb0.mono (by simp))⟩
        · skip
          have R : Hid (formT t = true) := Lib.hid (by
            rw [HF.out]
            unfold formW
            simp [hx, n0, q0, um.out])
          clear HF
          clear hx n0 q0
          as_aux_lemma =>
          rw [R.out]
          clear R
          go_enter Tryd.func35, Tryd.ntmps35
          go_wp2_with fail
          go_quiet (fail)
          go_wp2_with fail
          refine (unnamed_any t _ _ (HV.out.below (below_drewN (below_new (Below.refl _ _) _) _))).mono ?_; rintro e w0 ⟨rfl, hb0⟩; rw [um.out]
          go_wp2_with fail
          go_ret
          exact ⟨rfl, (below_drewN (below_new (Below.refl _ _) _) _).trans (hb0.mono (by simp))⟩
      · have q0i : (((q : Nat) : Int) == 0) = false := by simp; omega
        have R : Hid (formT t = false) := Lib.hid (by
          rw [HF.out]
          unfold formW
          simp [hx, q0])
        clear HF
        clear hx n0 q0
        as_aux_lemma =>
        rw [R.out]
        clear R
        go_enter Tryd.func35, Tryd.ntmps35
        go_wp2_with fail
        go_quiet (fail)
        go_wp2_with fail
        go_ret
        exact ⟨rfl, below_drewN (below_new (Below.refl _ _) _) _⟩
    · have n0i : (((n : Nat) : Int) == 0) = false := by simp; omega
      have R : Hid (formT t = false) := Lib.hid (by
        rw [HF.out]
        unfold formW
        simp [hx, n0])
      clear HF
      clear hx n0
      as_aux_lemma =>
      rw [R.out]
      clear R
      go_enter Tryd.func35, Tryd.ntmps35
      go_wp2_with fail
      go_quiet (fail)
      go_wp2_with fail
      go_ret
      exact ⟨rfl, below_drewN (below_new (Below.refl _ _) _) _⟩
  have c2 : ¬ t.kind = 2 := hx
  have d2 : (t.kind == 2) = false := by simpa using hx
  clear hx
  by_cases hx : t.kind = 3
  · skip
    have b1 : (t.kind == 1) = false := by rw [hx]; rfl
    have b2 : (t.kind == 2) = false := by rw [hx]; rfl
    have b3 : (t.kind == 3) = true := by rw [hx]; rfl
    by_cases n0 : n = 0
    · have n0i : (((n : Nat) : Int) == 0) = true := by simp; omega
      by_cases q0 : q = 0
      · have q0i : (((q : Nat) : Int) == 0) = true := by simp; omega
        rcases hid_or (noMore t) with um | um
        · skip
          have R : Hid (formT t = false) := Lib.hid (by
            rw [HF.out]
            unfold formW
            simp [hx, um.out])
          clear HF
          clear hx n0 q0
          as_aux_lemma =>
          rw [R.out]
          clear R
          go_enter Tryd.func35, Tryd.ntmps35
          go_wp2_with fail
          go_quiet (fail)
          go_wp2_with fail
          refine (unnamed_any t _ _ (HV.out.below (below_drewN (below_new (Below.refl _ _) _) _))).mono ?_; rintro e w0 ⟨rfl, hb0⟩; rw [um.out]
          go_wp2_with fail
          go_ret
          exact ⟨rfl, (below_drewN (below_new (Below.refl _ _) _) _).trans (hb0.mono (by simp))⟩
        · skip
          have R : Hid (formT t = true) := Lib.hid (by
            rw [HF.out]
            unfold formW
            simp [hx, n0, q0, um.out])
          clear HF
          clear hx n0 q0
          as_aux_lemma =>
          rw [R.out]
          clear R
          go_enter Tryd.func35, Tryd.ntmps35
          go_wp2_with fail
          go_quiet (fail)
          go_wp2_with fail
          refine (unnamed_any t _ _ (HV.out.below (below_drewN (below_new (Below.refl _ _) _) _))).mono ?_; rintro e w0 ⟨rfl, hb0⟩; rw [um.out]
          go_wp2_with fail
          go_ret
          exact ⟨rfl, (below_drewN (below_new (Below.refl _ _) _) _).trans (hb0.mono (by simp))⟩
      · have q0i : (((q : Nat) : Int) == 0) = false := by simp; omega
        have R : Hid (formT t = false) := Lib.hid (by
          rw [HF.out]
          unfold formW
          simp [hx, q0])
        clear HF
        clear hx n0 q0
        as_aux_lemma =>
        rw [R.out]
        clear R
        go_enter Tryd.func35, Tryd.ntmps35
        go_wp2_with fail
        go_quiet (fail)
        go_wp2_with fail
        go_ret
        exact ⟨rfl, below_drewN (below_new (Below.refl _ _) _) _⟩
    · have n0i : (((n : Nat) : Int) == 0) = false := by simp; omega
      have R : Hid (formT t = false) := Lib.hid (by
        rw [HF.out]
        unfold formW
        simp [hx, n0])
      clear HF
      clear hx n0
      as_aux_lemma =>
      rw [R.out]
      clear R
      go_enter Tryd.func35, Tryd.ntmps35
      go_wp2_with fail
      go_quiet (fail)
      go_wp2_with fail
      go_ret
      exact ⟨rfl, below_drewN (below_new (Below.refl _ _) _) _⟩
  have c3 : ¬ t.kind = 3 := hx
  have d3 : (t.kind == 3) = false := by simpa using hx
  clear hx
  by_cases hx : t.kind = 4
  · skip
    have b1 : (t.kind == 1) = false := by rw [hx]; rfl
    have b2 : (t.kind == 2) = false := by rw [hx]; rfl
    have b3 : (t.kind == 3) = false := by rw [hx]; rfl
    have b4 : (t.kind == 4) = true := by rw [hx]; rfl
    by_cases n1 : n = 1
    · have n1i : (((n : Nat) : Int) == 1) = true := by simp; omega
      by_cases q0 : q = 0
      · have q0i : (((q : Nat) : Int) == 0) = true := by simp; omega
        rcases hid_or (noMore t) with um | um
        · skip
          have R : Hid (formT t = false) := Lib.hid (by
            rw [HF.out]
            unfold formW
            simp [hx, um.out])
          clear HF
          clear hx q0 n1
          as_aux_lemma =>
          rw [R.out]
          clear R
          go_enter Tryd.func35, Tryd.ntmps35
          go_wp2_with fail
          go_quiet (fail)
          go_wp2_with fail
          refine (unnamed_any t _ _ (HV.out.below (below_drewN (below_new (Below.refl _ _) _) _))).mono ?_; rintro e w0 ⟨rfl, hb0⟩; rw [um.out]
          go_wp2_with fail
          go_ret
          exact ⟨rfl, (below_drewN (below_new (Below.refl _ _) _) _).trans (hb0.mono (by simp))⟩
        · skip
          have R : Hid (formT t = true) := Lib.hid (by
            rw [HF.out]
            unfold formW
            simp [hx, n1, q0, um.out])
          clear HF
          clear hx q0 n1
          as_aux_lemma =>
          rw [R.out]
          clear R
          go_enter Tryd.func35, Tryd.ntmps35
          go_wp2_with fail
          go_quiet (fail)
          go_wp2_with fail
          refine (unnamed_any t _ _ (HV.out.below (below_drewN (below_new (Below.refl _ _) _) _))).mono ?_; rintro e w0 ⟨rfl, hb0⟩; rw [um.out]
          go_wp2_with fail
          go_ret
          exact ⟨rfl, (below_drewN (below_new (Below.refl _ _) _) _).trans (hb0.mono (by simp))⟩
      · have q0i : (((q : Nat) : Int) == 0) = false := by simp; omega
        have R : Hid (formT t = false) := Lib.hid (by
          rw [HF.out]
          unfold formW
          simp [hx, q0])
        clear HF
        clear hx q0 n1
        as_aux_lemma =>
        rw [R.out]
        clear R
        go_enter Tryd.func35, Tryd.ntmps35
        go_wp2_with fail
        go_quiet (fail)
        go_wp2_with fail
        go_ret
        exact ⟨rfl, below_drewN (below_new (Below.refl _ _) _) _⟩
    · have n1i : (((n : Nat) : Int) == 1) = false := by simp; omega
      have R : Hid (formT t = false) := Lib.hid (by
        rw [HF.out]
        unfold formW
        simp [hx, n1])
      clear HF
      clear hx n1
      as_aux_lemma =>
      rw [R.out]
      clear R
      go_enter Tryd.func35, Tryd.ntmps35
      go_wp2_with fail
      go_quiet (fail)
      go_wp2_with fail
      go_ret
      exact ⟨rfl, below_drewN (below_new (Below.refl _ _) _) _⟩
  have c4 : ¬ t.kind = 4 := hx
  have d4 : (t.kind == 4) = false := by simpa using hx
  clear hx
  by_cases hx : t.kind = 5
  · skip
    have b1 : (t.kind == 1) = false := by rw [hx]; rfl
    have b2 : (t.kind == 2) = false := by rw [hx]; rfl
    have b3 : (t.kind == 3) = false := by rw [hx]; rfl
    have b4 : (t.kind == 4) = false := by rw [hx]; rfl
    have b5 : (t.kind == 5) = true := by rw [hx]; rfl
    by_cases l20 : n ≤ 20
    · have l20i : ((n : Nat) : Int) ≤ 20 := by omega
      by_cases qn : q = n
      · have qni : (((q : Nat) : Int) == ((n : Nat) : Int)) = true := by simp; omega
        rcases hid_or (risingB smallB t.names) with rs | rs
        · skip
          have R : Hid (formT t = false) := Lib.hid (by
            rw [HF.out]
            unfold formW
            simp [hx, rs.out])
          clear HF
          clear hx qn
          as_aux_lemma =>
          rw [R.out]
          clear R
          go_enter Tryd.func35, Tryd.ntmps35
          go_wp2_with fail
          go_quiet (fail)
          go_wp2_with fail
          refine (rising_small An cn _ t.names _ HQ.out hzn (HNM.out.below (below_drewN (below_new (Below.refl _ _) _) _))).mono ?_; rintro e w0 ⟨rfl, rfl⟩; rw [rs.out]
          go_wp2_with fail
          go_ret
          exact ⟨rfl, below_drewN (below_new (Below.refl _ _) _) _⟩
        · skip
          rcases hid_or (noMore t) with um | um
          · skip
            have R : Hid (formT t = false) := Lib.hid (by
              rw [HF.out]
              unfold formW
              simp [hx, um.out])
            clear HF
            clear hx qn
            as_aux_lemma =>
            rw [R.out]
            clear R
            go_enter Tryd.func35, Tryd.ntmps35
            go_wp2_with fail
            go_quiet (fail)
            go_wp2_with fail
            refine (rising_small An cn _ t.names _ HQ.out hzn (HNM.out.below (below_drewN (below_new (Below.refl _ _) _) _))).mono ?_; rintro e w0 ⟨rfl, rfl⟩; rw [rs.out]
            go_wp2_with fail
            refine (unnamed_any t _ _ (HV.out.below (below_drewN (below_new (Below.refl _ _) _) _))).mono ?_; rintro e w1 ⟨rfl, hb1⟩; rw [um.out]
            go_wp2_with fail
            go_ret
            exact ⟨rfl, (below_drewN (below_new (Below.refl _ _) _) _).trans (hb1.mono (by simp))⟩
          · skip
            have R : Hid (formT t = true) := Lib.hid (by
              rw [HF.out]
              unfold formW
              simp [hx, l20, qn, rs.out, um.out])
            clear HF
            clear hx qn
            as_aux_lemma =>
            rw [R.out]
            clear R
            go_enter Tryd.func35, Tryd.ntmps35
            go_wp2_with fail
            go_quiet (fail)
            go_wp2_with fail
            refine (rising_small An cn _ t.names _ HQ.out hzn (HNM.out.below (below_drewN (below_new (Below.refl _ _) _) _))).mono ?_; rintro e w0 ⟨rfl, rfl⟩; rw [rs.out]
            go_wp2_with fail
            refine (unnamed_any t _ _ (HV.out.below (below_drewN (below_new (Below.refl _ _) _) _))).mono ?_; rintro e w1 ⟨rfl, hb1⟩; rw [um.out]
            go_wp2_with fail
            go_ret
            exact ⟨rfl, (below_drewN (below_new (Below.refl _ _) _) _).trans (hb1.mono (by simp))⟩
      · have qni : (((q : Nat) : Int) == ((n : Nat) : Int)) = false := by simp; omega
        have R : Hid (formT t = false) := Lib.hid (by
          rw [HF.out]
          unfold formW
          simp [hx, qn])
        clear HF
        clear hx qn
        as_aux_lemma =>
        rw [R.out]
        clear R
        go_enter Tryd.func35, Tryd.ntmps35
        go_wp2_with fail
        go_quiet (fail)
        go_wp2_with fail
        go_ret
        exact ⟨rfl, below_drewN (below_new (Below.refl _ _) _) _⟩
    · have l20i : ¬ (((n : Nat) : Int) ≤ 20) := by omega
      have R : Hid (formT t = false) := Lib.hid (by
        rw [HF.out]
        unfold formW
        simp [hx, l20])
      clear HF
      clear hx
      as_aux_lemma =>
      rw [R.out]
      clear R
      go_enter Tryd.func35, Tryd.ntmps35
      go_wp2_with fail
      go_quiet (fail)
      go_wp2_with fail
      go_ret
      exact ⟨rfl, below_drewN (below_new (Below.refl _ _) _) _⟩
  have c5 : ¬ t.kind = 5 := hx
  have d5 : (t.kind == 5) = false := by simpa using hx
  clear hx
  by_cases hx : t.kind = 6
  · skip
    have b1 : (t.kind == 1) = false := by rw [hx]; rfl
    have b2 : (t.kind == 2) = false := by rw [hx]; rfl
    have b3 : (t.kind == 3) = false := by rw [hx]; rfl
    have b4 : (t.kind == 4) = false := by rw [hx]; rfl
    have b5 : (t.kind == 5) = false := by rw [hx]; rfl
    have b6 : (t.kind == 6) = true := by rw [hx]; rfl
    by_cases l1 : 1 ≤ n
    · have l1i : (1 : Int) ≤ ((n : Nat) : Int) := by omega
      by_cases l20 : n ≤ 20
      · have l20i : ((n : Nat) : Int) ≤ 20 := by omega
        by_cases qn : q = n
        · have qni : (((q : Nat) : Int) == ((n : Nat) : Int)) = true := by simp; omega
          rcases hid_or (risingB greatB t.names) with rs | rs
          · skip
            have R : Hid (formT t = false) := Lib.hid (by
              rw [HF.out]
              unfold formW
              simp [hx, rs.out])
            clear HF
            clear hx qn
            as_aux_lemma =>
            rw [R.out]
            clear R
            go_enter Tryd.func35, Tryd.ntmps35
            go_wp2_with fail
            go_quiet (fail)
            go_wp2_with fail
            refine (rising_great An cn _ t.names _ HQ.out hzn (HNM.out.below (below_drewN (below_new (Below.refl _ _) _) _))).mono ?_; rintro e w0 ⟨rfl, rfl⟩; rw [rs.out]
            go_wp2_with fail
            go_ret
            exact ⟨rfl, below_drewN (below_new (Below.refl _ _) _) _⟩
          · skip
            rcases hid_or (noMore t) with um | um
            · skip
              have R : Hid (formT t = false) := Lib.hid (by
                rw [HF.out]
                unfold formW
                simp [hx, um.out])
              clear HF
              clear hx qn
              as_aux_lemma =>
              rw [R.out]
              clear R
              go_enter Tryd.func35, Tryd.ntmps35
              go_wp2_with fail
              go_quiet (fail)
              go_wp2_with fail
              refine (rising_great An cn _ t.names _ HQ.out hzn (HNM.out.below (below_drewN (below_new (Below.refl _ _) _) _))).mono ?_; rintro e w0 ⟨rfl, rfl⟩; rw [rs.out]
              go_wp2_with fail
              refine (unnamed_any t _ _ (HV.out.below (below_drewN (below_new (Below.refl _ _) _) _))).mono ?_; rintro e w1 ⟨rfl, hb1⟩; rw [um.out]
              go_wp2_with fail
              go_ret
              exact ⟨rfl, (below_drewN (below_new (Below.refl _ _) _) _).trans (hb1.mono (by simp))⟩
            · skip
              have R : Hid (formT t = true) := Lib.hid (by
                rw [HF.out]
                unfold formW
                simp [hx, l1, l20, qn, rs.out, um.out])
              clear HF
              clear hx qn
              as_aux_lemma =>
              rw [R.out]
              clear R
              go_enter Tryd.func35, Tryd.ntmps35
              go_wp2_with fail
              go_quiet (fail)
              go_wp2_with fail
              refine (rising_great An cn _ t.names _ HQ.out hzn (HNM.out.below (below_drewN (below_new (Below.refl _ _) _) _))).mono ?_; rintro e w0 ⟨rfl, rfl⟩; rw [rs.out]
              go_wp2_with fail
              refine (unnamed_any t _ _ (HV.out.below (below_drewN (below_new (Below.refl _ _) _) _))).mono ?_; rintro e w1 ⟨rfl, hb1⟩; rw [um.out]
              go_wp2_with fail
              go_ret
              exact ⟨rfl, (below_drewN (below_new (Below.refl _ _) _) _).trans (hb1.mono (by simp))⟩
        · have qni : (((q : Nat) : Int) == ((n : Nat) : Int)) = false := by simp; omega
          have R : Hid (formT t = false) := Lib.hid (by
            rw [HF.out]
            unfold formW
            simp [hx, qn])
          clear HF
          clear hx qn
          as_aux_lemma =>
          rw [R.out]
          clear R
          go_enter Tryd.func35, Tryd.ntmps35
          go_wp2_with fail
          go_quiet (fail)
          go_wp2_with fail
          go_ret
          exact ⟨rfl, below_drewN (below_new (Below.refl _ _) _) _⟩
      · have l20i : ¬ (((n : Nat) : Int) ≤ 20) := by omega
        have R : Hid (formT t = false) := Lib.hid (by
          rw [HF.out]
          unfold formW
          simp [hx, l20])
        clear HF
        clear hx
        as_aux_lemma =>
        rw [R.out]
        clear R
        go_enter Tryd.func35, Tryd.ntmps35
        go_wp2_with fail
        go_quiet (fail)
        go_wp2_with fail
        go_ret
        exact ⟨rfl, below_drewN (below_new (Below.refl _ _) _) _⟩
    · have l1i : ¬ ((1 : Int) ≤ ((n : Nat) : Int)) := by omega
      have R : Hid (formT t = false) := Lib.hid (by
        rw [HF.out]
        unfold formW
        simp [hx, l1])
      clear HF
      clear hx
      as_aux_lemma =>
      rw [R.out]
      clear R
      go_enter Tryd.func35, Tryd.ntmps35
      go_wp2_with fail
      go_quiet (fail)
      go_wp2_with fail
      go_ret
      exact ⟨rfl, below_drewN (below_new (Below.refl _ _) _) _⟩
  have c6 : ¬ t.kind = 6 := hx
  have d6 : (t.kind == 6) = false := by simpa using hx
  clear hx
  by_cases hx : t.kind = 7
  · skip
    have b1 : (t.kind == 1) = false := by rw [hx]; rfl
    have b2 : (t.kind == 2) = false := by rw [hx]; rfl
    have b3 : (t.kind == 3) = false := by rw [hx]; rfl
    have b4 : (t.kind == 4) = false := by rw [hx]; rfl
    have b5 : (t.kind == 5) = false := by rw [hx]; rfl
    have b6 : (t.kind == 6) = false := by rw [hx]; rfl
    have b7 : (t.kind == 7) = true := by rw [hx]; rfl
    by_cases l1 : 1 ≤ n
    · have l1i : (1 : Int) ≤ ((n : Nat) : Int) := by omega
      by_cases l20 : n ≤ 20
      · have l20i : ((n : Nat) : Int) ≤ 20 := by omega
        by_cases q0 : q = 0
        · have q0i : (((q : Nat) : Int) == 0) = true := by simp; omega
          rcases hid_or (noMore t) with um | um
          · skip
            have R : Hid (formT t = false) := Lib.hid (by
              rw [HF.out]
              unfold formW
              simp [hx, um.out])
            clear HF
            clear hx q0
            as_aux_lemma =>
            rw [R.out]
            clear R
            go_enter Tryd.func35, Tryd.ntmps35
            go_wp2_with fail
            go_quiet (fail)
            go_wp2_with fail
            refine (unnamed_any t _ _ (HV.out.below (below_drewN (below_new (Below.refl _ _) _) _))).mono ?_; rintro e w0 ⟨rfl, hb0⟩; rw [um.out]
            go_wp2_with fail
            go_ret
            exact ⟨rfl, (below_drewN (below_new (Below.refl _ _) _) _).trans (hb0.mono (by simp))⟩
          · skip
            have R : Hid (formT t = true) := Lib.hid (by
              rw [HF.out]
              unfold formW
              simp [hx, l1, l20, q0, um.out])
            clear HF
            clear hx q0
            as_aux_lemma =>
            rw [R.out]
            clear R
            go_enter Tryd.func35, Tryd.ntmps35
            go_wp2_with fail
            go_quiet (fail)
            go_wp2_with fail
            refine (unnamed_any t _ _ (HV.out.below (below_drewN (below_new (Below.refl _ _) _) _))).mono ?_; rintro e w0 ⟨rfl, hb0⟩; rw [um.out]
            go_wp2_with fail
            go_ret
            exact ⟨rfl, (below_drewN (below_new (Below.refl _ _) _) _).trans (hb0.mono (by simp))⟩
        · have q0i : (((q : Nat) : Int) == 0) = false := by simp; omega
          have R : Hid (formT t = false) := Lib.hid (by
            rw [HF.out]
            unfold formW
            simp [hx, q0])
          clear HF
          clear hx q0
          as_aux_lemma =>
          rw [R.out]
          clear R
          go_enter Tryd.func35, Tryd.ntmps35
          go_wp2_with fail
          go_quiet (fail)
          go_wp2_with fail
          go_ret
          exact ⟨rfl, below_drewN (below_new (Below.refl _ _) _) _⟩
      · have l20i : ¬ (((n : Nat) : Int) ≤ 20) := by omega
        have R : Hid (formT t = false) := Lib.hid (by
          rw [HF.out]
          unfold formW
          simp [hx, l20])
        clear HF
        clear hx
        as_aux_lemma =>
        rw [R.out]
        clear R
        go_enter Tryd.func35, Tryd.ntmps35
        go_wp2_with fail
        go_quiet (fail)
        go_wp2_with fail
        go_ret
        exact ⟨rfl, below_drewN (below_new (Below.refl _ _) _) _⟩
    · have l1i : ¬ ((1 : Int) ≤ ((n : Nat) : Int)) := by omega
      have R : Hid (formT t = false) := Lib.hid (by
        rw [HF.out]
        unfold formW
        simp [hx, l1])
      clear HF
      clear hx
      as_aux_lemma =>
      rw [R.out]
      clear R
      go_enter Tryd.func35, Tryd.ntmps35
      go_wp2_with fail
      go_quiet (fail)
      go_wp2_with fail
      go_ret
      exact ⟨rfl, below_drewN (below_new (Below.refl _ _) _) _⟩
  have c7 : ¬ t.kind = 7 := hx
  have d7 : (t.kind == 7) = false := by simpa using hx
  clear hx
  by_cases hx : t.kind = 8
  · skip
    have b1 : (t.kind == 1) = false := by rw [hx]; rfl
    have b2 : (t.kind == 2) = false := by rw [hx]; rfl
    have b3 : (t.kind == 3) = false := by rw [hx]; rfl
    have b4 : (t.kind == 4) = false := by rw [hx]; rfl
    have b5 : (t.kind == 5) = false := by rw [hx]; rfl
    have b6 : (t.kind == 6) = false := by rw [hx]; rfl
    have b7 : (t.kind == 7) = false := by rw [hx]; rfl
    have b8 : (t.kind == 8) = true := by rw [hx]; rfl
    by_cases n0 : n = 0
    · have n0i : (((n : Nat) : Int) == 0) = true := by simp; omega
      by_cases q0 : q = 0
      · have q0i : (((q : Nat) : Int) == 0) = true := by simp; omega
        rcases hid_or (localOk t) with lo | lo
        · skip
          have R : Hid (formT t = false) := Lib.hid (by
            rw [HF.out]
            unfold formW
            simp [hx, lo.out])
          clear HF
          clear hx n0 q0
          as_aux_lemma =>
          rw [R.out]
          clear R
          go_enter Tryd.func35, Tryd.ntmps35
          go_wp2_with fail
          go_quiet (fail)
          go_wp2_with fail
          refine (mayLocal_any t _ _ (HV.out.below (below_drewN (below_new (Below.refl _ _) _) _))).mono ?_; rintro e w0 ⟨rfl, hb0⟩; rw [lo.out]
          go_wp2_with fail
          go_ret
          exact ⟨rfl, (below_drewN (below_new (Below.refl _ _) _) _).trans (hb0.mono (by simp))⟩
        · skip
          have R : Hid (formT t = true) := Lib.hid (by
            rw [HF.out]
            unfold formW
            simp [hx, n0, q0, lo.out])
          clear HF
          clear hx n0 q0
          as_aux_lemma =>
          rw [R.out]
          clear R
          go_enter Tryd.func35, Tryd.ntmps35
          go_wp2_with fail
          go_quiet (fail)
          go_wp2_with fail
          refine (mayLocal_any t _ _ (HV.out.below (below_drewN (below_new (Below.refl _ _) _) _))).mono ?_; rintro e w0 ⟨rfl, hb0⟩; rw [lo.out]
          go_wp2_with fail
          go_ret
          exact ⟨rfl, (below_drewN (below_new (Below.refl _ _) _) _).trans (hb0.mono (by simp))⟩
      · have q0i : (((q : Nat) : Int) == 0) = false := by simp; omega
        have R : Hid (formT t = false) := Lib.hid (by
          rw [HF.out]
          unfold formW
          simp [hx, q0])
        clear HF
        clear hx n0 q0
        as_aux_lemma =>
        rw [R.out]
        clear R
        go_enter Tryd.func35, Tryd.ntmps35
        go_wp2_with fail
        go_quiet (fail)
        go_wp2_with fail
        go_ret
        exact ⟨rfl, below_drewN (below_new (Below.refl _ _) _) _⟩
    · have n0i : (((n : Nat) : Int) == 0) = false := by simp; omega
      have R : Hid (formT t = false) := Lib.hid (by
        rw [HF.out]
        unfold formW
        simp [hx, n0])
      clear HF
      clear hx n0
      as_aux_lemma =>
      rw [R.out]
      clear R
      go_enter Tryd.func35, Tryd.ntmps35
      go_wp2_with fail
      go_quiet (fail)
      go_wp2_with fail
      go_ret
      exact ⟨rfl, below_drewN (below_new (Below.refl _ _) _) _⟩
  have c8 : ¬ t.kind = 8 := hx
  have d8 : (t.kind == 8) = false := by simpa using hx
  clear hx
  by_cases hx : t.kind = 9
  · skip
    have b1 : (t.kind == 1) = false := by rw [hx]; rfl
    have b2 : (t.kind == 2) = false := by rw [hx]; rfl
    have b3 : (t.kind == 3) = false := by rw [hx]; rfl
    have b4 : (t.kind == 4) = false := by rw [hx]; rfl
    have b5 : (t.kind == 5) = false := by rw [hx]; rfl
    have b6 : (t.kind == 6) = false := by rw [hx]; rfl
    have b7 : (t.kind == 7) = false := by rw [hx]; rfl
    have b8 : (t.kind == 8) = false := by rw [hx]; rfl
    have b9 : (t.kind == 9) = true := by rw [hx]; rfl
    by_cases n0 : n = 0
    · have n0i : (((n : Nat) : Int) == 0) = true := by simp; omega
      by_cases q0 : q = 0
      · have q0i : (((q : Nat) : Int) == 0) = true := by simp; omega
        rcases hid_or (openOk t) with lo | lo
        · skip
          have R : Hid (formT t = false) := Lib.hid (by
            rw [HF.out]
            unfold formW
            simp [hx, lo.out])
          clear HF
          clear hx n0 q0
          as_aux_lemma =>
          rw [R.out]
          clear R
          go_enter Tryd.func35, Tryd.ntmps35
          go_wp2_with fail
          go_quiet (fail)
          go_wp2_with fail
          refine (mayOpen_any t _ _ (HV.out.below (below_drewN (below_new (Below.refl _ _) _) _))).mono ?_; rintro e w0 ⟨rfl, hb0⟩; rw [lo.out]
          go_wp2_with fail
          go_ret
          exact ⟨rfl, (below_drewN (below_new (Below.refl _ _) _) _).trans (hb0.mono (by simp))⟩
        · skip
          have R : Hid (formT t = true) := Lib.hid (by
            rw [HF.out]
            unfold formW
            simp [hx, n0, q0, lo.out])
          clear HF
          clear hx n0 q0
          as_aux_lemma =>
          rw [R.out]
          clear R
          go_enter Tryd.func35, Tryd.ntmps35
          go_wp2_with fail
          go_quiet (fail)
          go_wp2_with fail
          refine (mayOpen_any t _ _ (HV.out.below (below_drewN (below_new (Below.refl _ _) _) _))).mono ?_; rintro e w0 ⟨rfl, hb0⟩; rw [lo.out]
          go_wp2_with fail
          go_ret
          exact ⟨rfl, (below_drewN (below_new (Below.refl _ _) _) _).trans (hb0.mono (by simp))⟩
      · have q0i : (((q : Nat) : Int) == 0) = false := by simp; omega
        have R : Hid (formT t = false) := Lib.hid (by
          rw [HF.out]
          unfold formW
          simp [hx, q0])
        clear HF
        clear hx n0 q0
        as_aux_lemma =>
        rw [R.out]
        clear R
        go_enter Tryd.func35, Tryd.ntmps35
        go_wp2_with fail
        go_quiet (fail)
        go_wp2_with fail
        go_ret
        exact ⟨rfl, below_drewN (below_new (Below.refl _ _) _) _⟩
    · have n0i : (((n : Nat) : Int) == 0) = false := by simp; omega
      have R : Hid (formT t = false) := Lib.hid (by
        rw [HF.out]
        unfold formW
        simp [hx, n0])
      clear HF
      clear hx n0
      as_aux_lemma =>
      rw [R.out]
      clear R
      go_enter Tryd.func35, Tryd.ntmps35
      go_wp2_with fail
      go_quiet (fail)
      go_wp2_with fail
      go_ret
      exact ⟨rfl, below_drewN (below_new (Below.refl _ _) _) _⟩
  have c9 : ¬ t.kind = 9 := hx
  have d9 : (t.kind == 9) = false := by simpa using hx
  clear hx
  have R : Hid (formT t = false) := Lib.hid (by
    rw [HF.out]
    unfold formW
    simp [c1, c2, c3, c4, c5, c6, c7, c8, c9])
  clear HF
  as_aux_lemma =>
  rw [R.out]
  clear R
  go_enter Tryd.func35, Tryd.ntmps35
  go_wp2_with fail
  go_quiet (fail)
  go_wp2_with fail
  go_ret
  exact ⟨rfl, below_drewN (below_new (Below.refl _ _) _) _⟩

end Go.Proofs.YtnnppdlhmcobcaaDoor
