/-
  Several texts in one.
-/
import Derived.Test.YteecgiebimdbhaaGreatDoorK10
set_option maxRecDepth 100000
set_option maxHeartbeats 16000000
namespace Go.Proofs.YteecgiebimdbhaaGreatDoor
open Go.RowKit
open M
theorem formed_any (t : Ty) (v : Value) (w : World) (hv : TyV w v t) :
  Calls Tryz.prog 189 #[v] w fun e w' => e = .returned (.bool (formT t)) /\ Below w.heap.size w w' := by
 have HV := hZ hv
 obtain ⟨l, rfl, hT⟩ := hv
 obtain ⟨An, cn, As, cs, rfl, zp, zm, za, hzn, hz, hN, -⟩ := hT.parts
 have HNM := hZ hN
 clear hT hN
 have HF := hZ (formT_w t)
 generalize hn : t.subs.length = n at hz HF HV
 generalize hq : t.names.length = q at hzn HF HV
 have HQ := hZ hq
 clear hn hq
 by_cases hx : t.kind = 1
 ·skip
  have b1 : (t.kind == 1) = true := by rw [hx]; rfl
  by_cases n0 : n = 0
  ·have n0i : (((n : Nat) : Int) == 0) = true := by simp; omega
   by_cases q0 : q = 0
   ·have q0i : (((q : Nat) : Int) == 0) = true := by simp; omega
    rcases hid_or (noMore t) with um | um
    ·skip
     have R : Hid (formT t = false) := hZ (by
      rw [HF.out];unfold formW
      simp [hx, um.out])
     clear HF;clear hx n0 q0;as_aux_lemma =>
     rw [R.out];clear R;go_enter Tryz.func189, Tryz.ntmps189
     go_wp2_with fail
     go_quiet (fail)
     go_wp2_with fail
     refine (unnamed_any t _ _ (HV.out.below (below_drewN (below_new (Below.refl _ _) _) _))).mono ?_; rintro e w0 ⟨rfl, hb0⟩; rw [um.out]
     go_wp2_with fail
     go_ret;exact ⟨rfl, (below_drewN (below_new (Below.refl _ _) _) _).trans (hb0.mono (by simp))⟩
    ·skip
     have R : Hid (formT t = true) := hZ (by
      rw [HF.out];unfold formW
      simp [hx, n0, q0, um.out])
     clear HF;clear hx n0 q0;as_aux_lemma =>
     rw [R.out];clear R;go_enter Tryz.func189, Tryz.ntmps189
     go_wp2_with fail
     go_quiet (fail)
     go_wp2_with fail
     refine (unnamed_any t _ _ (HV.out.below (below_drewN (below_new (Below.refl _ _) _) _))).mono ?_; rintro e w0 ⟨rfl, hb0⟩; rw [um.out]
     go_wp2_with fail
     go_ret;exact ⟨rfl, (below_drewN (below_new (Below.refl _ _) _) _).trans (hb0.mono (by simp))⟩
   ·have q0i : (((q : Nat) : Int) == 0) = false := by simp; omega
    have R : Hid (formT t = false) := hZ (by
     rw [HF.out];unfold formW
     simp [hx, q0])
    clear HF;clear hx n0 q0;as_aux_lemma =>
    rw [R.out];clear R;go_enter Tryz.func189, Tryz.ntmps189
    go_wp2_with fail
    go_quiet (fail)
    go_wp2_with fail
    go_ret;exact ⟨rfl, below_drewN (below_new (Below.refl _ _) _) _⟩
  ·have n0i : (((n : Nat) : Int) == 0) = false := by simp; omega
   have R : Hid (formT t = false) := hZ (by
    rw [HF.out];unfold formW
    simp [hx, n0])
   clear HF;clear hx n0;as_aux_lemma =>
   rw [R.out];clear R;go_enter Tryz.func189, Tryz.ntmps189
   go_wp2_with fail
   go_quiet (fail)
   go_wp2_with fail
   go_ret;exact ⟨rfl, below_drewN (below_new (Below.refl _ _) _) _⟩
 have c1 : ¬ t.kind = 1 := hx
 have d1 : (t.kind == 1) = false := by simpa using hx
 clear hx
 by_cases hx : t.kind = 2
 ·skip
  have b1 : (t.kind == 1) = false := by rw [hx]; rfl
  have b2 : (t.kind == 2) = true := by rw [hx]; rfl
  by_cases n0 : n = 0
  ·have n0i : (((n : Nat) : Int) == 0) = true := by simp; omega
   by_cases q0 : q = 0
   ·have q0i : (((q : Nat) : Int) == 0) = true := by simp; omega
    rcases hid_or (noMore t) with um | um
    ·skip
     have R : Hid (formT t = false) := hZ (by
      rw [HF.out];unfold formW
      simp [hx, um.out])
     clear HF;clear hx n0 q0;as_aux_lemma =>
     rw [R.out];clear R;go_enter Tryz.func189, Tryz.ntmps189
     go_wp2_with fail
     go_quiet (fail)
     go_wp2_with fail
     refine (unnamed_any t _ _ (HV.out.below (below_drewN (below_new (Below.refl _ _) _) _))).mono ?_; rintro e w0 ⟨rfl, hb0⟩; rw [um.out]
     go_wp2_with fail
     go_ret;exact ⟨rfl, (below_drewN (below_new (Below.refl _ _) _) _).trans (hb0.mono (by simp))⟩
    ·skip
     have R : Hid (formT t = true) := hZ (by
      rw [HF.out];unfold formW
      simp [hx, n0, q0, um.out])
     clear HF;clear hx n0 q0;as_aux_lemma =>
     rw [R.out];clear R;go_enter Tryz.func189, Tryz.ntmps189
     go_wp2_with fail
     go_quiet (fail)
     go_wp2_with fail
     refine (unnamed_any t _ _ (HV.out.below (below_drewN (below_new (Below.refl _ _) _) _))).mono ?_; rintro e w0 ⟨rfl, hb0⟩; rw [um.out]
     go_wp2_with fail
     go_ret;exact ⟨rfl, (below_drewN (below_new (Below.refl _ _) _) _).trans (hb0.mono (by simp))⟩
   ·have q0i : (((q : Nat) : Int) == 0) = false := by simp; omega
    have R : Hid (formT t = false) := hZ (by
     rw [HF.out];unfold formW
     simp [hx, q0])
    clear HF;clear hx n0 q0;as_aux_lemma =>
    rw [R.out];clear R;go_enter Tryz.func189, Tryz.ntmps189
    go_wp2_with fail
    go_quiet (fail)
    go_wp2_with fail
    go_ret;exact ⟨rfl, below_drewN (below_new (Below.refl _ _) _) _⟩
  ·have n0i : (((n : Nat) : Int) == 0) = false := by simp; omega
   have R : Hid (formT t = false) := hZ (by
    rw [HF.out];unfold formW
    simp [hx, n0])
   clear HF;clear hx n0;as_aux_lemma =>
   rw [R.out];clear R;go_enter Tryz.func189, Tryz.ntmps189
   go_wp2_with fail
   go_quiet (fail)
   go_wp2_with fail
   go_ret;exact ⟨rfl, below_drewN (below_new (Below.refl _ _) _) _⟩
 have c2 : ¬ t.kind = 2 := hx
 have d2 : (t.kind == 2) = false := by simpa using hx
 clear hx
 by_cases hx : t.kind = 3
 ·skip
  have b1 : (t.kind == 1) = false := by rw [hx]; rfl
  have b2 : (t.kind == 2) = false := by rw [hx]; rfl
  have b3 : (t.kind == 3) = true := by rw [hx]; rfl
  by_cases n0 : n = 0
  ·have n0i : (((n : Nat) : Int) == 0) = true := by simp; omega
   by_cases q0 : q = 0
   ·have q0i : (((q : Nat) : Int) == 0) = true := by simp; omega
    rcases hid_or (noMore t) with um | um
    ·skip
     have R : Hid (formT t = false) := hZ (by
      rw [HF.out];unfold formW
      simp [hx, um.out])
     clear HF;clear hx n0 q0;as_aux_lemma =>
     rw [R.out];clear R;go_enter Tryz.func189, Tryz.ntmps189
     go_wp2_with fail
     go_quiet (fail)
     go_wp2_with fail
     refine (unnamed_any t _ _ (HV.out.below (below_drewN (below_new (Below.refl _ _) _) _))).mono ?_; rintro e w0 ⟨rfl, hb0⟩; rw [um.out]
     go_wp2_with fail
     go_ret;exact ⟨rfl, (below_drewN (below_new (Below.refl _ _) _) _).trans (hb0.mono (by simp))⟩
    ·skip
     have R : Hid (formT t = true) := hZ (by
      rw [HF.out];unfold formW
      simp [hx, n0, q0, um.out])
     clear HF;clear hx n0 q0;as_aux_lemma =>
     rw [R.out];clear R;go_enter Tryz.func189, Tryz.ntmps189
     go_wp2_with fail
     go_quiet (fail)
     go_wp2_with fail
     refine (unnamed_any t _ _ (HV.out.below (below_drewN (below_new (Below.refl _ _) _) _))).mono ?_; rintro e w0 ⟨rfl, hb0⟩; rw [um.out]
     go_wp2_with fail
     go_ret;exact ⟨rfl, (below_drewN (below_new (Below.refl _ _) _) _).trans (hb0.mono (by simp))⟩
   ·have q0i : (((q : Nat) : Int) == 0) = false := by simp; omega
    have R : Hid (formT t = false) := hZ (by
     rw [HF.out];unfold formW
     simp [hx, q0])
    clear HF;clear hx n0 q0;as_aux_lemma =>
    rw [R.out];clear R;go_enter Tryz.func189, Tryz.ntmps189
    go_wp2_with fail
    go_quiet (fail)
    go_wp2_with fail
    go_ret;exact ⟨rfl, below_drewN (below_new (Below.refl _ _) _) _⟩
  ·have n0i : (((n : Nat) : Int) == 0) = false := by simp; omega
   have R : Hid (formT t = false) := hZ (by
    rw [HF.out];unfold formW
    simp [hx, n0])
   clear HF;clear hx n0;as_aux_lemma =>
   rw [R.out];clear R;go_enter Tryz.func189, Tryz.ntmps189
   go_wp2_with fail
   go_quiet (fail)
   go_wp2_with fail
   go_ret;exact ⟨rfl, below_drewN (below_new (Below.refl _ _) _) _⟩
 have c3 : ¬ t.kind = 3 := hx
 have d3 : (t.kind == 3) = false := by simpa using hx
 clear hx
 by_cases hx : t.kind = 4
 ·skip
  have b1 : (t.kind == 1) = false := by rw [hx]; rfl
  have b2 : (t.kind == 2) = false := by rw [hx]; rfl
  have b3 : (t.kind == 3) = false := by rw [hx]; rfl
  have b4 : (t.kind == 4) = true := by rw [hx]; rfl
  by_cases n1 : n = 1
  ·have n1i : (((n : Nat) : Int) == 1) = true := by simp; omega
   by_cases q0 : q = 0
   ·have q0i : (((q : Nat) : Int) == 0) = true := by simp; omega
    rcases hid_or (noMore t) with um | um
    ·skip
     have R : Hid (formT t = false) := hZ (by
      rw [HF.out];unfold formW
      simp [hx, um.out])
     clear HF;clear hx q0 n1;as_aux_lemma =>
     rw [R.out];clear R;go_enter Tryz.func189, Tryz.ntmps189
     go_wp2_with fail
     go_quiet (fail)
     go_wp2_with fail
     refine (unnamed_any t _ _ (HV.out.below (below_drewN (below_new (Below.refl _ _) _) _))).mono ?_; rintro e w0 ⟨rfl, hb0⟩; rw [um.out]
     go_wp2_with fail
     go_ret;exact ⟨rfl, (below_drewN (below_new (Below.refl _ _) _) _).trans (hb0.mono (by simp))⟩
    ·skip
     have R : Hid (formT t = true) := hZ (by
      rw [HF.out];unfold formW
      simp [hx, n1, q0, um.out])
     clear HF;clear hx q0 n1;as_aux_lemma =>
     rw [R.out];clear R;go_enter Tryz.func189, Tryz.ntmps189
     go_wp2_with fail
     go_quiet (fail)
     go_wp2_with fail
     refine (unnamed_any t _ _ (HV.out.below (below_drewN (below_new (Below.refl _ _) _) _))).mono ?_; rintro e w0 ⟨rfl, hb0⟩; rw [um.out]
     go_wp2_with fail
     go_ret;exact ⟨rfl, (below_drewN (below_new (Below.refl _ _) _) _).trans (hb0.mono (by simp))⟩
   ·have q0i : (((q : Nat) : Int) == 0) = false := by simp; omega
    have R : Hid (formT t = false) := hZ (by
     rw [HF.out];unfold formW
     simp [hx, q0])
    clear HF;clear hx q0 n1;as_aux_lemma =>
    rw [R.out];clear R;go_enter Tryz.func189, Tryz.ntmps189
    go_wp2_with fail
    go_quiet (fail)
    go_wp2_with fail
    go_ret;exact ⟨rfl, below_drewN (below_new (Below.refl _ _) _) _⟩
  ·have n1i : (((n : Nat) : Int) == 1) = false := by simp; omega
   have R : Hid (formT t = false) := hZ (by
    rw [HF.out];unfold formW
    simp [hx, n1])
   clear HF;clear hx n1;as_aux_lemma =>
   rw [R.out];clear R;go_enter Tryz.func189, Tryz.ntmps189
   go_wp2_with fail
   go_quiet (fail)
   go_wp2_with fail
   go_ret;exact ⟨rfl, below_drewN (below_new (Below.refl _ _) _) _⟩
 have c4 : ¬ t.kind = 4 := hx
 have d4 : (t.kind == 4) = false := by simpa using hx
 clear hx
 by_cases hx : t.kind = 5
 ·skip
  have b1 : (t.kind == 1) = false := by rw [hx]; rfl
  have b2 : (t.kind == 2) = false := by rw [hx]; rfl
  have b3 : (t.kind == 3) = false := by rw [hx]; rfl
  have b4 : (t.kind == 4) = false := by rw [hx]; rfl
  have b5 : (t.kind == 5) = true := by rw [hx]; rfl
  by_cases l20 : n <= 20
  ·have l20i : ((n : Nat) : Int) <= 20 := by omega
   by_cases qn : q = n
   ·have qni : (((q : Nat) : Int) == ((n : Nat) : Int)) = true := by simp; omega
    rcases hid_or (risingB smallB t.names) with rs | rs
    ·skip
     have R : Hid (formT t = false) := hZ (by
      rw [HF.out];unfold formW
      simp [hx, rs.out])
     clear HF;clear hx qn;as_aux_lemma =>
     rw [R.out];clear R;go_enter Tryz.func189, Tryz.ntmps189
     go_wp2_with fail
     go_quiet (fail)
     go_wp2_with fail
     refine (rising_small An cn _ t.names _ HQ.out hzn (HNM.out.below (below_drewN (below_new (Below.refl _ _) _) _))).mono ?_; rintro e w0 ⟨rfl, rfl⟩; rw [rs.out]
     go_wp2_with fail
     go_ret;exact ⟨rfl, below_drewN (below_new (Below.refl _ _) _) _⟩
    ·skip
     rcases hid_or (noMore t) with um | um
     ·skip
      have R : Hid (formT t = false) := hZ (by
       rw [HF.out];unfold formW
       simp [hx, um.out])
      clear HF;clear hx qn;as_aux_lemma =>
      rw [R.out];clear R;go_enter Tryz.func189, Tryz.ntmps189
      go_wp2_with fail
      go_quiet (fail)
      go_wp2_with fail
      refine (rising_small An cn _ t.names _ HQ.out hzn (HNM.out.below (below_drewN (below_new (Below.refl _ _) _) _))).mono ?_; rintro e w0 ⟨rfl, rfl⟩; rw [rs.out]
      go_wp2_with fail
      refine (unnamed_any t _ _ (HV.out.below (below_drewN (below_new (Below.refl _ _) _) _))).mono ?_; rintro e w1 ⟨rfl, hb1⟩; rw [um.out]
      go_wp2_with fail
      go_ret;exact ⟨rfl, (below_drewN (below_new (Below.refl _ _) _) _).trans (hb1.mono (by simp))⟩
     ·skip
      have R : Hid (formT t = true) := hZ (by
       rw [HF.out];unfold formW
       simp [hx, l20, qn, rs.out, um.out])
      clear HF;clear hx qn;as_aux_lemma =>
      rw [R.out];clear R;go_enter Tryz.func189, Tryz.ntmps189
      go_wp2_with fail
      go_quiet (fail)
      go_wp2_with fail
      refine (rising_small An cn _ t.names _ HQ.out hzn (HNM.out.below (below_drewN (below_new (Below.refl _ _) _) _))).mono ?_; rintro e w0 ⟨rfl, rfl⟩; rw [rs.out]
      go_wp2_with fail
      refine (unnamed_any t _ _ (HV.out.below (below_drewN (below_new (Below.refl _ _) _) _))).mono ?_; rintro e w1 ⟨rfl, hb1⟩; rw [um.out]
      go_wp2_with fail
      go_ret;exact ⟨rfl, (below_drewN (below_new (Below.refl _ _) _) _).trans (hb1.mono (by simp))⟩
   ·have qni : (((q : Nat) : Int) == ((n : Nat) : Int)) = false := by simp; omega
    have R : Hid (formT t = false) := hZ (by
     rw [HF.out];unfold formW
     simp [hx, qn])
    clear HF;clear hx qn;as_aux_lemma =>
    rw [R.out];clear R;go_enter Tryz.func189, Tryz.ntmps189
    go_wp2_with fail
    go_quiet (fail)
    go_wp2_with fail
    go_ret;exact ⟨rfl, below_drewN (below_new (Below.refl _ _) _) _⟩
  ·have l20i : ¬ (((n : Nat) : Int) <= 20) := by omega
   have R : Hid (formT t = false) := hZ (by
    rw [HF.out];unfold formW
    simp [hx, l20])
   clear HF;clear hx;as_aux_lemma =>
   rw [R.out];clear R;go_enter Tryz.func189, Tryz.ntmps189
   go_wp2_with fail
   go_quiet (fail)
   go_wp2_with fail
   go_ret;exact ⟨rfl, below_drewN (below_new (Below.refl _ _) _) _⟩
 have c5 : ¬ t.kind = 5 := hx
 have d5 : (t.kind == 5) = false := by simpa using hx
 clear hx
 by_cases hx : t.kind = 6
 ·skip
  have b1 : (t.kind == 1) = false := by rw [hx]; rfl
  have b2 : (t.kind == 2) = false := by rw [hx]; rfl
  have b3 : (t.kind == 3) = false := by rw [hx]; rfl
  have b4 : (t.kind == 4) = false := by rw [hx]; rfl
  have b5 : (t.kind == 5) = false := by rw [hx]; rfl
  have b6 : (t.kind == 6) = true := by rw [hx]; rfl
  by_cases l1 : 1 <= n
  ·have l1i : (1 : Int) <= ((n : Nat) : Int) := by omega
   by_cases l20 : n <= 20
   ·have l20i : ((n : Nat) : Int) <= 20 := by omega
    by_cases qn : q = n
    ·have qni : (((q : Nat) : Int) == ((n : Nat) : Int)) = true := by simp; omega
     rcases hid_or (risingB greatB t.names) with rs | rs
     ·skip
      have R : Hid (formT t = false) := hZ (by
       rw [HF.out];unfold formW
       simp [hx, rs.out])
      clear HF;clear hx qn;as_aux_lemma =>
      rw [R.out];clear R;go_enter Tryz.func189, Tryz.ntmps189
      go_wp2_with fail
      go_quiet (fail)
      go_wp2_with fail
      refine (rising_great An cn _ t.names _ HQ.out hzn (HNM.out.below (below_drewN (below_new (Below.refl _ _) _) _))).mono ?_; rintro e w0 ⟨rfl, rfl⟩; rw [rs.out]
      go_wp2_with fail
      go_ret;exact ⟨rfl, below_drewN (below_new (Below.refl _ _) _) _⟩
     ·skip
      rcases hid_or (noMore t) with um | um
      ·skip
       have R : Hid (formT t = false) := hZ (by
        rw [HF.out];unfold formW
        simp [hx, um.out])
       clear HF;clear hx qn;as_aux_lemma =>
       rw [R.out];clear R;go_enter Tryz.func189, Tryz.ntmps189
       go_wp2_with fail
       go_quiet (fail)
       go_wp2_with fail
       refine (rising_great An cn _ t.names _ HQ.out hzn (HNM.out.below (below_drewN (below_new (Below.refl _ _) _) _))).mono ?_; rintro e w0 ⟨rfl, rfl⟩; rw [rs.out]
       go_wp2_with fail
       refine (unnamed_any t _ _ (HV.out.below (below_drewN (below_new (Below.refl _ _) _) _))).mono ?_; rintro e w1 ⟨rfl, hb1⟩; rw [um.out]
       go_wp2_with fail
       go_ret;exact ⟨rfl, (below_drewN (below_new (Below.refl _ _) _) _).trans (hb1.mono (by simp))⟩
      ·skip
       have R : Hid (formT t = true) := hZ (by
        rw [HF.out];unfold formW
        simp [hx, l1, l20, qn, rs.out, um.out])
       clear HF;clear hx qn;as_aux_lemma =>
       rw [R.out];clear R;go_enter Tryz.func189, Tryz.ntmps189
       go_wp2_with fail
       go_quiet (fail)
       go_wp2_with fail
       refine (rising_great An cn _ t.names _ HQ.out hzn (HNM.out.below (below_drewN (below_new (Below.refl _ _) _) _))).mono ?_; rintro e w0 ⟨rfl, rfl⟩; rw [rs.out]
       go_wp2_with fail
       refine (unnamed_any t _ _ (HV.out.below (below_drewN (below_new (Below.refl _ _) _) _))).mono ?_; rintro e w1 ⟨rfl, hb1⟩; rw [um.out]
       go_wp2_with fail
       go_ret;exact ⟨rfl, (below_drewN (below_new (Below.refl _ _) _) _).trans (hb1.mono (by simp))⟩
    ·have qni : (((q : Nat) : Int) == ((n : Nat) : Int)) = false := by simp; omega
     have R : Hid (formT t = false) := hZ (by
      rw [HF.out];unfold formW
      simp [hx, qn])
     clear HF;clear hx qn;as_aux_lemma =>
     rw [R.out];clear R;go_enter Tryz.func189, Tryz.ntmps189
     go_wp2_with fail
     go_quiet (fail)
     go_wp2_with fail
     go_ret;exact ⟨rfl, below_drewN (below_new (Below.refl _ _) _) _⟩
   ·have l20i : ¬ (((n : Nat) : Int) <= 20) := by omega
    have R : Hid (formT t = false) := hZ (by
     rw [HF.out];unfold formW
     simp [hx, l20])
    clear HF;clear hx;as_aux_lemma =>
    rw [R.out];clear R;go_enter Tryz.func189, Tryz.ntmps189
    go_wp2_with fail
    go_quiet (fail)
    go_wp2_with fail
    go_ret;exact ⟨rfl, below_drewN (below_new (Below.refl _ _) _) _⟩
  ·have l1i : ¬ ((1 : Int) <= ((n : Nat) : Int)) := by omega
   have R : Hid (formT t = false) := hZ (by
    rw [HF.out];unfold formW
    simp [hx, l1])
   clear HF;clear hx;as_aux_lemma =>
   rw [R.out];clear R;go_enter Tryz.func189, Tryz.ntmps189
   go_wp2_with fail
   go_quiet (fail)
   go_wp2_with fail
   go_ret;exact ⟨rfl, below_drewN (below_new (Below.refl _ _) _) _⟩
 have c6 : ¬ t.kind = 6 := hx
 have d6 : (t.kind == 6) = false := by simpa using hx
 clear hx
 by_cases hx : t.kind = 7
 ·skip
  have b1 : (t.kind == 1) = false := by rw [hx]; rfl
  have b2 : (t.kind == 2) = false := by rw [hx]; rfl
  have b3 : (t.kind == 3) = false := by rw [hx]; rfl
  have b4 : (t.kind == 4) = false := by rw [hx]; rfl
  have b5 : (t.kind == 5) = false := by rw [hx]; rfl
  have b6 : (t.kind == 6) = false := by rw [hx]; rfl
  have b7 : (t.kind == 7) = true := by rw [hx]; rfl
  by_cases l1 : 1 <= n
  ·have l1i : (1 : Int) <= ((n : Nat) : Int) := by omega
   by_cases l20 : n <= 20
   ·have l20i : ((n : Nat) : Int) <= 20 := by omega
    by_cases q0 : q = 0
    ·have q0i : (((q : Nat) : Int) == 0) = true := by simp; omega
     rcases hid_or (noMore t) with um | um
     ·skip
      have R : Hid (formT t = false) := hZ (by
       rw [HF.out];unfold formW
       simp [hx, um.out])
      clear HF;clear hx q0;as_aux_lemma =>
      rw [R.out];clear R;go_enter Tryz.func189, Tryz.ntmps189
      go_wp2_with fail
      go_quiet (fail)
      go_wp2_with fail
      refine (unnamed_any t _ _ (HV.out.below (below_drewN (below_new (Below.refl _ _) _) _))).mono ?_; rintro e w0 ⟨rfl, hb0⟩; rw [um.out]
      go_wp2_with fail
      go_ret;exact ⟨rfl, (below_drewN (below_new (Below.refl _ _) _) _).trans (hb0.mono (by simp))⟩
     ·skip
      have R : Hid (formT t = true) := hZ (by
       rw [HF.out];unfold formW
       simp [hx, l1, l20, q0, um.out])
      clear HF;clear hx q0;as_aux_lemma =>
      rw [R.out];clear R;go_enter Tryz.func189, Tryz.ntmps189
      go_wp2_with fail
      go_quiet (fail)
      go_wp2_with fail
      refine (unnamed_any t _ _ (HV.out.below (below_drewN (below_new (Below.refl _ _) _) _))).mono ?_; rintro e w0 ⟨rfl, hb0⟩; rw [um.out]
      go_wp2_with fail
      go_ret;exact ⟨rfl, (below_drewN (below_new (Below.refl _ _) _) _).trans (hb0.mono (by simp))⟩
    ·have q0i : (((q : Nat) : Int) == 0) = false := by simp; omega
     have R : Hid (formT t = false) := hZ (by
      rw [HF.out];unfold formW
      simp [hx, q0])
     clear HF;clear hx q0;as_aux_lemma =>
     rw [R.out];clear R;go_enter Tryz.func189, Tryz.ntmps189
     go_wp2_with fail
     go_quiet (fail)
     go_wp2_with fail
     go_ret;exact ⟨rfl, below_drewN (below_new (Below.refl _ _) _) _⟩
   ·have l20i : ¬ (((n : Nat) : Int) <= 20) := by omega
    have R : Hid (formT t = false) := hZ (by
     rw [HF.out];unfold formW
     simp [hx, l20])
    clear HF;clear hx;as_aux_lemma =>
    rw [R.out];clear R;go_enter Tryz.func189, Tryz.ntmps189
    go_wp2_with fail
    go_quiet (fail)
    go_wp2_with fail
    go_ret;exact ⟨rfl, below_drewN (below_new (Below.refl _ _) _) _⟩
  ·have l1i : ¬ ((1 : Int) <= ((n : Nat) : Int)) := by omega
   have R : Hid (formT t = false) := hZ (by
    rw [HF.out];unfold formW
    simp [hx, l1])
   clear HF;clear hx;as_aux_lemma =>
   rw [R.out];clear R;go_enter Tryz.func189, Tryz.ntmps189
   go_wp2_with fail
   go_quiet (fail)
   go_wp2_with fail
   go_ret;exact ⟨rfl, below_drewN (below_new (Below.refl _ _) _) _⟩
 have c7 : ¬ t.kind = 7 := hx
 have d7 : (t.kind == 7) = false := by simpa using hx
 clear hx
 by_cases hx : t.kind = 8
 ·skip
  have b1 : (t.kind == 1) = false := by rw [hx]; rfl
  have b2 : (t.kind == 2) = false := by rw [hx]; rfl
  have b3 : (t.kind == 3) = false := by rw [hx]; rfl
  have b4 : (t.kind == 4) = false := by rw [hx]; rfl
  have b5 : (t.kind == 5) = false := by rw [hx]; rfl
  have b6 : (t.kind == 6) = false := by rw [hx]; rfl
  have b7 : (t.kind == 7) = false := by rw [hx]; rfl
  have b8 : (t.kind == 8) = true := by rw [hx]; rfl
  by_cases n0 : n = 0
  ·have n0i : (((n : Nat) : Int) == 0) = true := by simp; omega
   by_cases q0 : q = 0
   ·have q0i : (((q : Nat) : Int) == 0) = true := by simp; omega
    rcases hid_or (localOk t) with lo | lo
    ·skip
     have R : Hid (formT t = false) := hZ (by
      rw [HF.out];unfold formW
      simp [hx, lo.out])
     clear HF;clear hx n0 q0;as_aux_lemma =>
     rw [R.out];clear R;go_enter Tryz.func189, Tryz.ntmps189
     go_wp2_with fail
     go_quiet (fail)
     go_wp2_with fail
     refine (mayLocal_any t _ _ (HV.out.below (below_drewN (below_new (Below.refl _ _) _) _))).mono ?_; rintro e w0 ⟨rfl, hb0⟩; rw [lo.out]
     go_wp2_with fail
     go_ret;exact ⟨rfl, (below_drewN (below_new (Below.refl _ _) _) _).trans (hb0.mono (by simp))⟩
    ·skip
     have R : Hid (formT t = true) := hZ (by
      rw [HF.out];unfold formW
      simp [hx, n0, q0, lo.out])
     clear HF;clear hx n0 q0;as_aux_lemma =>
     rw [R.out];clear R;go_enter Tryz.func189, Tryz.ntmps189
     go_wp2_with fail
     go_quiet (fail)
     go_wp2_with fail
     refine (mayLocal_any t _ _ (HV.out.below (below_drewN (below_new (Below.refl _ _) _) _))).mono ?_; rintro e w0 ⟨rfl, hb0⟩; rw [lo.out]
     go_wp2_with fail
     go_ret;exact ⟨rfl, (below_drewN (below_new (Below.refl _ _) _) _).trans (hb0.mono (by simp))⟩
   ·have q0i : (((q : Nat) : Int) == 0) = false := by simp; omega
    have R : Hid (formT t = false) := hZ (by
     rw [HF.out];unfold formW
     simp [hx, q0])
    clear HF;clear hx n0 q0;as_aux_lemma =>
    rw [R.out];clear R;go_enter Tryz.func189, Tryz.ntmps189
    go_wp2_with fail
    go_quiet (fail)
    go_wp2_with fail
    go_ret;exact ⟨rfl, below_drewN (below_new (Below.refl _ _) _) _⟩
  ·have n0i : (((n : Nat) : Int) == 0) = false := by simp; omega
   have R : Hid (formT t = false) := hZ (by
    rw [HF.out];unfold formW
    simp [hx, n0])
   clear HF;clear hx n0;as_aux_lemma =>
   rw [R.out];clear R;go_enter Tryz.func189, Tryz.ntmps189
   go_wp2_with fail
   go_quiet (fail)
   go_wp2_with fail
   go_ret;exact ⟨rfl, below_drewN (below_new (Below.refl _ _) _) _⟩
 have c8 : ¬ t.kind = 8 := hx
 have d8 : (t.kind == 8) = false := by simpa using hx
 clear hx
 by_cases hx : t.kind = 9
 ·skip
  have b1 : (t.kind == 1) = false := by rw [hx]; rfl
  have b2 : (t.kind == 2) = false := by rw [hx]; rfl
  have b3 : (t.kind == 3) = false := by rw [hx]; rfl
  have b4 : (t.kind == 4) = false := by rw [hx]; rfl
  have b5 : (t.kind == 5) = false := by rw [hx]; rfl
  have b6 : (t.kind == 6) = false := by rw [hx]; rfl
  have b7 : (t.kind == 7) = false := by rw [hx]; rfl
  have b8 : (t.kind == 8) = false := by rw [hx]; rfl
  have b9 : (t.kind == 9) = true := by rw [hx]; rfl
  by_cases n0 : n = 0
  ·have n0i : (((n : Nat) : Int) == 0) = true := by simp; omega
   by_cases q0 : q = 0
   ·have q0i : (((q : Nat) : Int) == 0) = true := by simp; omega
    rcases hid_or (openOk t) with lo | lo
    ·skip
     have R : Hid (formT t = false) := hZ (by
      rw [HF.out];unfold formW
      simp [hx, lo.out])
     clear HF;clear hx n0 q0;as_aux_lemma =>
     rw [R.out];clear R;go_enter Tryz.func189, Tryz.ntmps189
     go_wp2_with fail
     go_quiet (fail)
     go_wp2_with fail
     refine (mayOpen_any t _ _ (HV.out.below (below_drewN (below_new (Below.refl _ _) _) _))).mono ?_; rintro e w0 ⟨rfl, hb0⟩; rw [lo.out]
     go_wp2_with fail
     go_ret;exact ⟨rfl, (below_drewN (below_new (Below.refl _ _) _) _).trans (hb0.mono (by simp))⟩
    ·skip
     have R : Hid (formT t = true) := hZ (by
      rw [HF.out];unfold formW
      simp [hx, n0, q0, lo.out])
     clear HF;clear hx n0 q0;as_aux_lemma =>
     rw [R.out];clear R;go_enter Tryz.func189, Tryz.ntmps189
     go_wp2_with fail
     go_quiet (fail)
     go_wp2_with fail
     refine (mayOpen_any t _ _ (HV.out.below (below_drewN (below_new (Below.refl _ _) _) _))).mono ?_; rintro e w0 ⟨rfl, hb0⟩; rw [lo.out]
     go_wp2_with fail
     go_ret;exact ⟨rfl, (below_drewN (below_new (Below.refl _ _) _) _).trans (hb0.mono (by simp))⟩
   ·have q0i : (((q : Nat) : Int) == 0) = false := by simp; omega
    have R : Hid (formT t = false) := hZ (by
     rw [HF.out];unfold formW
     simp [hx, q0])
    clear HF;clear hx n0 q0;as_aux_lemma =>
    rw [R.out];clear R;go_enter Tryz.func189, Tryz.ntmps189
    go_wp2_with fail
    go_quiet (fail)
    go_wp2_with fail
    go_ret;exact ⟨rfl, below_drewN (below_new (Below.refl _ _) _) _⟩
  ·have n0i : (((n : Nat) : Int) == 0) = false := by simp; omega
   have R : Hid (formT t = false) := hZ (by
    rw [HF.out];unfold formW
    simp [hx, n0])
   clear HF;clear hx n0;as_aux_lemma =>
   rw [R.out];clear R;go_enter Tryz.func189, Tryz.ntmps189
   go_wp2_with fail
   go_quiet (fail)
   go_wp2_with fail
   go_ret;exact ⟨rfl, below_drewN (below_new (Below.refl _ _) _) _⟩
 have c9 : ¬ t.kind = 9 := hx
 have d9 : (t.kind == 9) = false := by simpa using hx
 clear hx
 have R : Hid (formT t = false) := hZ (by
  rw [HF.out];unfold formW
  simp [c1, c2, c3, c4, c5, c6, c7, c8, c9])
 clear HF
 as_aux_lemma =>
 rw [R.out]
 clear R
 go_enter Tryz.func189, Tryz.ntmps189
 go_wp2_with fail
 go_quiet (fail)
 go_wp2_with fail
 go_ret
 exact ⟨rfl, below_drewN (below_new (Below.refl _ _) _) _⟩
def Cnt (B : Nat) (c : Int) (w : World) : Prop := w.heap[B]? = some (.cells #[.int .i64 c] 3 (0, 0))
theorem Cnt.lt {B : Nat} {c : Int} {w : World} (h : Cnt B c w) : B < w.heap.size := (Array.getElem?_eq_some_iff.1 h).1
theorem Cnt.cell {B : Nat} {c : Int} {w : World} (h : Cnt B c w) : w.cell? ⟨B, 0, none⟩ = some (.int .i64 c) := cZ h 0
theorem Cnt.frozen {B : Nat} {c : Int} {w : World} (h : Cnt B c w) : w.frozen? ⟨B, 0, none⟩ = false := Lib.frozen_of_heap h 0
theorem Cnt.alloc {B : Nat} {c : Int} {w : World} (h : Cnt B c w) (o : Obj) : Cnt B c (w.alloc o) := (Lib.alloc_old w o B h.lt).trans h
theorem Cnt.put {B : Nat} {c : Int} {w : World} (h : Cnt B c w) (d : Int) : Cnt B d (w.setCell ⟨B, 0, none⟩ (.int .i64 d)) := one_setCell h
theorem Cnt.below {B : Nat} {c : Int} {w w' : World} (h : Cnt B c w) (hb : Below w.heap.size w w') : Cnt B c w' := (hb.block B h.lt).trans h
theorem count_any (N : Nat) : ∀ (t : Ty), many t <= N -> ∀ (d c : Int), 0 <= d -> d <= 33 -> 0 <= c -> c <= 500 -> ∀ (B : Nat) (v : Value) (W w : World), TyV W v t -> Below W.heap.size W w -> W.heap.size <= B -> Cnt B c w ->
  Calls Tryz.prog 141 #[v, .int .i64 d, .pointer (some ⟨B, 0, none⟩)] w fun e w' => e = .returned (.bool (countT t d c).1) /\ Cnt B (countT t d c).2 w' /\ Below B w w' := by
 induction N with
 | zero => intro t h; have := many_pos t; omega
 | succ N ih =>
  intro t hN d c hd0 hd hc0 hc B v W w hv hW hWB hC;have HV := hZ hv;obtain ⟨l, rfl, hT⟩ := hv;obtain ⟨An, cn, As, cs, rfl, -, -, -, hzn, hz, -, hS⟩ := hT.parts;have HS := hZ hS;clear hT hS;have HE := hZ (countT_eq t d c);generalize hn : t.subs.length = n at hz HV
  have HN := hZ hn;clear hn;have hBl := hC.lt;obtain ⟨w2, hw2⟩ : ∃ w2, w2 = (w.setCell ⟨B, 0, none⟩ (.int .i64 (c + 1))).alloc (.cells #[.int .i64 t.kind, .string t.pkg, .int .i64 t.major, .string t.mod, .string t.name, .slice An t.names.length cn, .slice As n cs] 55) := ⟨_, rfl⟩;have hss : (w.setCell ⟨B, 0, none⟩ (.int .i64 (c + 1))).heap.size = w.heap.size := by simp
  have HC2 : Hid (Cnt B (c + 1) w2) := hZ (by rw [hw2]; exact (hC.put (c + 1)).alloc _);have HBW : Hid (Below B w w2) := hZ (by rw [hw2]; exact ((Below.refl B w).setCell (p := ⟨B, 0, none⟩) (Nat.le_refl _) _).alloc (by omega) _);have HWW0 := hZ hW;have HWW : Hid (Below W.heap.size W w2) := hZ (hW.trans (HBW.out.mono hWB));have hsz : w.heap.size < w2.heap.size := by rw [hw2]; simp
  have HX : Hid (∀ i v, (#[.int .i64 t.kind, .string t.pkg, .int .i64 t.major, .string t.mod, .string t.name, .slice An t.names.length cn, .slice As n cs] : Array Value)[i]? = some v -> w2.cell? ⟨w.heap.size, i, none⟩ = some v) := hZ (fun i v hv => by
   rw [cZ (cs := #[.int .i64 t.kind, .string t.pkg, .int .i64 t.major, .string t.mod, .string t.name, .slice An t.names.length cn, .slice As n cs]) (T := 55) (fr := (0, 0))]
   ·exact hv
   ·rw [hw2, <- hss]
    exact heap_alloc_new _ _)
  have c0 := hC.cell;have f0 := hC.frozen;have HW2 := hZ hw2;clear hW hC hw2 hss;go_enter Tryz.func141, Tryz.ntmps141
  go_upto_region 2 with fail
  rw [<- HW2.out];clear c0 f0 HW2;have c2 := HC2.out.cell;have x0 := HX.out 0 _ rfl;have x1 := HX.out 1 _ rfl;have x2 := HX.out 2 _ rfl;have x3 := HX.out 3 _ rfl;have x4 := HX.out 4 _ rfl;have x5 := HX.out 5 _ rfl;have x6 := HX.out 6 _ rfl;by_cases g1 : 500 < c + 1
  ·have R : Hid (countT t d c = (false, c + 1)) := hZ (by rw [HE.out, if_pos (.inl g1)])
   go_wp2_with fail
   go_ret;exact ⟨ret_bool (by rw [R.out]), by rw [R.out]; exact HC2.out, HBW.out⟩
  by_cases g2 : 32 < d
  ·have R : Hid (countT t d c = (false, c + 1)) := hZ (by rw [HE.out, if_pos (.inr (.inl g2))])
   go_wp2_with fail
   go_ret;exact ⟨ret_bool (by rw [R.out]), by rw [R.out]; exact HC2.out, HBW.out⟩
  rcases hid_or (formT t) with hf | hf
  ·have R : Hid (countT t d c = (false, c + 1)) := hZ (by rw [HE.out, if_pos (.inr (.inr hf.out))])
   go_wp2_with fail
   refine (formed_any t _ _ (HV.out.below HWW.out)).mono ?_; rintro e w3 ⟨rfl, hb3⟩; rw [hf.out]
   go_wp2_with fail
   go_ret;exact ⟨ret_bool (by rw [R.out]), by rw [R.out]; exact HC2.out.below hb3, HBW.out.trans (hb3.mono (by omega))⟩
  have R : Hid (countT t d c = countL t.subs (d + 1) (c + 1)) := hZ (by
   rw [HE.out, if_neg];rintro (x | x | x)
   ·exact g1 x
   ·exact g2 x
   ·rw [hf.out] at x; cases x)
  go_wp2_with fail
  refine (formed_any t _ _ (HV.out.below HWW.out)).mono ?_; rintro e w3 ⟨rfl, hb3⟩; rw [hf.out]
  have y6 : w3.cell? ⟨w.heap.size, 6, none⟩ = some (.slice As n cs) := (hb3.cell (p := ⟨w.heap.size, 6, none⟩) hsz).trans x6;have HC3 := hZ (HC2.out.below hb3);have HB3 := hZ (HBW.out.trans (hb3.mono (by omega)));have hd1 : d <= 32 := by omega
  have hc1 : c + 1 <= 500 := by omega
  clear x0 x1 x2 x3 x4 x5 x6 c2 hb3 HX HC2 HBW g1 g2 HE hsz;go_wp2_with fail
  go_loopw [30] (fun i wr => ∃ (k : Nat) (ck : Int), k <= n /\ i = .int .i64 k /\ 0 <= ck /\ ck <= 500 /\ Hid (countT t d c = countL (t.subs.drop k) (d + 1) ck) /\ Hid (Cnt B ck wr) /\ Hid (Below B w wr)) (fun i _ => n - (intOf i).toNat)
  case atStart => exact ⟨0, c + 1, by omega, rfl, by omega, by omega, R, HC3, HB3⟩
  case round =>
   obtain ⟨k, ck, hk, rfl, hk0, hk5, HK, HCK, HBK⟩ := hrel;obtain ⟨wo, rfl⟩ : ∃ wo : World, wo = wr := ⟨_, rfl⟩;have HWK : Hid (Below W.heap.size W wo) := hZ (HWW0.out.trans (HBK.out.mono hWB));by_cases hlt : k < n
   ·obtain ⟨s, hs⟩ : ∃ s, t.subs[k]? = some s := ⟨_, List.getElem?_eq_getElem (by rw [HN.out]; exact hlt)⟩
    obtain ⟨g, o, v0, v1, v2, v3, v4, v5, v6, rfl, hg, e0, e1, e2, e3, e4, e5, e6, hs7⟩ := HS.out k s hs;obtain ⟨Am, cm, At, ct, rfl, rfl, rfl, rfl, rfl, rfl, rfl⟩ := hs7.seven;have tr : ∀ q v, W.cell? ⟨g, q, none⟩ = some v -> wo.cell? ⟨g, q, none⟩ = some v := fun q v hv => (HWK.out.cell (p := ⟨g, _, none⟩) hg).trans hv
    have h0 := tr _ _ e0;have h1 := tr _ _ e1;have h2 := tr _ _ e2;have h3 := tr _ _ e3;have h4 := tr _ _ e4;have h5 := tr _ _ e5;have h6 := tr _ _ e6;have hgo : g < wo.heap.size := Nat.lt_of_lt_of_le hg HWK.out.size;clear e0 e1 e2 e3 e4 e5 e6 tr hg;have hsm := sub_many hs;have HKS := hZ (countL_at hs (d + 1) ck);have HBs := hZ (countT_is s (d + 1) ck hk5);have IH := hZ (fun w' (hw' : Below W.heap.size W w') (hc' : Cnt B ck w') => ih s (by omega) (d + 1) ck (by omega) (by omega) hk0 hk5 B (.agg #[.int .i64 s.kind, .string s.pkg, .int .i64 s.major, .string s.mod, .string s.name, .slice Am s.names.length cm, .slice At s.subs.length ct]) W w' ⟨_, rfl, hs7⟩ hw' hWB hc');clear hs7 hs hsm;have bds := HBs.out;by_cases hg1 : (countT s (d + 1) ck).1 = true
    ·have R2 : Hid (countT t d c = countL (t.subs.drop (k + 1)) (d + 1) (countT s (d + 1) ck).2) := hZ (by rw [HK.out, HKS.out, if_pos hg1])
     have q2 : (countT s (d + 1) ck).2 <= 500 := by rw [bds.2.1 hg1]; exact (bds.1.1 hg1).2.1
     have q1 : 0 <= (countT s (d + 1) ck).2 := by have := bds.2.2.1; omega
     have HG := hZ hg1;clear bds hg1;go_wp2_with fail
     refine (IH.out _ (HWK.out.alloc HWK.out.size _) (HCK.out.alloc _)).mono ?_; rintro e w5 ⟨rfl, hc5, hb5⟩; rw [HG.out]
     have HB5 : Hid (Below B w w5) := hZ ((HBK.out.alloc (by have := HBK.out.size; omega) _).trans hb5);have HC5 := hZ hc5;clear h0 h1 h2 h3 h4 h5 h6 hc5 hb5 HBs IH;go_wp2_with fail
     go_roundw
     case rel => exact ⟨k + 1, (countT s (d + 1) ck).2, by omega, by go_num, q1, q2, R2, HC5, HB5⟩
     case measure => simp [intOf]; omega
    ·have R2 : Hid (countT t d c = (false, (countT s (d + 1) ck).2)) := hZ (by rw [HK.out, HKS.out, if_neg hg1])
     have HG : Hid ((countT s (d + 1) ck).1 = false) := hZ (by simpa using hg1);clear bds hg1;go_wp2_with fail
     refine (IH.out _ (HWK.out.alloc HWK.out.size _) (HCK.out.alloc _)).mono ?_; rintro e w5 ⟨rfl, hc5, hb5⟩; rw [HG.out]
     have HB5 : Hid (Below B w w5) := hZ ((HBK.out.alloc (by have := HBK.out.size; omega) _).trans hb5);have HC5 := hZ hc5;clear h0 h1 h2 h3 h4 h5 h6 hc5 hb5 HBs IH;go_wp2_with fail
     go_ret;exact ⟨ret_bool (by rw [R2.out]), by rw [R2.out]; exact HC5.out, HB5.out⟩
   ·have R2 : Hid (countT t d c = (true, ck)) := hZ (by
     rw [HK.out, List.drop_eq_nil_of_le (by rw [HN.out]; omega)]; rfl)
    go_wp2_with fail
    go_ret;exact ⟨ret_bool (by rw [R2.out]), by rw [R2.out]; exact HCK.out, HBK.out⟩
theorem size_any (t : Ty) (v : Value) (w : World) (hv : TyV w v t) :
  Calls Tryz.prog 101 #[v] w fun e w' => e = .returned (.int .i64 (sizeT t : Nat)) /\ Below w.heap.size w w' := by
 have HV := hZ hv
 obtain ⟨l, rfl, hT⟩ := hv
 obtain ⟨An, cn, As, cs, rfl, -, -, -, hzn, hz, -, hS⟩ := hT.parts
 clear hT hS
 have HM := hZ (may_iff t)
 have HI := hZ (countT_is t 1 0 (by omega))
 obtain ⟨wb, hwb⟩ : ∃ wb, wb = w.alloc (.cells #[.int .i64 t.kind, .string t.pkg, .int .i64 t.major, .string t.mod, .string t.name, .slice An t.names.length cn, .slice As t.subs.length cs] 55) := ⟨_, rfl⟩
 have hbs : wb.heap.size = w.heap.size + 1 := by rw [hwb]; simp
 have HBB : Hid (Below w.heap.size w wb) := hZ (by rw [hwb]; exact below_new (Below.refl _ _) _)
 have HC : Hid (Cnt (w.heap.size + 1) 0 (wb.alloc (.cells #[.int .i64 0] 3))) := hZ (by rw [<- hbs]; exact heap_alloc_new wb _)
 have hle : wb.heap.size <= w.heap.size + 1 := by omega
 have HWB := hZ hwb
 rcases hid_or (countT t 1 0).1 with hg | hg
 ·have R : Hid (sizeT t = 0) := hZ (by unfold sizeT; rw [if_neg]; rw [HM.out, hg.out]; simp)
  rw [R.out];go_enter Tryz.func101, Tryz.ntmps101
  go_wp2_with fail
  rw [<- HWB.out];refine (count_any _ t (Nat.le_refl _) 1 0 (by omega) (by omega) (by omega) (by omega) (w.heap.size + 1) _ wb _ (HV.out.below HBB.out) (below_new (Below.refl _ _) _) hle HC.out).mono ?_; rintro e w5 ⟨rfl, hc5, hb5⟩; rw [hg.out]
  have HB5 : Hid (Below w.heap.size w w5) := hZ ((below_new HBB.out _).trans (hb5.mono (by omega)));clear hb5 hc5;go_wp2_with fail
  go_ret;exact ⟨rfl, HB5.out⟩
 ·have R : Hid ((sizeT t : Int) = (countT t 1 0).2) := hZ (by
   unfold sizeT; rw [if_pos (HM.out.2 hg.out), HI.out.2.1 hg.out]; omega)
  rw [R.out];go_enter Tryz.func101, Tryz.ntmps101
  go_wp2_with fail
  rw [<- HWB.out];refine (count_any _ t (Nat.le_refl _) 1 0 (by omega) (by omega) (by omega) (by omega) (w.heap.size + 1) _ wb _ (HV.out.below HBB.out) (below_new (Below.refl _ _) _) hle HC.out).mono ?_; rintro e w5 ⟨rfl, hc5, hb5⟩; rw [hg.out]
  have HB5 : Hid (Below w.heap.size w w5) := hZ ((below_new HBB.out _).trans (hb5.mono (by omega)));have c5 := hc5.cell;clear hb5 hc5;go_wp2_with fail
  go_ret;exact ⟨rfl, HB5.out⟩
theorem mayK_any (t : Ty) (v : Value) (w : World) (hv : TyV w v t) :
  Calls Tryz.prog 63 #[v] w fun e w' => e = .returned (.bool (mayT t)) /\ Below w.heap.size w w' := by
 have HV := hZ hv
 obtain ⟨l, rfl, hT⟩ := hv
 obtain ⟨An, cn, As, cs, rfl, -, -, -, hzn, hz, -, hS⟩ := hT.parts
 clear hT hS
 have HP := hZ (size_pos t)
 go_enter Tryz.func63, Tryz.ntmps63
 go_wp2_with fail
 refine (size_any t _ _ (HV.out.below (below_new (Below.refl _ _) _))).mono ?_; rintro e w2 ⟨rfl, hb2⟩
 go_wp2_with fail
 go_ret
 exact ⟨ret_bool HP.out.symm, (below_new (Below.refl _ _) _).trans (hb2.mono (by simp))⟩
end Go.Proofs.YteecgiebimdbhaaGreatDoor
namespace Go.Proofs.YteecgiebimdbhaaGreatDoor
open Go.RowKit
open Go.Sort
open M
theorem zero_iff (t : Ty) : sameT t noT = true ↔ t.kind = 0 /\ t.pkg = ⟨#[]⟩ /\ t.major = 0 /\ t.mod = ⟨#[]⟩ /\ t.name = ⟨#[]⟩ /\ t.names.length = 0 /\ t.subs.length = 0 := by
  rw [sameT_iff];obtain ⟨k, p, m, d, n, ns, ss⟩ := t;simp only [noT, Ty.mk.injEq, Ty.kind, Ty.pkg, Ty.major, Ty.mod, Ty.name, Ty.names, Ty.subs, List.length_eq_zero_iff]
theorem ba_ne {s : ByteArray} (h : s ≠ ⟨#[]⟩) : (s.toList == ([] : List UInt8)) = false := by
  rw [beq_eq_false_iff_ne, ne_eq, Lib.toList_data];intro e
  exact h (by
    obtain ⟨a⟩ := s;have : a = #[] := by cases a; simp at e; rw [e]
    rw [this])
theorem cuntyped_any (k : Int) (s : ByteArray) (t : Ty) (An As : Option Addr) (cA cS : Nat) (w : World) (h5 : t.names.length <= 9223372036854775807) (h6 : t.subs.length <= 9223372036854775807) :
    Calls Tryz.prog 286 #[.agg #[.int .i64 k, .string s, .int .i64 t.kind, .string t.pkg, .int .i64 t.major, .string t.mod, .string t.name, .slice An t.names.length cA, .slice As t.subs.length cS]] w fun e w' => e = .returned (.bool (sameT t noT)) /\ Below w.heap.size w w' := by
  obtain ⟨w0, hw0⟩ : ∃ w0, w0 = w.alloc (.cells #[.int .i64 k, .string s, .int .i64 t.kind, .string t.pkg, .int .i64 t.major, .string t.mod, .string t.name, .slice An t.names.length cA, .slice As t.subs.length cS] 194) := ⟨_, rfl⟩;have B0 : Below w.heap.size w w0 := by rw [hw0]; exact below_new (Below.refl _ _) _
  have O0 : w0.heap[w.heap.size]? = some (.cells #[.int .i64 k, .string s, .int .i64 t.kind, .string t.pkg, .int .i64 t.major, .string t.mod, .string t.name, .slice An t.names.length cA, .slice As t.subs.length cS] 194 (0, 0)) := by rw [hw0]; exact heap_alloc_new w _
  obtain ⟨w1, hw1⟩ : ∃ w1, w1 = w0.alloc (.cells #[.int .i64 t.kind, .string t.pkg, .int .i64 t.major, .string t.mod, .string t.name, .slice An t.names.length cA, .slice As t.subs.length cS] 55) := ⟨_, rfl⟩;have B1 : Below w0.heap.size w0 w1 := by rw [hw1]; exact below_new (Below.refl _ _) _
  have O1 : w1.heap[w0.heap.size]? = some (.cells #[.int .i64 t.kind, .string t.pkg, .int .i64 t.major, .string t.mod, .string t.name, .slice An t.names.length cA, .slice As t.subs.length cS] 55 (0, 0)) := by rw [hw1]; exact heap_alloc_new w0 _
  have s0 : w0.heap.size = w.heap.size + 1 := by rw [hw0]; simp
  have FIN := hZ (below_over B0 B1);obtain ⟨V, hV⟩ : ∃ V, sameT t noT = V := ⟨_, rfl⟩;rw [hV];have HV := hZ hV;obtain ⟨y0, y1, y2, y3, y4, y5, y6, y7, y8⟩ := cq9 O0;simp at y0 y1 y2 y3 y4 y5 y6 y7 y8;obtain ⟨x0, x1, x2, x3, x4, x5, x6⟩ := cq7 O1;simp at x0 x1 x2 x3 x4 x5 x6;have HW0 := hZ hw0;have HW1 := hZ hw1;have HZ := hZ (zero_iff t)
  have NO : Hid ((¬ (t.kind = 0 /\ t.pkg = ⟨#[]⟩ /\ t.major = 0 /\ t.mod = ⟨#[]⟩ /\ t.name = ⟨#[]⟩ /\ t.names.length = 0 /\ t.subs.length = 0)) -> V = false) := hZ (fun h => by
    rw [<- HV.out, Bool.eq_false_iff];exact fun e => h ((zero_iff t).1 e))
  have YES : Hid ((t.kind = 0 /\ t.pkg = ⟨#[]⟩ /\ t.major = 0 /\ t.mod = ⟨#[]⟩ /\ t.name = ⟨#[]⟩ /\ t.names.length = 0 /\ t.subs.length = 0) -> V = true) := hZ (fun h => by
    rw [<- HV.out];exact (zero_iff t).2 h)
  clear hV hw0 hw1 B0 B1 O0 O1 s0 HZ HV;generalize t.kind = tk at *
  generalize t.pkg = tp at *
  generalize t.major = tm at *
  generalize t.mod = td at *
  generalize t.name = tn at *
  generalize t.names.length = n5 at *
  generalize t.subs.length = n6 at *
  go_enter Tryz.func286, Tryz.ntmps286
  go_upto_region 1 with fail
  rw [<- HW0.out];go_upto_region 2 with fail
  rw [<- HW1.out];clear HW0 HW1 y0 y1 y2 y3 y4 y5 y6 y7 y8;by_cases htk : tk = 0
  rotate_left
  · have RV : V = false := NO.out (fun e => htk e.1)
    subst RV;have e1 : (tk == 0) = false := by simpa using htk
    clear htk NO YES;go_wp2_with fail
    go_ret;exact ⟨rfl, FIN.out⟩
  subst htk;by_cases htp : tp = ⟨#[]⟩
  rotate_left
  · have RV : V = false := NO.out (fun e => htp e.2.1)
    subst RV;have e1 := ba_ne htp;clear htp NO YES;go_wp2_with fail
    go_ret;exact ⟨rfl, FIN.out⟩
  subst htp;by_cases htm : tm = 0
  rotate_left
  · have RV : V = false := NO.out (fun e => htm e.2.2.1)
    subst RV;have e1 : (tm == 0) = false := by simpa using htm
    clear htm NO YES;go_wp2_with fail
    go_ret;exact ⟨rfl, FIN.out⟩
  subst htm;by_cases htd : td = ⟨#[]⟩
  rotate_left
  · have RV : V = false := NO.out (fun e => htd e.2.2.2.1)
    subst RV;have e1 := ba_ne htd;clear htd NO YES;go_wp2_with fail
    go_ret;exact ⟨rfl, FIN.out⟩
  subst htd;by_cases htn : tn = ⟨#[]⟩
  rotate_left
  · have RV : V = false := NO.out (fun e => htn e.2.2.2.2.1)
    subst RV;have e1 := ba_ne htn;clear htn NO YES;go_wp2_with fail
    go_ret;exact ⟨rfl, FIN.out⟩
  subst htn;by_cases hn5 : n5 = 0
  rotate_left
  · have RV : V = false := NO.out (fun e => hn5 e.2.2.2.2.2.1)
    subst RV;have e1 : ((n5 : Int) == 0) = false := by simp; omega
    clear hn5 NO YES;go_wp2_with fail
    go_ret;exact ⟨rfl, FIN.out⟩
  subst hn5;by_cases hn6 : n6 = 0
  rotate_left
  · have RV : V = false := NO.out (fun e => hn6 e.2.2.2.2.2.2)
    subst RV;have e1 : ((n6 : Int) == 0) = false := by simp; omega
    clear hn6 NO YES;go_wp2_with fail
    go_ret;exact ⟨rfl, FIN.out⟩
  subst hn6;have RV : V = true := YES.out ⟨rfl, rfl, rfl, rfl, rfl, rfl, rfl⟩;subst RV;clear NO YES;go_wp2_with fail
  go_ret;exact ⟨rfl, FIN.out⟩
theorem cmayNotD_any (k : Int) (s : ByteArray) (t : Ty) (An As : Option Addr) (cA cS : Nat) (w : World) (hT : TyAt w [.int .i64 t.kind, .string t.pkg, .int .i64 t.major, .string t.mod, .string t.name, .slice An t.names.length cA, .slice As t.subs.length cS] t) (z : s.size <= 9223372036854775807) :
    Calls Tryz.prog 268 #[.agg #[.int .i64 k, .string s, .int .i64 t.kind, .string t.pkg, .int .i64 t.major, .string t.mod, .string t.name, .slice An t.names.length cA, .slice As t.subs.length cS]] w fun e w' => e = .returned (.bool (!mayD ⟨k, s, t⟩)) /\ Below w.heap.size w w' := by
  obtain ⟨_, _, _, _, -, -, -, -, h5, h6, -, -⟩ := hT.parts;obtain ⟨w0, hw0⟩ : ∃ w0, w0 = w.alloc (.cells #[.int .i64 k, .string s, .int .i64 t.kind, .string t.pkg, .int .i64 t.major, .string t.mod, .string t.name, .slice An t.names.length cA, .slice As t.subs.length cS] 194) := ⟨_, rfl⟩;have B0 : Below w.heap.size w w0 := by rw [hw0]; exact below_new (Below.refl _ _) _
  have O0 : w0.heap[w.heap.size]? = some (.cells #[.int .i64 k, .string s, .int .i64 t.kind, .string t.pkg, .int .i64 t.major, .string t.mod, .string t.name, .slice An t.names.length cA, .slice As t.subs.length cS] 194 (0, 0)) := by rw [hw0]; exact heap_alloc_new w _
  have hl0 : w.heap.size < w0.heap.size := by rw [hw0]; simp
  have HV : Hid (mayD ⟨k, s, t⟩ = if k = 1 \/ k = 2 then greatB s.data.toList && sameT t noT else if k = 3 then greatB s.data.toList && mayT t else if k = 4 then smallB s.data.toList && mayT t else false) := hZ rfl;have S0 := hZ (fun w => csmall_b s w z);have S1 := hZ (fun w => cgreat_b s w z);have HT : Hid (∀ w', Below w.heap.size w w' -> TyV w' (.agg #[.int .i64 t.kind, .string t.pkg, .int .i64 t.major, .string t.mod, .string t.name, .slice An t.names.length cA, .slice As t.subs.length cS]) t) := hZ (fun w' hb => ⟨_, rfl, hT.keep hb⟩);have SM : Hid (∀ w', Calls Tryz.prog 286 #[.agg #[.int .i64 k, .string s, .int .i64 t.kind, .string t.pkg, .int .i64 t.major, .string t.mod, .string t.name, .slice An t.names.length cA, .slice As t.subs.length cS]] w' fun e w'' => e = .returned (.bool (sameT t noT)) /\ Below w'.heap.size w' w'') := hZ (fun w' => cuntyped_any k s t An As cA cS w' h5 h6);have MY : Hid (∀ w', Below w.heap.size w w' -> Calls Tryz.prog 63 #[.agg #[.int .i64 t.kind, .string t.pkg, .int .i64 t.major, .string t.mod, .string t.name, .slice An t.names.length cA, .slice As t.subs.length cS]] w' fun e w'' => e = .returned (.bool (mayT t)) /\ Below w'.heap.size w' w'') := hZ (fun w' hb => mayK_any t _ w' (HT.out w' hb));rw [HV.out];generalize smallB s.data.toList = b0 at S0
  generalize greatB s.data.toList = b1 at S1
  generalize sameT t noT = b2 at SM
  generalize mayT t = b3 at MY
  obtain ⟨V, hV⟩ : ∃ V, (!(if k = 1 \/ k = 2 then b1 && b2 else if k = 3 then b1 && b3 else if k = 4 then b0 && b3 else false)) = V := ⟨_, rfl⟩;rw [hV];have HVV := hZ hV;clear hV;obtain ⟨y0, y1, y2, y3, y4, y5, y6, y7, y8⟩ := cq9 O0;simp at y0 y1 y2 y3 y4 y5 y6 y7 y8;have HO := hZ O0;have HB := hZ B0;have HW0 := hZ hw0;clear hw0 B0 O0 HV z hT HT h5 h6;go_enter Tryz.func268, Tryz.ntmps268
  go_upto_region 1 with fail
  rw [<- HW0.out];clear HW0;by_cases h1 : k = 1
  · subst h1
    go_wp2_with fail
    refine (S1.out _).mono ?_; rintro e w1 ⟨rfl, hb1⟩
    have O1 := (hb1.block _ hl0).trans HO.out;have HB1 := hZ (below_over HB.out hb1);clear y0 y1 y2 y3 y4 y5 y6 y7 y8;obtain ⟨y0, y1, y2, y3, y4, y5, y6, y7, y8⟩ := cq9 O1;simp at y0 y1 y2 y3 y4 y5 y6 y7 y8;clear O1 hb1 HO HB S0 S1;cases b1 with
    | false => go_wp2_with fail; go_ret; exact ⟨by rw [<- HVV.out]; simp, HB1.out⟩
    | true =>
      go_wp2_with fail
      refine (SM.out _).mono ?_; rintro e w4 ⟨rfl, hb4⟩
      have FIN := hZ (below_over HB1.out hb4);clear y0 y1 y2 y3 y4 y5 y6 y7 y8;cases b2
      all_goals (go_wp2_with fail; go_ret; exact ⟨by rw [<- HVV.out]; simp, FIN.out⟩)
  by_cases h2 : k = 2
  · subst h2
    go_wp2_with fail
    refine (S1.out _).mono ?_; rintro e w1 ⟨rfl, hb1⟩
    have O1 := (hb1.block _ hl0).trans HO.out;have HB1 := hZ (below_over HB.out hb1);clear y0 y1 y2 y3 y4 y5 y6 y7 y8;obtain ⟨y0, y1, y2, y3, y4, y5, y6, y7, y8⟩ := cq9 O1;simp at y0 y1 y2 y3 y4 y5 y6 y7 y8;clear O1 hb1 HO HB S0 S1;cases b1 with
    | false => go_wp2_with fail; go_ret; exact ⟨by rw [<- HVV.out]; simp, HB1.out⟩
    | true =>
      go_wp2_with fail
      refine (SM.out _).mono ?_; rintro e w4 ⟨rfl, hb4⟩
      have FIN := hZ (below_over HB1.out hb4);clear y0 y1 y2 y3 y4 y5 y6 y7 y8;cases b2
      all_goals (go_wp2_with fail; go_ret; exact ⟨by rw [<- HVV.out]; simp, FIN.out⟩)
  have e1 : (k == 1) = false := by simpa using h1
  have e2 : (k == 2) = false := by simpa using h2
  by_cases h3 : k = 3
  · subst h3
    clear h1 h2 e1 e2;go_wp2_with fail
    refine (S1.out _).mono ?_; rintro e w1 ⟨rfl, hb1⟩
    have O1 := (hb1.block _ hl0).trans HO.out;have HB1 := hZ (below_over HB.out hb1);clear y0 y1 y2 y3 y4 y5 y6 y7 y8;obtain ⟨y0, y1, y2, y3, y4, y5, y6, y7, y8⟩ := cq9 O1;simp at y0 y1 y2 y3 y4 y5 y6 y7 y8;clear O1 hb1 HO HB S0 S1;cases b1 with
    | false => go_wp2_with fail; go_ret; exact ⟨by rw [<- HVV.out]; simp, HB1.out⟩
    | true =>
      go_wp2_with fail
      refine (MY.out _ HB1.out).mono ?_; rintro e w4 ⟨rfl, hb4⟩
      have FIN := hZ (below_over HB1.out hb4);clear y0 y1 y2 y3 y4 y5 y6 y7 y8;cases b3
      all_goals (go_wp2_with fail; go_ret; exact ⟨by rw [<- HVV.out]; simp, FIN.out⟩)
  have e3 : (k == 3) = false := by simpa using h3
  by_cases h4 : k = 4
  · subst h4
    clear h1 h2 h3 e1 e2 e3;go_wp2_with fail
    refine (S0.out _).mono ?_; rintro e w1 ⟨rfl, hb1⟩
    have O1 := (hb1.block _ hl0).trans HO.out;have HB1 := hZ (below_over HB.out hb1);clear y0 y1 y2 y3 y4 y5 y6 y7 y8;obtain ⟨y0, y1, y2, y3, y4, y5, y6, y7, y8⟩ := cq9 O1;simp at y0 y1 y2 y3 y4 y5 y6 y7 y8;clear O1 hb1 HO HB S0 S1;cases b0 with
    | false => go_wp2_with fail; go_ret; exact ⟨by rw [<- HVV.out]; simp, HB1.out⟩
    | true =>
      go_wp2_with fail
      refine (MY.out _ HB1.out).mono ?_; rintro e w4 ⟨rfl, hb4⟩
      have FIN := hZ (below_over HB1.out hb4);clear y0 y1 y2 y3 y4 y5 y6 y7 y8;cases b3
      all_goals (go_wp2_with fail; go_ret; exact ⟨by rw [<- HVV.out]; simp, FIN.out⟩)
  have e4 : (k == 4) = false := by simpa using h4
  have RV : V = true := by rw [<- HVV.out, if_neg (by simp [h1, h2]), if_neg h3, if_neg h4]; rfl
  subst RV;clear h1 h2 h3 h4;go_wp2_with fail
  go_ret;exact ⟨rfl, HB.out⟩
end Go.Proofs.YteecgiebimdbhaaGreatDoor
