/-
  Several texts in one.
-/
import Derived.Test.YtcdmgcgjonndpaaGreatDoorK07
import Derived.Lib.AppendStr
import Derived.Lib.UnsafeStr
import Derived.Lib.OthersKept
import Derived.Laws.Externs
import Derived.Maps.OwnSet
import Derived.Maps.AppendAt
set_option maxRecDepth 100000
set_option maxHeartbeats 16000000
namespace Go.Proofs.YtcdmgcgjonndpaaGreatDoor
open Go.RowKit
open M
theorem formed_any (t : Ty) (v : Value) (w : World) (hv : TyV w v t) :
  Calls Tryz.prog 125 #[v] w fun e w' => e = .returned (.bool (formT t)) /\ Below w.heap.size w w' := by
 have HV := hZ hv
 obtain ⟨l, rfl, hT⟩ := hv
 obtain ⟨An, cn, As, cs, rfl, zp, zm, za, hzn, hz, hN, -⟩ := hT.parts
 have HNM := hZ hN
 clear hT hN
 have HF := hZ (formT_w t)
 generalize hn : t.subs.length = n at hz HF HV
 generalize hq : t.names.length = q at hzn HF HV
 have HQ := hZ hq
 clear hn hq
 by_cases hx : t.kind = 1
 ·skip
  have b1 : (t.kind == 1) = true := by rw [hx]; rfl
  by_cases n0 : n = 0
  ·have n0i : (((n : Nat) : Int) == 0) = true := by simp; omega
   by_cases q0 : q = 0
   ·have q0i : (((q : Nat) : Int) == 0) = true := by simp; omega
    rcases hid_or (noMore t) with um | um
    ·skip
     have R : Hid (formT t = false) := hZ (by
      rw [HF.out];unfold formW
      simp [hx, um.out])
     clear HF;clear hx n0 q0;as_aux_lemma =>
     rw [R.out];clear R;go_enter Tryz.func125, Tryz.ntmps125
     go_wp2_with fail
     go_quiet (fail)
     go_wp2_with fail
     refine (unnamed_any t _ _ (HV.out.below (below_drewN (below_new (Below.refl _ _) _) _))).mono ?_; rintro e w0 ⟨rfl, hb0⟩; rw [um.out]
     go_wp2_with fail
     go_ret;exact ⟨rfl, (below_drewN (below_new (Below.refl _ _) _) _).trans (hb0.mono (by simp))⟩
    ·skip
     have R : Hid (formT t = true) := hZ (by
      rw [HF.out];unfold formW
      simp [hx, n0, q0, um.out])
     clear HF;clear hx n0 q0;as_aux_lemma =>
     rw [R.out];clear R;go_enter Tryz.func125, Tryz.ntmps125
     go_wp2_with fail
     go_quiet (fail)
     go_wp2_with fail
     refine (unnamed_any t _ _ (HV.out.below (below_drewN (below_new (Below.refl _ _) _) _))).mono ?_; rintro e w0 ⟨rfl, hb0⟩; rw [um.out]
     go_wp2_with fail
     go_ret;exact ⟨rfl, (below_drewN (below_new (Below.refl _ _) _) _).trans (hb0.mono (by simp))⟩
   ·have q0i : (((q : Nat) : Int) == 0) = false := by simp; omega
    have R : Hid (formT t = false) := hZ (by
     rw [HF.out];unfold formW
     simp [hx, q0])
    clear HF;clear hx n0 q0;as_aux_lemma =>
    rw [R.out];clear R;go_enter Tryz.func125, Tryz.ntmps125
    go_wp2_with fail
    go_quiet (fail)
    go_wp2_with fail
    go_ret;exact ⟨rfl, below_drewN (below_new (Below.refl _ _) _) _⟩
  ·have n0i : (((n : Nat) : Int) == 0) = false := by simp; omega
   have R : Hid (formT t = false) := hZ (by
    rw [HF.out];unfold formW
    simp [hx, n0])
   clear HF;clear hx n0;as_aux_lemma =>
   rw [R.out];clear R;go_enter Tryz.func125, Tryz.ntmps125
   go_wp2_with fail
   go_quiet (fail)
   go_wp2_with fail
   go_ret;exact ⟨rfl, below_drewN (below_new (Below.refl _ _) _) _⟩
 have c1 : ¬ t.kind = 1 := hx
 have d1 : (t.kind == 1) = false := by simpa using hx
 clear hx
 by_cases hx : t.kind = 2
 ·skip
  have b1 : (t.kind == 1) = false := by rw [hx]; rfl
  have b2 : (t.kind == 2) = true := by rw [hx]; rfl
  by_cases n0 : n = 0
  ·have n0i : (((n : Nat) : Int) == 0) = true := by simp; omega
   by_cases q0 : q = 0
   ·have q0i : (((q : Nat) : Int) == 0) = true := by simp; omega
    rcases hid_or (noMore t) with um | um
    ·skip
     have R : Hid (formT t = false) := hZ (by
      rw [HF.out];unfold formW
      simp [hx, um.out])
     clear HF;clear hx n0 q0;as_aux_lemma =>
     rw [R.out];clear R;go_enter Tryz.func125, Tryz.ntmps125
     go_wp2_with fail
     go_quiet (fail)
     go_wp2_with fail
     refine (unnamed_any t _ _ (HV.out.below (below_drewN (below_new (Below.refl _ _) _) _))).mono ?_; rintro e w0 ⟨rfl, hb0⟩; rw [um.out]
     go_wp2_with fail
     go_ret;exact ⟨rfl, (below_drewN (below_new (Below.refl _ _) _) _).trans (hb0.mono (by simp))⟩
    ·skip
     have R : Hid (formT t = true) := hZ (by
      rw [HF.out];unfold formW
      simp [hx, n0, q0, um.out])
     clear HF;clear hx n0 q0;as_aux_lemma =>
     rw [R.out];clear R;go_enter Tryz.func125, Tryz.ntmps125
     go_wp2_with fail
     go_quiet (fail)
     go_wp2_with fail
     refine (unnamed_any t _ _ (HV.out.below (below_drewN (below_new (Below.refl _ _) _) _))).mono ?_; rintro e w0 ⟨rfl, hb0⟩; rw [um.out]
     go_wp2_with fail
     go_ret;exact ⟨rfl, (below_drewN (below_new (Below.refl _ _) _) _).trans (hb0.mono (by simp))⟩
   ·have q0i : (((q : Nat) : Int) == 0) = false := by simp; omega
    have R : Hid (formT t = false) := hZ (by
     rw [HF.out];unfold formW
     simp [hx, q0])
    clear HF;clear hx n0 q0;as_aux_lemma =>
    rw [R.out];clear R;go_enter Tryz.func125, Tryz.ntmps125
    go_wp2_with fail
    go_quiet (fail)
    go_wp2_with fail
    go_ret;exact ⟨rfl, below_drewN (below_new (Below.refl _ _) _) _⟩
  ·have n0i : (((n : Nat) : Int) == 0) = false := by simp; omega
   have R : Hid (formT t = false) := hZ (by
    rw [HF.out];unfold formW
    simp [hx, n0])
   clear HF;clear hx n0;as_aux_lemma =>
   rw [R.out];clear R;go_enter Tryz.func125, Tryz.ntmps125
   go_wp2_with fail
   go_quiet (fail)
   go_wp2_with fail
   go_ret;exact ⟨rfl, below_drewN (below_new (Below.refl _ _) _) _⟩
 have c2 : ¬ t.kind = 2 := hx
 have d2 : (t.kind == 2) = false := by simpa using hx
 clear hx
 by_cases hx : t.kind = 3
 ·skip
  have b1 : (t.kind == 1) = false := by rw [hx]; rfl
  have b2 : (t.kind == 2) = false := by rw [hx]; rfl
  have b3 : (t.kind == 3) = true := by rw [hx]; rfl
  by_cases n0 : n = 0
  ·have n0i : (((n : Nat) : Int) == 0) = true := by simp; omega
   by_cases q0 : q = 0
   ·have q0i : (((q : Nat) : Int) == 0) = true := by simp; omega
    rcases hid_or (noMore t) with um | um
    ·skip
     have R : Hid (formT t = false) := hZ (by
      rw [HF.out];unfold formW
      simp [hx, um.out])
     clear HF;clear hx n0 q0;as_aux_lemma =>
     rw [R.out];clear R;go_enter Tryz.func125, Tryz.ntmps125
     go_wp2_with fail
     go_quiet (fail)
     go_wp2_with fail
     refine (unnamed_any t _ _ (HV.out.below (below_drewN (below_new (Below.refl _ _) _) _))).mono ?_; rintro e w0 ⟨rfl, hb0⟩; rw [um.out]
     go_wp2_with fail
     go_ret;exact ⟨rfl, (below_drewN (below_new (Below.refl _ _) _) _).trans (hb0.mono (by simp))⟩
    ·skip
     have R : Hid (formT t = true) := hZ (by
      rw [HF.out];unfold formW
      simp [hx, n0, q0, um.out])
     clear HF;clear hx n0 q0;as_aux_lemma =>
     rw [R.out];clear R;go_enter Tryz.func125, Tryz.ntmps125
     go_wp2_with fail
     go_quiet (fail)
     go_wp2_with fail
     refine (unnamed_any t _ _ (HV.out.below (below_drewN (below_new (Below.refl _ _) _) _))).mono ?_; rintro e w0 ⟨rfl, hb0⟩; rw [um.out]
     go_wp2_with fail
     go_ret;exact ⟨rfl, (below_drewN (below_new (Below.refl _ _) _) _).trans (hb0.mono (by simp))⟩
   ·have q0i : (((q : Nat) : Int) == 0) = false := by simp; omega
    have R : Hid (formT t = false) := hZ (by
     rw [HF.out];unfold formW
     simp [hx, q0])
    clear HF;clear hx n0 q0;as_aux_lemma =>
    rw [R.out];clear R;go_enter Tryz.func125, Tryz.ntmps125
    go_wp2_with fail
    go_quiet (fail)
    go_wp2_with fail
    go_ret;exact ⟨rfl, below_drewN (below_new (Below.refl _ _) _) _⟩
  ·have n0i : (((n : Nat) : Int) == 0) = false := by simp; omega
   have R : Hid (formT t = false) := hZ (by
    rw [HF.out];unfold formW
    simp [hx, n0])
   clear HF;clear hx n0;as_aux_lemma =>
   rw [R.out];clear R;go_enter Tryz.func125, Tryz.ntmps125
   go_wp2_with fail
   go_quiet (fail)
   go_wp2_with fail
   go_ret;exact ⟨rfl, below_drewN (below_new (Below.refl _ _) _) _⟩
 have c3 : ¬ t.kind = 3 := hx
 have d3 : (t.kind == 3) = false := by simpa using hx
 clear hx
 by_cases hx : t.kind = 4
 ·skip
  have b1 : (t.kind == 1) = false := by rw [hx]; rfl
  have b2 : (t.kind == 2) = false := by rw [hx]; rfl
  have b3 : (t.kind == 3) = false := by rw [hx]; rfl
  have b4 : (t.kind == 4) = true := by rw [hx]; rfl
  by_cases n1 : n = 1
  ·have n1i : (((n : Nat) : Int) == 1) = true := by simp; omega
   by_cases q0 : q = 0
   ·have q0i : (((q : Nat) : Int) == 0) = true := by simp; omega
    rcases hid_or (noMore t) with um | um
    ·skip
     have R : Hid (formT t = false) := hZ (by
      rw [HF.out];unfold formW
      simp [hx, um.out])
     clear HF;clear hx q0 n1;as_aux_lemma =>
     rw [R.out];clear R;go_enter Tryz.func125, Tryz.ntmps125
     go_wp2_with fail
     go_quiet (fail)
     go_wp2_with fail
     refine (unnamed_any t _ _ (HV.out.below (below_drewN (below_new (Below.refl _ _) _) _))).mono ?_; rintro e w0 ⟨rfl, hb0⟩; rw [um.out]
     go_wp2_with fail
     go_ret;exact ⟨rfl, (below_drewN (below_new (Below.refl _ _) _) _).trans (hb0.mono (by simp))⟩
    ·skip
     have R : Hid (formT t = true) := hZ (by
      rw [HF.out];unfold formW
      simp [hx, n1, q0, um.out])
     clear HF;clear hx q0 n1;as_aux_lemma =>
     rw [R.out];clear R;go_enter Tryz.func125, Tryz.ntmps125
     go_wp2_with fail
     go_quiet (fail)
     go_wp2_with fail
     refine (unnamed_any t _ _ (HV.out.below (below_drewN (below_new (Below.refl _ _) _) _))).mono ?_; rintro e w0 ⟨rfl, hb0⟩; rw [um.out]
     go_wp2_with fail
     go_ret;exact ⟨rfl, (below_drewN (below_new (Below.refl _ _) _) _).trans (hb0.mono (by simp))⟩
   ·have q0i : (((q : Nat) : Int) == 0) = false := by simp; omega
    have R : Hid (formT t = false) := hZ (by
     rw [HF.out];unfold formW
     simp [hx, q0])
    clear HF;clear hx q0 n1;as_aux_lemma =>
    rw [R.out];clear R;go_enter Tryz.func125, Tryz.ntmps125
    go_wp2_with fail
    go_quiet (fail)
    go_wp2_with fail
    go_ret;exact ⟨rfl, below_drewN (below_new (Below.refl _ _) _) _⟩
  ·have n1i : (((n : Nat) : Int) == 1) = false := by simp; omega
   have R : Hid (formT t = false) := hZ (by
    rw [HF.out];unfold formW
    simp [hx, n1])
   clear HF;clear hx n1;as_aux_lemma =>
   rw [R.out];clear R;go_enter Tryz.func125, Tryz.ntmps125
   go_wp2_with fail
   go_quiet (fail)
   go_wp2_with fail
   go_ret;exact ⟨rfl, below_drewN (below_new (Below.refl _ _) _) _⟩
 have c4 : ¬ t.kind = 4 := hx
 have d4 : (t.kind == 4) = false := by simpa using hx
 clear hx
 by_cases hx : t.kind = 5
 ·skip
  have b1 : (t.kind == 1) = false := by rw [hx]; rfl
  have b2 : (t.kind == 2) = false := by rw [hx]; rfl
  have b3 : (t.kind == 3) = false := by rw [hx]; rfl
  have b4 : (t.kind == 4) = false := by rw [hx]; rfl
  have b5 : (t.kind == 5) = true := by rw [hx]; rfl
  by_cases l20 : n <= 20
  ·have l20i : ((n : Nat) : Int) <= 20 := by omega
   by_cases qn : q = n
   ·have qni : (((q : Nat) : Int) == ((n : Nat) : Int)) = true := by simp; omega
    rcases hid_or (risingB smallB t.names) with rs | rs
    ·skip
     have R : Hid (formT t = false) := hZ (by
      rw [HF.out];unfold formW
      simp [hx, rs.out])
     clear HF;clear hx qn;as_aux_lemma =>
     rw [R.out];clear R;go_enter Tryz.func125, Tryz.ntmps125
     go_wp2_with fail
     go_quiet (fail)
     go_wp2_with fail
     refine (rising_small An cn _ t.names _ HQ.out hzn (HNM.out.below (below_drewN (below_new (Below.refl _ _) _) _))).mono ?_; rintro e w0 ⟨rfl, rfl⟩; rw [rs.out]
     go_wp2_with fail
     go_ret;exact ⟨rfl, below_drewN (below_new (Below.refl _ _) _) _⟩
    ·skip
     rcases hid_or (noMore t) with um | um
     ·skip
      have R : Hid (formT t = false) := hZ (by
       rw [HF.out];unfold formW
       simp [hx, um.out])
      clear HF;clear hx qn;as_aux_lemma =>
      rw [R.out];clear R;go_enter Tryz.func125, Tryz.ntmps125
      go_wp2_with fail
      go_quiet (fail)
      go_wp2_with fail
      refine (rising_small An cn _ t.names _ HQ.out hzn (HNM.out.below (below_drewN (below_new (Below.refl _ _) _) _))).mono ?_; rintro e w0 ⟨rfl, rfl⟩; rw [rs.out]
      go_wp2_with fail
      refine (unnamed_any t _ _ (HV.out.below (below_drewN (below_new (Below.refl _ _) _) _))).mono ?_; rintro e w1 ⟨rfl, hb1⟩; rw [um.out]
      go_wp2_with fail
      go_ret;exact ⟨rfl, (below_drewN (below_new (Below.refl _ _) _) _).trans (hb1.mono (by simp))⟩
     ·skip
      have R : Hid (formT t = true) := hZ (by
       rw [HF.out];unfold formW
       simp [hx, l20, qn, rs.out, um.out])
      clear HF;clear hx qn;as_aux_lemma =>
      rw [R.out];clear R;go_enter Tryz.func125, Tryz.ntmps125
      go_wp2_with fail
      go_quiet (fail)
      go_wp2_with fail
      refine (rising_small An cn _ t.names _ HQ.out hzn (HNM.out.below (below_drewN (below_new (Below.refl _ _) _) _))).mono ?_; rintro e w0 ⟨rfl, rfl⟩; rw [rs.out]
      go_wp2_with fail
      refine (unnamed_any t _ _ (HV.out.below (below_drewN (below_new (Below.refl _ _) _) _))).mono ?_; rintro e w1 ⟨rfl, hb1⟩; rw [um.out]
      go_wp2_with fail
      go_ret;exact ⟨rfl, (below_drewN (below_new (Below.refl _ _) _) _).trans (hb1.mono (by simp))⟩
   ·have qni : (((q : Nat) : Int) == ((n : Nat) : Int)) = false := by simp; omega
    have R : Hid (formT t = false) := hZ (by
     rw [HF.out];unfold formW
     simp [hx, qn])
    clear HF;clear hx qn;as_aux_lemma =>
    rw [R.out];clear R;go_enter Tryz.func125, Tryz.ntmps125
    go_wp2_with fail
    go_quiet (fail)
    go_wp2_with fail
    go_ret;exact ⟨rfl, below_drewN (below_new (Below.refl _ _) _) _⟩
  ·have l20i : ¬ (((n : Nat) : Int) <= 20) := by omega
   have R : Hid (formT t = false) := hZ (by
    rw [HF.out];unfold formW
    simp [hx, l20])
   clear HF;clear hx;as_aux_lemma =>
   rw [R.out];clear R;go_enter Tryz.func125, Tryz.ntmps125
   go_wp2_with fail
   go_quiet (fail)
   go_wp2_with fail
   go_ret;exact ⟨rfl, below_drewN (below_new (Below.refl _ _) _) _⟩
 have c5 : ¬ t.kind = 5 := hx
 have d5 : (t.kind == 5) = false := by simpa using hx
 clear hx
 by_cases hx : t.kind = 6
 ·skip
  have b1 : (t.kind == 1) = false := by rw [hx]; rfl
  have b2 : (t.kind == 2) = false := by rw [hx]; rfl
  have b3 : (t.kind == 3) = false := by rw [hx]; rfl
  have b4 : (t.kind == 4) = false := by rw [hx]; rfl
  have b5 : (t.kind == 5) = false := by rw [hx]; rfl
  have b6 : (t.kind == 6) = true := by rw [hx]; rfl
  by_cases l1 : 1 <= n
  ·have l1i : (1 : Int) <= ((n : Nat) : Int) := by omega
   by_cases l20 : n <= 20
   ·have l20i : ((n : Nat) : Int) <= 20 := by omega
    by_cases qn : q = n
    ·have qni : (((q : Nat) : Int) == ((n : Nat) : Int)) = true := by simp; omega
     rcases hid_or (risingB greatB t.names) with rs | rs
     ·skip
      have R : Hid (formT t = false) := hZ (by
       rw [HF.out];unfold formW
       simp [hx, rs.out])
      clear HF;clear hx qn;as_aux_lemma =>
      rw [R.out];clear R;go_enter Tryz.func125, Tryz.ntmps125
      go_wp2_with fail
      go_quiet (fail)
      go_wp2_with fail
      refine (rising_great An cn _ t.names _ HQ.out hzn (HNM.out.below (below_drewN (below_new (Below.refl _ _) _) _))).mono ?_; rintro e w0 ⟨rfl, rfl⟩; rw [rs.out]
      go_wp2_with fail
      go_ret;exact ⟨rfl, below_drewN (below_new (Below.refl _ _) _) _⟩
     ·skip
      rcases hid_or (noMore t) with um | um
      ·skip
       have R : Hid (formT t = false) := hZ (by
        rw [HF.out];unfold formW
        simp [hx, um.out])
       clear HF;clear hx qn;as_aux_lemma =>
       rw [R.out];clear R;go_enter Tryz.func125, Tryz.ntmps125
       go_wp2_with fail
       go_quiet (fail)
       go_wp2_with fail
       refine (rising_great An cn _ t.names _ HQ.out hzn (HNM.out.below (below_drewN (below_new (Below.refl _ _) _) _))).mono ?_; rintro e w0 ⟨rfl, rfl⟩; rw [rs.out]
       go_wp2_with fail
       refine (unnamed_any t _ _ (HV.out.below (below_drewN (below_new (Below.refl _ _) _) _))).mono ?_; rintro e w1 ⟨rfl, hb1⟩; rw [um.out]
       go_wp2_with fail
       go_ret;exact ⟨rfl, (below_drewN (below_new (Below.refl _ _) _) _).trans (hb1.mono (by simp))⟩
      ·skip
       have R : Hid (formT t = true) := hZ (by
        rw [HF.out];unfold formW
        simp [hx, l1, l20, qn, rs.out, um.out])
       clear HF;clear hx qn;as_aux_lemma =>
       rw [R.out];clear R;go_enter Tryz.func125, Tryz.ntmps125
       go_wp2_with fail
       go_quiet (fail)
       go_wp2_with fail
       refine (rising_great An cn _ t.names _ HQ.out hzn (HNM.out.below (below_drewN (below_new (Below.refl _ _) _) _))).mono ?_; rintro e w0 ⟨rfl, rfl⟩; rw [rs.out]
       go_wp2_with fail
       refine (unnamed_any t _ _ (HV.out.below (below_drewN (below_new (Below.refl _ _) _) _))).mono ?_; rintro e w1 ⟨rfl, hb1⟩; rw [um.out]
       go_wp2_with fail
       go_ret;exact ⟨rfl, (below_drewN (below_new (Below.refl _ _) _) _).trans (hb1.mono (by simp))⟩
    ·have qni : (((q : Nat) : Int) == ((n : Nat) : Int)) = false := by simp; omega
     have R : Hid (formT t = false) := hZ (by
      rw [HF.out];unfold formW
      simp [hx, qn])
     clear HF;clear hx qn;as_aux_lemma =>
     rw [R.out];clear R;go_enter Tryz.func125, Tryz.ntmps125
     go_wp2_with fail
     go_quiet (fail)
     go_wp2_with fail
     go_ret;exact ⟨rfl, below_drewN (below_new (Below.refl _ _) _) _⟩
   ·have l20i : ¬ (((n : Nat) : Int) <= 20) := by omega
    have R : Hid (formT t = false) := hZ (by
     rw [HF.out];unfold formW
     simp [hx, l20])
    clear HF;clear hx;as_aux_lemma =>
    rw [R.out];clear R;go_enter Tryz.func125, Tryz.ntmps125
    go_wp2_with fail
    go_quiet (fail)
    go_wp2_with fail
    go_ret;exact ⟨rfl, below_drewN (below_new (Below.refl _ _) _) _⟩
  ·have l1i : ¬ ((1 : Int) <= ((n : Nat) : Int)) := by omega
   have R : Hid (formT t = false) := hZ (by
    rw [HF.out];unfold formW
    simp [hx, l1])
   clear HF;clear hx;as_aux_lemma =>
   rw [R.out];clear R;go_enter Tryz.func125, Tryz.ntmps125
   go_wp2_with fail
   go_quiet (fail)
   go_wp2_with fail
   go_ret;exact ⟨rfl, below_drewN (below_new (Below.refl _ _) _) _⟩
 have c6 : ¬ t.kind = 6 := hx
 have d6 : (t.kind == 6) = false := by simpa using hx
 clear hx
 by_cases hx : t.kind = 7
 ·skip
  have b1 : (t.kind == 1) = false := by rw [hx]; rfl
  have b2 : (t.kind == 2) = false := by rw [hx]; rfl
  have b3 : (t.kind == 3) = false := by rw [hx]; rfl
  have b4 : (t.kind == 4) = false := by rw [hx]; rfl
  have b5 : (t.kind == 5) = false := by rw [hx]; rfl
  have b6 : (t.kind == 6) = false := by rw [hx]; rfl
  have b7 : (t.kind == 7) = true := by rw [hx]; rfl
  by_cases l1 : 1 <= n
  ·have l1i : (1 : Int) <= ((n : Nat) : Int) := by omega
   by_cases l20 : n <= 20
   ·have l20i : ((n : Nat) : Int) <= 20 := by omega
    by_cases q0 : q = 0
    ·have q0i : (((q : Nat) : Int) == 0) = true := by simp; omega
     rcases hid_or (noMore t) with um | um
     ·skip
      have R : Hid (formT t = false) := hZ (by
       rw [HF.out];unfold formW
       simp [hx, um.out])
      clear HF;clear hx q0;as_aux_lemma =>
      rw [R.out];clear R;go_enter Tryz.func125, Tryz.ntmps125
      go_wp2_with fail
      go_quiet (fail)
      go_wp2_with fail
      refine (unnamed_any t _ _ (HV.out.below (below_drewN (below_new (Below.refl _ _) _) _))).mono ?_; rintro e w0 ⟨rfl, hb0⟩; rw [um.out]
      go_wp2_with fail
      go_ret;exact ⟨rfl, (below_drewN (below_new (Below.refl _ _) _) _).trans (hb0.mono (by simp))⟩
     ·skip
      have R : Hid (formT t = true) := hZ (by
       rw [HF.out];unfold formW
       simp [hx, l1, l20, q0, um.out])
      clear HF;clear hx q0;as_aux_lemma =>
      rw [R.out];clear R;go_enter Tryz.func125, Tryz.ntmps125
      go_wp2_with fail
      go_quiet (fail)
      go_wp2_with fail
      refine (unnamed_any t _ _ (HV.out.below (below_drewN (below_new (Below.refl _ _) _) _))).mono ?_; rintro e w0 ⟨rfl, hb0⟩; rw [um.out]
      go_wp2_with fail
      go_ret;exact ⟨rfl, (below_drewN (below_new (Below.refl _ _) _) _).trans (hb0.mono (by simp))⟩
    ·have q0i : (((q : Nat) : Int) == 0) = false := by simp; omega
     have R : Hid (formT t = false) := hZ (by
      rw [HF.out];unfold formW
      simp [hx, q0])
     clear HF;clear hx q0;as_aux_lemma =>
     rw [R.out];clear R;go_enter Tryz.func125, Tryz.ntmps125
     go_wp2_with fail
     go_quiet (fail)
     go_wp2_with fail
     go_ret;exact ⟨rfl, below_drewN (below_new (Below.refl _ _) _) _⟩
   ·have l20i : ¬ (((n : Nat) : Int) <= 20) := by omega
    have R : Hid (formT t = false) := hZ (by
     rw [HF.out];unfold formW
     simp [hx, l20])
    clear HF;clear hx;as_aux_lemma =>
    rw [R.out];clear R;go_enter Tryz.func125, Tryz.ntmps125
    go_wp2_with fail
    go_quiet (fail)
    go_wp2_with fail
    go_ret;exact ⟨rfl, below_drewN (below_new (Below.refl _ _) _) _⟩
  ·have l1i : ¬ ((1 : Int) <= ((n : Nat) : Int)) := by omega
   have R : Hid (formT t = false) := hZ (by
    rw [HF.out];unfold formW
    simp [hx, l1])
   clear HF;clear hx;as_aux_lemma =>
   rw [R.out];clear R;go_enter Tryz.func125, Tryz.ntmps125
   go_wp2_with fail
   go_quiet (fail)
   go_wp2_with fail
   go_ret;exact ⟨rfl, below_drewN (below_new (Below.refl _ _) _) _⟩
 have c7 : ¬ t.kind = 7 := hx
 have d7 : (t.kind == 7) = false := by simpa using hx
 clear hx
 by_cases hx : t.kind = 8
 ·skip
  have b1 : (t.kind == 1) = false := by rw [hx]; rfl
  have b2 : (t.kind == 2) = false := by rw [hx]; rfl
  have b3 : (t.kind == 3) = false := by rw [hx]; rfl
  have b4 : (t.kind == 4) = false := by rw [hx]; rfl
  have b5 : (t.kind == 5) = false := by rw [hx]; rfl
  have b6 : (t.kind == 6) = false := by rw [hx]; rfl
  have b7 : (t.kind == 7) = false := by rw [hx]; rfl
  have b8 : (t.kind == 8) = true := by rw [hx]; rfl
  by_cases n0 : n = 0
  ·have n0i : (((n : Nat) : Int) == 0) = true := by simp; omega
   by_cases q0 : q = 0
   ·have q0i : (((q : Nat) : Int) == 0) = true := by simp; omega
    rcases hid_or (localOk t) with lo | lo
    ·skip
     have R : Hid (formT t = false) := hZ (by
      rw [HF.out];unfold formW
      simp [hx, lo.out])
     clear HF;clear hx n0 q0;as_aux_lemma =>
     rw [R.out];clear R;go_enter Tryz.func125, Tryz.ntmps125
     go_wp2_with fail
     go_quiet (fail)
     go_wp2_with fail
     refine (mayLocal_any t _ _ (HV.out.below (below_drewN (below_new (Below.refl _ _) _) _))).mono ?_; rintro e w0 ⟨rfl, hb0⟩; rw [lo.out]
     go_wp2_with fail
     go_ret;exact ⟨rfl, (below_drewN (below_new (Below.refl _ _) _) _).trans (hb0.mono (by simp))⟩
    ·skip
     have R : Hid (formT t = true) := hZ (by
      rw [HF.out];unfold formW
      simp [hx, n0, q0, lo.out])
     clear HF;clear hx n0 q0;as_aux_lemma =>
     rw [R.out];clear R;go_enter Tryz.func125, Tryz.ntmps125
     go_wp2_with fail
     go_quiet (fail)
     go_wp2_with fail
     refine (mayLocal_any t _ _ (HV.out.below (below_drewN (below_new (Below.refl _ _) _) _))).mono ?_; rintro e w0 ⟨rfl, hb0⟩; rw [lo.out]
     go_wp2_with fail
     go_ret;exact ⟨rfl, (below_drewN (below_new (Below.refl _ _) _) _).trans (hb0.mono (by simp))⟩
   ·have q0i : (((q : Nat) : Int) == 0) = false := by simp; omega
    have R : Hid (formT t = false) := hZ (by
     rw [HF.out];unfold formW
     simp [hx, q0])
    clear HF;clear hx n0 q0;as_aux_lemma =>
    rw [R.out];clear R;go_enter Tryz.func125, Tryz.ntmps125
    go_wp2_with fail
    go_quiet (fail)
    go_wp2_with fail
    go_ret;exact ⟨rfl, below_drewN (below_new (Below.refl _ _) _) _⟩
  ·have n0i : (((n : Nat) : Int) == 0) = false := by simp; omega
   have R : Hid (formT t = false) := hZ (by
    rw [HF.out];unfold formW
    simp [hx, n0])
   clear HF;clear hx n0;as_aux_lemma =>
   rw [R.out];clear R;go_enter Tryz.func125, Tryz.ntmps125
   go_wp2_with fail
   go_quiet (fail)
   go_wp2_with fail
   go_ret;exact ⟨rfl, below_drewN (below_new (Below.refl _ _) _) _⟩
 have c8 : ¬ t.kind = 8 := hx
 have d8 : (t.kind == 8) = false := by simpa using hx
 clear hx
 by_cases hx : t.kind = 9
 ·skip
  have b1 : (t.kind == 1) = false := by rw [hx]; rfl
  have b2 : (t.kind == 2) = false := by rw [hx]; rfl
  have b3 : (t.kind == 3) = false := by rw [hx]; rfl
  have b4 : (t.kind == 4) = false := by rw [hx]; rfl
  have b5 : (t.kind == 5) = false := by rw [hx]; rfl
  have b6 : (t.kind == 6) = false := by rw [hx]; rfl
  have b7 : (t.kind == 7) = false := by rw [hx]; rfl
  have b8 : (t.kind == 8) = false := by rw [hx]; rfl
  have b9 : (t.kind == 9) = true := by rw [hx]; rfl
  by_cases n0 : n = 0
  ·have n0i : (((n : Nat) : Int) == 0) = true := by simp; omega
   by_cases q0 : q = 0
   ·have q0i : (((q : Nat) : Int) == 0) = true := by simp; omega
    rcases hid_or (openOk t) with lo | lo
    ·skip
     have R : Hid (formT t = false) := hZ (by
      rw [HF.out];unfold formW
      simp [hx, lo.out])
     clear HF;clear hx n0 q0;as_aux_lemma =>
     rw [R.out];clear R;go_enter Tryz.func125, Tryz.ntmps125
     go_wp2_with fail
     go_quiet (fail)
     go_wp2_with fail
     refine (mayOpen_any t _ _ (HV.out.below (below_drewN (below_new (Below.refl _ _) _) _))).mono ?_; rintro e w0 ⟨rfl, hb0⟩; rw [lo.out]
     go_wp2_with fail
     go_ret;exact ⟨rfl, (below_drewN (below_new (Below.refl _ _) _) _).trans (hb0.mono (by simp))⟩
    ·skip
     have R : Hid (formT t = true) := hZ (by
      rw [HF.out];unfold formW
      simp [hx, n0, q0, lo.out])
     clear HF;clear hx n0 q0;as_aux_lemma =>
     rw [R.out];clear R;go_enter Tryz.func125, Tryz.ntmps125
     go_wp2_with fail
     go_quiet (fail)
     go_wp2_with fail
     refine (mayOpen_any t _ _ (HV.out.below (below_drewN (below_new (Below.refl _ _) _) _))).mono ?_; rintro e w0 ⟨rfl, hb0⟩; rw [lo.out]
     go_wp2_with fail
     go_ret;exact ⟨rfl, (below_drewN (below_new (Below.refl _ _) _) _).trans (hb0.mono (by simp))⟩
   ·have q0i : (((q : Nat) : Int) == 0) = false := by simp; omega
    have R : Hid (formT t = false) := hZ (by
     rw [HF.out];unfold formW
     simp [hx, q0])
    clear HF;clear hx n0 q0;as_aux_lemma =>
    rw [R.out];clear R;go_enter Tryz.func125, Tryz.ntmps125
    go_wp2_with fail
    go_quiet (fail)
    go_wp2_with fail
    go_ret;exact ⟨rfl, below_drewN (below_new (Below.refl _ _) _) _⟩
  ·have n0i : (((n : Nat) : Int) == 0) = false := by simp; omega
   have R : Hid (formT t = false) := hZ (by
    rw [HF.out];unfold formW
    simp [hx, n0])
   clear HF;clear hx n0;as_aux_lemma =>
   rw [R.out];clear R;go_enter Tryz.func125, Tryz.ntmps125
   go_wp2_with fail
   go_quiet (fail)
   go_wp2_with fail
   go_ret;exact ⟨rfl, below_drewN (below_new (Below.refl _ _) _) _⟩
 have c9 : ¬ t.kind = 9 := hx
 have d9 : (t.kind == 9) = false := by simpa using hx
 clear hx
 have R : Hid (formT t = false) := hZ (by
  rw [HF.out];unfold formW
  simp [c1, c2, c3, c4, c5, c6, c7, c8, c9])
 clear HF
 as_aux_lemma =>
 rw [R.out]
 clear R
 go_enter Tryz.func125, Tryz.ntmps125
 go_wp2_with fail
 go_quiet (fail)
 go_wp2_with fail
 go_ret
 exact ⟨rfl, below_drewN (below_new (Below.refl _ _) _) _⟩
def Cnt (B : Nat) (c : Int) (w : World) : Prop := w.heap[B]? = some (.cells #[.int .i64 c] 3 (0, 0))
theorem Cnt.lt {B : Nat} {c : Int} {w : World} (h : Cnt B c w) : B < w.heap.size := (Array.getElem?_eq_some_iff.1 h).1
theorem Cnt.cell {B : Nat} {c : Int} {w : World} (h : Cnt B c w) : w.cell? ⟨B, 0, none⟩ = some (.int .i64 c) := cZ h 0
theorem Cnt.frozen {B : Nat} {c : Int} {w : World} (h : Cnt B c w) : w.frozen? ⟨B, 0, none⟩ = false := Lib.frozen_of_heap h 0
theorem Cnt.alloc {B : Nat} {c : Int} {w : World} (h : Cnt B c w) (o : Obj) : Cnt B c (w.alloc o) := (Lib.alloc_old w o B h.lt).trans h
theorem Cnt.put {B : Nat} {c : Int} {w : World} (h : Cnt B c w) (d : Int) : Cnt B d (w.setCell ⟨B, 0, none⟩ (.int .i64 d)) := one_setCell h
theorem Cnt.below {B : Nat} {c : Int} {w w' : World} (h : Cnt B c w) (hb : Below w.heap.size w w') : Cnt B c w' := (hb.block B h.lt).trans h
theorem count_any (N : Nat) : ∀ (t : Ty), many t <= N -> ∀ (d c : Int), 0 <= d -> d <= 33 -> 0 <= c -> c <= 500 -> ∀ (B : Nat) (v : Value) (W w : World), TyV W v t -> Below W.heap.size W w -> W.heap.size <= B -> Cnt B c w ->
  Calls Tryz.prog 79 #[v, .int .i64 d, .pointer (some ⟨B, 0, none⟩)] w fun e w' => e = .returned (.bool (countT t d c).1) /\ Cnt B (countT t d c).2 w' /\ Below B w w' := by
 induction N with
 | zero => intro t h; have := many_pos t; omega
 | succ N ih =>
  intro t hN d c hd0 hd hc0 hc B v W w hv hW hWB hC;have HV := hZ hv;obtain ⟨l, rfl, hT⟩ := hv;obtain ⟨An, cn, As, cs, rfl, -, -, -, hzn, hz, -, hS⟩ := hT.parts;have HS := hZ hS;clear hT hS;have HE := hZ (countT_eq t d c);generalize hn : t.subs.length = n at hz HV
  have HN := hZ hn;clear hn;have hBl := hC.lt;obtain ⟨w2, hw2⟩ : ∃ w2, w2 = (w.setCell ⟨B, 0, none⟩ (.int .i64 (c + 1))).alloc (.cells #[.int .i64 t.kind, .string t.pkg, .int .i64 t.major, .string t.mod, .string t.name, .slice An t.names.length cn, .slice As n cs] 45) := ⟨_, rfl⟩;have hss : (w.setCell ⟨B, 0, none⟩ (.int .i64 (c + 1))).heap.size = w.heap.size := by simp
  have HC2 : Hid (Cnt B (c + 1) w2) := hZ (by rw [hw2]; exact (hC.put (c + 1)).alloc _);have HBW : Hid (Below B w w2) := hZ (by rw [hw2]; exact ((Below.refl B w).setCell (p := ⟨B, 0, none⟩) (Nat.le_refl _) _).alloc (by omega) _);have HWW0 := hZ hW;have HWW : Hid (Below W.heap.size W w2) := hZ (hW.trans (HBW.out.mono hWB));have hsz : w.heap.size < w2.heap.size := by rw [hw2]; simp
  have HX : Hid (∀ i v, (#[.int .i64 t.kind, .string t.pkg, .int .i64 t.major, .string t.mod, .string t.name, .slice An t.names.length cn, .slice As n cs] : Array Value)[i]? = some v -> w2.cell? ⟨w.heap.size, i, none⟩ = some v) := hZ (fun i v hv => by
   rw [cZ (cs := #[.int .i64 t.kind, .string t.pkg, .int .i64 t.major, .string t.mod, .string t.name, .slice An t.names.length cn, .slice As n cs]) (T := 45) (fr := (0, 0))]
   ·exact hv
   ·rw [hw2, <- hss]
    exact heap_alloc_new _ _)
  have c0 := hC.cell;have f0 := hC.frozen;have HW2 := hZ hw2;clear hW hC hw2 hss;go_enter Tryz.func79, Tryz.ntmps79
  go_upto_region 2 with fail
  rw [<- HW2.out];clear c0 f0 HW2;have c2 := HC2.out.cell;have x0 := HX.out 0 _ rfl;have x1 := HX.out 1 _ rfl;have x2 := HX.out 2 _ rfl;have x3 := HX.out 3 _ rfl;have x4 := HX.out 4 _ rfl;have x5 := HX.out 5 _ rfl;have x6 := HX.out 6 _ rfl;by_cases g1 : 500 < c + 1
  ·have R : Hid (countT t d c = (false, c + 1)) := hZ (by rw [HE.out, if_pos (.inl g1)])
   go_wp2_with fail
   go_ret;exact ⟨ret_bool (by rw [R.out]), by rw [R.out]; exact HC2.out, HBW.out⟩
  by_cases g2 : 32 < d
  ·have R : Hid (countT t d c = (false, c + 1)) := hZ (by rw [HE.out, if_pos (.inr (.inl g2))])
   go_wp2_with fail
   go_ret;exact ⟨ret_bool (by rw [R.out]), by rw [R.out]; exact HC2.out, HBW.out⟩
  rcases hid_or (formT t) with hf | hf
  ·have R : Hid (countT t d c = (false, c + 1)) := hZ (by rw [HE.out, if_pos (.inr (.inr hf.out))])
   go_wp2_with fail
   refine (formed_any t _ _ (HV.out.below HWW.out)).mono ?_; rintro e w3 ⟨rfl, hb3⟩; rw [hf.out]
   go_wp2_with fail
   go_ret;exact ⟨ret_bool (by rw [R.out]), by rw [R.out]; exact HC2.out.below hb3, HBW.out.trans (hb3.mono (by omega))⟩
  have R : Hid (countT t d c = countL t.subs (d + 1) (c + 1)) := hZ (by
   rw [HE.out, if_neg];rintro (x | x | x)
   ·exact g1 x
   ·exact g2 x
   ·rw [hf.out] at x; cases x)
  go_wp2_with fail
  refine (formed_any t _ _ (HV.out.below HWW.out)).mono ?_; rintro e w3 ⟨rfl, hb3⟩; rw [hf.out]
  have y6 : w3.cell? ⟨w.heap.size, 6, none⟩ = some (.slice As n cs) := (hb3.cell (p := ⟨w.heap.size, 6, none⟩) hsz).trans x6;have HC3 := hZ (HC2.out.below hb3);have HB3 := hZ (HBW.out.trans (hb3.mono (by omega)));have hd1 : d <= 32 := by omega
  have hc1 : c + 1 <= 500 := by omega
  clear x0 x1 x2 x3 x4 x5 x6 c2 hb3 HX HC2 HBW g1 g2 HE hsz;go_wp2_with fail
  go_loopw [30] (fun i wr => ∃ (k : Nat) (ck : Int), k <= n /\ i = .int .i64 k /\ 0 <= ck /\ ck <= 500 /\ Hid (countT t d c = countL (t.subs.drop k) (d + 1) ck) /\ Hid (Cnt B ck wr) /\ Hid (Below B w wr)) (fun i _ => n - (intOf i).toNat)
  case atStart => exact ⟨0, c + 1, by omega, rfl, by omega, by omega, R, HC3, HB3⟩
  case round =>
   obtain ⟨k, ck, hk, rfl, hk0, hk5, HK, HCK, HBK⟩ := hrel;obtain ⟨wo, rfl⟩ : ∃ wo : World, wo = wr := ⟨_, rfl⟩;have HWK : Hid (Below W.heap.size W wo) := hZ (HWW0.out.trans (HBK.out.mono hWB));by_cases hlt : k < n
   ·obtain ⟨s, hs⟩ : ∃ s, t.subs[k]? = some s := ⟨_, List.getElem?_eq_getElem (by rw [HN.out]; exact hlt)⟩
    obtain ⟨g, o, v0, v1, v2, v3, v4, v5, v6, rfl, hg, e0, e1, e2, e3, e4, e5, e6, hs7⟩ := HS.out k s hs;obtain ⟨Am, cm, At, ct, rfl, rfl, rfl, rfl, rfl, rfl, rfl⟩ := hs7.seven;have tr : ∀ q v, W.cell? ⟨g, q, none⟩ = some v -> wo.cell? ⟨g, q, none⟩ = some v := fun q v hv => (HWK.out.cell (p := ⟨g, _, none⟩) hg).trans hv
    have h0 := tr _ _ e0;have h1 := tr _ _ e1;have h2 := tr _ _ e2;have h3 := tr _ _ e3;have h4 := tr _ _ e4;have h5 := tr _ _ e5;have h6 := tr _ _ e6;have hgo : g < wo.heap.size := Nat.lt_of_lt_of_le hg HWK.out.size;clear e0 e1 e2 e3 e4 e5 e6 tr hg;have hsm := sub_many hs;have HKS := hZ (countL_at hs (d + 1) ck);have HBs := hZ (countT_is s (d + 1) ck hk5);have IH := hZ (fun w' (hw' : Below W.heap.size W w') (hc' : Cnt B ck w') => ih s (by omega) (d + 1) ck (by omega) (by omega) hk0 hk5 B (.agg #[.int .i64 s.kind, .string s.pkg, .int .i64 s.major, .string s.mod, .string s.name, .slice Am s.names.length cm, .slice At s.subs.length ct]) W w' ⟨_, rfl, hs7⟩ hw' hWB hc');clear hs7 hs hsm;have bds := HBs.out;by_cases hg1 : (countT s (d + 1) ck).1 = true
    ·have R2 : Hid (countT t d c = countL (t.subs.drop (k + 1)) (d + 1) (countT s (d + 1) ck).2) := hZ (by rw [HK.out, HKS.out, if_pos hg1])
     have q2 : (countT s (d + 1) ck).2 <= 500 := by rw [bds.2.1 hg1]; exact (bds.1.1 hg1).2.1
     have q1 : 0 <= (countT s (d + 1) ck).2 := by have := bds.2.2.1; omega
     have HG := hZ hg1;clear bds hg1;go_wp2_with fail
     refine (IH.out _ (HWK.out.alloc HWK.out.size _) (HCK.out.alloc _)).mono ?_; rintro e w5 ⟨rfl, hc5, hb5⟩; rw [HG.out]
     have HB5 : Hid (Below B w w5) := hZ ((HBK.out.alloc (by have := HBK.out.size; omega) _).trans hb5);have HC5 := hZ hc5;clear h0 h1 h2 h3 h4 h5 h6 hc5 hb5 HBs IH;go_wp2_with fail
     go_roundw
     case rel => exact ⟨k + 1, (countT s (d + 1) ck).2, by omega, by go_num, q1, q2, R2, HC5, HB5⟩
     case measure => simp [intOf]; omega
    ·have R2 : Hid (countT t d c = (false, (countT s (d + 1) ck).2)) := hZ (by rw [HK.out, HKS.out, if_neg hg1])
     have HG : Hid ((countT s (d + 1) ck).1 = false) := hZ (by simpa using hg1);clear bds hg1;go_wp2_with fail
     refine (IH.out _ (HWK.out.alloc HWK.out.size _) (HCK.out.alloc _)).mono ?_; rintro e w5 ⟨rfl, hc5, hb5⟩; rw [HG.out]
     have HB5 : Hid (Below B w w5) := hZ ((HBK.out.alloc (by have := HBK.out.size; omega) _).trans hb5);have HC5 := hZ hc5;clear h0 h1 h2 h3 h4 h5 h6 hc5 hb5 HBs IH;go_wp2_with fail
     go_ret;exact ⟨ret_bool (by rw [R2.out]), by rw [R2.out]; exact HC5.out, HB5.out⟩
   ·have R2 : Hid (countT t d c = (true, ck)) := hZ (by
     rw [HK.out, List.drop_eq_nil_of_le (by rw [HN.out]; omega)]; rfl)
    go_wp2_with fail
    go_ret;exact ⟨ret_bool (by rw [R2.out]), by rw [R2.out]; exact HCK.out, HBK.out⟩
theorem size_any (t : Ty) (v : Value) (w : World) (hv : TyV w v t) :
  Calls Tryz.prog 43 #[v] w fun e w' => e = .returned (.int .i64 (sizeT t : Nat)) /\ Below w.heap.size w w' := by
 have HV := hZ hv
 obtain ⟨l, rfl, hT⟩ := hv
 obtain ⟨An, cn, As, cs, rfl, -, -, -, hzn, hz, -, hS⟩ := hT.parts
 clear hT hS
 have HM := hZ (may_iff t)
 have HI := hZ (countT_is t 1 0 (by omega))
 obtain ⟨wb, hwb⟩ : ∃ wb, wb = w.alloc (.cells #[.int .i64 t.kind, .string t.pkg, .int .i64 t.major, .string t.mod, .string t.name, .slice An t.names.length cn, .slice As t.subs.length cs] 45) := ⟨_, rfl⟩
 have hbs : wb.heap.size = w.heap.size + 1 := by rw [hwb]; simp
 have HBB : Hid (Below w.heap.size w wb) := hZ (by rw [hwb]; exact below_new (Below.refl _ _) _)
 have HC : Hid (Cnt (w.heap.size + 1) 0 (wb.alloc (.cells #[.int .i64 0] 3))) := hZ (by rw [<- hbs]; exact heap_alloc_new wb _)
 have hle : wb.heap.size <= w.heap.size + 1 := by omega
 have HWB := hZ hwb
 rcases hid_or (countT t 1 0).1 with hg | hg
 ·have R : Hid (sizeT t = 0) := hZ (by unfold sizeT; rw [if_neg]; rw [HM.out, hg.out]; simp)
  rw [R.out];go_enter Tryz.func43, Tryz.ntmps43
  go_wp2_with fail
  rw [<- HWB.out];refine (count_any _ t (Nat.le_refl _) 1 0 (by omega) (by omega) (by omega) (by omega) (w.heap.size + 1) _ wb _ (HV.out.below HBB.out) (below_new (Below.refl _ _) _) hle HC.out).mono ?_; rintro e w5 ⟨rfl, hc5, hb5⟩; rw [hg.out]
  have HB5 : Hid (Below w.heap.size w w5) := hZ ((below_new HBB.out _).trans (hb5.mono (by omega)));clear hb5 hc5;go_wp2_with fail
  go_ret;exact ⟨rfl, HB5.out⟩
 ·have R : Hid ((sizeT t : Int) = (countT t 1 0).2) := hZ (by
   unfold sizeT; rw [if_pos (HM.out.2 hg.out), HI.out.2.1 hg.out]; omega)
  rw [R.out];go_enter Tryz.func43, Tryz.ntmps43
  go_wp2_with fail
  rw [<- HWB.out];refine (count_any _ t (Nat.le_refl _) 1 0 (by omega) (by omega) (by omega) (by omega) (w.heap.size + 1) _ wb _ (HV.out.below HBB.out) (below_new (Below.refl _ _) _) hle HC.out).mono ?_; rintro e w5 ⟨rfl, hc5, hb5⟩; rw [hg.out]
  have HB5 : Hid (Below w.heap.size w w5) := hZ ((below_new HBB.out _).trans (hb5.mono (by omega)));have c5 := hc5.cell;clear hb5 hc5;go_wp2_with fail
  go_ret;exact ⟨rfl, HB5.out⟩
theorem mayK_any (t : Ty) (v : Value) (w : World) (hv : TyV w v t) :
  Calls Tryz.prog 14 #[v] w fun e w' => e = .returned (.bool (mayT t)) /\ Below w.heap.size w w' := by
 have HV := hZ hv
 obtain ⟨l, rfl, hT⟩ := hv
 obtain ⟨An, cn, As, cs, rfl, -, -, -, hzn, hz, -, hS⟩ := hT.parts
 clear hT hS
 have HP := hZ (size_pos t)
 go_enter Tryz.func14, Tryz.ntmps14
 go_wp2_with fail
 refine (size_any t _ _ (HV.out.below (below_new (Below.refl _ _) _))).mono ?_; rintro e w2 ⟨rfl, hb2⟩
 go_wp2_with fail
 go_ret
 exact ⟨ret_bool HP.out.symm, (below_new (Below.refl _ _) _).trans (hb2.mono (by simp))⟩
end Go.Proofs.YtcdmgcgjonndpaaGreatDoor
namespace Go.Proofs.YtcdmgcgjonndpaaGreatDoor
open Go.RowKit
open Go.Sort
open M
theorem z46 : (⟨#[46]⟩ : ByteArray).size = 1 := rfl
end Go.Proofs.YtcdmgcgjonndpaaGreatDoor
namespace Go.Proofs.YtcdmgcgjonndpaaGreatDoor
open Go.RowKit
open Go.Sort Go.Maps
open M
theorem lawStr : Go.Maps.Keyed Tryz.prog 9 := Go.Maps.string_keyed Tryz.underlying9
theorem zeroInt (w : World) : (zeroValue 3).run Tryz.prog w = .ok (.int .i64 0) w := by kernel_rfl
def MapS (w : World) (b n : Nat) (p : ByteArray -> Bool) (f : ByteArray -> Int -> Prop) : Prop :=
  ∃ D : DataW Unit, w.ownsMap Tryz.prog 9 (plainElem Tryz.prog 3) b n D /\ Go.Maps.IsMap D /\ ∀ s : ByteArray, s.size <= maxLen -> Go.Maps.has D (.string s.data.toList) = p s /\ (p s = true -> ∀ c, D.atKey (.string s.data.toList) (.lit (.int .i64 0)) = .lit (.int .i64 c) -> f s c)
theorem MapS.below {w w' : World} {b n : Nat} {p : ByteArray -> Bool} {f : ByteArray -> Int -> Prop} (h : MapS w b n p f) (hb : Below w.heap.size w w') : MapS w' b n p f := by
  obtain ⟨D, ⟨es, clock, h1, h2, h3, h4⟩, hm, h5⟩ := h;exact ⟨D, ⟨es, clock, (hb.block b (Array.getElem?_eq_some_iff.1 h1).1).trans h1, h2, h3, h4⟩, hm, h5⟩
structure NmS (w : World) (b0 b1 : Nat) (m : Mo) : Prop where
  ims : ∃ n, MapS w b0 n (impHas m) (fun _ _ => True)
  tys : ∃ n, MapS w b1 n (fun s => (typAt m s).isSome) (fun s c => typAt m s = some c.toNat /\ 0 <= c)
theorem NmS.below {w w' : World} {b0 b1 : Nat} {m : Mo} (h : NmS w b0 b1 m) (hb : Below w.heap.size w w') : NmS w' b0 b1 m :=
  ⟨h.ims.imp fun _ h => h.below hb, h.tys.imp fun _ h => h.below hb⟩
def natCells (l : List Nat) : List Value := l.map fun (i : Nat) => Value.int .i64 (i : Int)
def OwnN (w : World) (lo : Nat) (v : Value) (l : List Nat) : Prop := w.ownsRow lo 3 1 v l.length (natCells l)
theorem own_nilN (w : World) (lo : Nat) : OwnN w lo (.slice none 0 0) [] := World.ownsRow_nil _ _ _ _
theorem local_said (m : Mo) (t : Ty) (b0 b1 : Nat) (A : Option Addr) (n c : Nat) (v : Value) (w : World) (hk : t.kind = 8) (hN : NmS w b0 b1 m) (hv : TyV w v t) :
    Calls Tryz.prog 122 #[.agg #[.map (some b0), .map (some b1), .slice A n c], v] w fun e w' => ∃ v' : Value, e = .returned (.tuple #[v', .bool (wholeT m t)]) /\ OwnN w' w.heap.size v' (saidT m t) /\ Below w.heap.size w w' := by
  obtain ⟨l, rfl, hT⟩ := hv;obtain ⟨An, cn, As, cs, rfl, zp, zm, za, zn, zs, -, -⟩ := hT.parts;rw [saidT_local m t hk, wholeT_local m t hk];have hz1 : t.mod.size <= maxLen := by unfold maxLen; omega
  have hz2 : t.name.size <= maxLen := by unfold maxLen; omega
  obtain ⟨W2, hW2⟩ : ∃ W2, W2 = (w.alloc (.cells #[.map (some b0), .map (some b1), .slice A n c] 80)).alloc (.cells #[.int .i64 t.kind, .string t.pkg, .int .i64 t.major, .string t.mod, .string t.name, .slice An t.names.length cn, .slice As t.subs.length cs] 45) := ⟨_, rfl⟩;have hB : Below w.heap.size w W2 := by rw [hW2]; exact below_new (below_new (Below.refl _ _) _) _
  have hs1 : (w.alloc (.cells #[.map (some b0), .map (some b1), .slice A n c] 80)).heap.size = w.heap.size + 1 := by simp
  have X1 : W2.heap[w.heap.size]? = some (.cells #[.map (some b0), .map (some b1), .slice A n c] 80 (0, 0)) := by
    rw [hW2, Lib.alloc_old _ _ _ (by rw [hs1]; omega)]; exact heap_alloc_new w _
  have X2 : W2.heap[w.heap.size + 1]? = some (.cells #[.int .i64 t.kind, .string t.pkg, .int .i64 t.major, .string t.mod, .string t.name, .slice An t.names.length cn, .slice As t.subs.length cs] 45 (0, 0)) := by
    rw [hW2, <- hs1]; exact heap_alloc_new _ _
  obtain ⟨⟨n0, D0, o0, -, k0⟩, ⟨n1, D1, o1, -, k1⟩⟩ := hN.below hB;obtain ⟨x0, x1⟩ := cq2 X1;have y3 := cZ X2 3;have y4 := cZ X2 4;simp at x0 x1 y3 y4;have kk0 := Go.WideMaps.keyOf_string_mk (P := Tryz.prog) Tryz.underlying9 hz1;have kk1 := Go.WideMaps.keyOf_string_mk (P := Tryz.prog) Tryz.underlying9 hz2;have HB := hZ hB;have HW2 := hZ hW2;have hlo : w.heap.size <= W2.heap.size := hB.size;clear hT hN hk hB hW2 X1 X2 hs1;by_cases hz : t.mod.size = 0
  · rw [if_pos hz, if_pos hz]
    obtain ⟨e1, e2⟩ := empty_facts _ hz;have h1 : has D1 (.string t.name.data.toList) = (typAt m t.name).isSome := (k1 t.name hz2).1;have h2 : (typAt m t.name).isSome = true -> ∀ c, D1.atKey (.string t.name.data.toList) (.lit (.int .i64 0)) = .lit (.int .i64 c) -> typAt m t.name = some c.toNat /\ 0 <= c := (k1 t.name hz2).2;clear k0 k1 o0 kk0 hz x0;cases hq : typAt m t.name with
    | none =>
      rw [hq] at h1;simp only [Option.isSome_none] at h1;have H1 := hZ h1;have FIN := hZ (own_nilN W2 w.heap.size);clear h1 h2 hq;go_enter Tryz.func122, Tryz.ntmps122
      go_upto_region 1 with fail
      rw [<- HW2.out];go_wp2_with (at_lookup; refine Go.wpList_lookup_own_ok_int _ rfl _ _ 77 rfl 9 3 .i64 lawStr Tryz.underlying77 Tryz.underlying3 (zeroInt _) b1 n1 D1 rfl o1 _ _ rfl kk1 ?_; intro c hat hwc; rw [H1.out])
      go_ret2
      exact ⟨_, rfl, FIN.out, HB.out⟩
    | some i =>
      rw [hq] at h1;simp only [Option.isSome_some] at h1;have H1 := hZ h1
      have HC : Hid (∀ c, D1.atKey (.string t.name.data.toList) (.lit (.int .i64 0)) = .lit (.int .i64 c) -> c = (i : Int)) := hZ (fun c hc => by
        obtain ⟨a, b⟩ := h2 (by rw [hq]; rfl) c hc;rw [hq] at a;have := Option.some.inj a
        omega)
      have FIN : Hid (OwnN (W2.alloc (.cells #[.int .i64 i] 3)) w.heap.size (.slice (some ⟨W2.heap.size, 0, none⟩) 1 1) [i]) := hZ (World.ownsRow_lit (base := w.heap.size) (e := 3) (size := 1) W2 #[.int .i64 i] 1 hlo (by decide) rfl);have FB : Hid (Below w.heap.size w (W2.alloc (.cells #[.int .i64 i] 3))) := hZ (below_new HB.out _);clear h1 h2 hq;go_enter Tryz.func122, Tryz.ntmps122
      go_upto_region 1 with fail
      rw [<- HW2.out];go_wp2_with (at_lookup; refine Go.wpList_lookup_own_ok_int _ rfl _ _ 77 rfl 9 3 .i64 lawStr Tryz.underlying77 Tryz.underlying3 (zeroInt _) b1 n1 D1 rfl o1 _ _ rfl kk1 ?_; intro c hat hwc; rw [H1.out]; obtain rfl := HC.out c hat)
      go_ret2
      exact ⟨_, rfl, FIN.out, FB.out⟩
  · rw [if_neg hz, if_neg hz]
    obtain ⟨e1, e2⟩ := full_facts _ hz;obtain ⟨h1, -⟩ := k0 t.mod hz1;have FIN := hZ (own_nilN W2 w.heap.size);obtain ⟨q, hq⟩ : ∃ q, impHas m t.mod = q := ⟨_, rfl⟩;rw [hq] at h1 ⊢;have H1 := hZ h1;clear k0 k1 o1 kk1 hz x1 h1 hq;go_enter Tryz.func122, Tryz.ntmps122
    go_upto_region 1 with fail
    rw [<- HW2.out];go_wp2_with (at_lookup; refine Go.wpList_lookup_own_ok_int _ rfl _ _ 77 rfl 9 3 .i64 lawStr Tryz.underlying77 Tryz.underlying3 (zeroInt _) b0 n0 D0 rfl o0 _ _ rfl kk0 ?_; intro c hat hwc; rw [H1.out])
    go_ret2
    exact ⟨_, rfl, FIN.out, HB.out⟩
end Go.Proofs.YtcdmgcgjonndpaaGreatDoor
namespace Go.Proofs.YtcdmgcgjonndpaaGreatDoor
open Go.RowKit
open M
structure Cp1 (w : World) (t : Ty) (As : Option Addr) (n cs : Nat) (A5 : Option Addr) (c5 : Nat) (wr : World) : Prop where
  below : Below w.heap.size w wr
  box : wr.heap[w.heap.size]? = some (.cells #[.int .i64 t.kind, .string t.pkg, .int .i64 t.major, .string t.mod, .string t.name, .slice A5 t.names.length c5, .slice As n cs] 45 (0, 0))
  res : wr.heap[w.heap.size + 1]? = some (.cells #[.int .i64 0, .string ⟨#[]⟩, .int .i64 0, .string ⟨#[]⟩, .string ⟨#[]⟩, .slice none 0 0, .slice none 0 0] 45 (0, 0))
  own : wr.ownsRow (w.heap.size + 2) 9 1 (.slice A5 t.names.length c5) t.names.length (t.names.map Value.string)
end Go.Proofs.YtcdmgcgjonndpaaGreatDoor
namespace Go.Proofs.YtcdmgcgjonndpaaGreatDoor
open Go.RowKit
open Go.Sort
open M
theorem own_slice {w : World} {base : Nat} {e : TypeId} {z : Nat} {v : Value} {n : Nat} {xs : List Value} (h : w.ownsRow base e z v n xs) : ∃ A c, v = .slice A n c := by
  rcases h.2 with ⟨rfl, h0⟩ | ⟨g, cap, cur, rfl, -⟩
  · exact ⟨none, 0, by rw [h0]⟩
  · exact ⟨_, _, rfl⟩
end Go.Proofs.YtcdmgcgjonndpaaGreatDoor
