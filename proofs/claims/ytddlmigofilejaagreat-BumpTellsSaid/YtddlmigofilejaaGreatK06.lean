/-
  Several texts in one.
-/
import Derived.Test.YtddlmigofilejaaGreatK05
import Derived.Lib.AppendStr
import Derived.Lib.UnsafeStr
import Derived.Lib.OthersKept
import Derived.Laws.Externs
import Derived.Maps.OwnSet
import Derived.Maps.AppendAt
import Derived.RangeFuncNested
import Derived.RangeFuncBound
import Derived.RangeFuncCalls
import Derived.RangeFuncLeaves
import Derived.Shelf.Abstract
import Derived.Shelf.RegionOpen
import Derived.OwnWalkIn
import Derived.TacticsInMore
import Derived.LoopNIn
import Derived.LoopIn
import Derived.Maps.OwnIn
import Derived.Deep.Quiet
set_option maxRecDepth 100000
set_option maxHeartbeats 16000000
namespace Go.Proofs.YtddlmigofilejaaGreat
open Go.RowKit
open M
theorem formed_any (t : Ty) (v : Value) (w : World) (hv : TyV w v t) :
  Calls Tryz.prog 142 #[v] w fun e w' => e = .returned (.bool (formT t)) /\ Below w.heap.size w w' := by
 have HV := hZ hv
 obtain ⟨l, rfl, hT⟩ := hv
 obtain ⟨An, cn, As, cs, rfl, zp, zm, za, hzn, hz, hN, -⟩ := hT.parts
 have HNM := hZ hN
 clear hT hN
 have HF := hZ (formT_w t)
 generalize hn : t.subs.length = n at hz HF HV
 generalize hq : t.names.length = q at hzn HF HV
 have HQ := hZ hq
 clear hn hq
 by_cases hx : t.kind = 1
 ·skip
  have b1 : (t.kind == 1) = true := by rw [hx]; rfl
  by_cases n0 : n = 0
  ·have n0i : (((n : Nat) : Int) == 0) = true := by simp; omega
   by_cases q0 : q = 0
   ·have q0i : (((q : Nat) : Int) == 0) = true := by simp; omega
    rcases hid_or (noMore t) with um | um
    ·skip
     have R : Hid (formT t = false) := hZ (by
      rw [HF.out];unfold formW
      simp [hx, um.out])
     clear HF;clear hx n0 q0;as_aux_lemma =>
     rw [R.out];clear R;go_enter Tryz.func142, Tryz.ntmps142
     go_wp2_with fail
     go_quiet (fail)
     go_wp2_with fail
     refine (unnamed_any t _ _ (HV.out.below (below_drewN (below_new (Below.refl _ _) _) _))).mono ?_; rintro e w0 ⟨rfl, hb0⟩; rw [um.out]
     go_wp2_with fail
     go_ret;exact ⟨rfl, (below_drewN (below_new (Below.refl _ _) _) _).trans (hb0.mono (by simp))⟩
    ·skip
     have R : Hid (formT t = true) := hZ (by
      rw [HF.out];unfold formW
      simp [hx, n0, q0, um.out])
     clear HF;clear hx n0 q0;as_aux_lemma =>
     rw [R.out];clear R;go_enter Tryz.func142, Tryz.ntmps142
     go_wp2_with fail
     go_quiet (fail)
     go_wp2_with fail
     refine (unnamed_any t _ _ (HV.out.below (below_drewN (below_new (Below.refl _ _) _) _))).mono ?_; rintro e w0 ⟨rfl, hb0⟩; rw [um.out]
     go_wp2_with fail
     go_ret;exact ⟨rfl, (below_drewN (below_new (Below.refl _ _) _) _).trans (hb0.mono (by simp))⟩
   ·have q0i : (((q : Nat) : Int) == 0) = false := by simp; omega
    have R : Hid (formT t = false) := hZ (by
     rw [HF.out];unfold formW
     simp [hx, q0])
    clear HF;clear hx n0 q0;as_aux_lemma =>
    rw [R.out];clear R;go_enter Tryz.func142, Tryz.ntmps142
    go_wp2_with fail
    go_quiet (fail)
    go_wp2_with fail
    go_ret;exact ⟨rfl, below_drewN (below_new (Below.refl _ _) _) _⟩
  ·have n0i : (((n : Nat) : Int) == 0) = false := by simp; omega
   have R : Hid (formT t = false) := hZ (by
    rw [HF.out];unfold formW
    simp [hx, n0])
   clear HF;clear hx n0;as_aux_lemma =>
   rw [R.out];clear R;go_enter Tryz.func142, Tryz.ntmps142
   go_wp2_with fail
   go_quiet (fail)
   go_wp2_with fail
   go_ret;exact ⟨rfl, below_drewN (below_new (Below.refl _ _) _) _⟩
 have c1 : ¬ t.kind = 1 := hx
 have d1 : (t.kind == 1) = false := by simpa using hx
 clear hx
 by_cases hx : t.kind = 2
 ·skip
  have b1 : (t.kind == 1) = false := by rw [hx]; rfl
  have b2 : (t.kind == 2) = true := by rw [hx]; rfl
  by_cases n0 : n = 0
  ·have n0i : (((n : Nat) : Int) == 0) = true := by simp; omega
   by_cases q0 : q = 0
   ·have q0i : (((q : Nat) : Int) == 0) = true := by simp; omega
    rcases hid_or (noMore t) with um | um
    ·skip
     have R : Hid (formT t = false) := hZ (by
      rw [HF.out];unfold formW
      simp [hx, um.out])
     clear HF;clear hx n0 q0;as_aux_lemma =>
     rw [R.out];clear R;go_enter Tryz.func142, Tryz.ntmps142
     go_wp2_with fail
     go_quiet (fail)
     go_wp2_with fail
     refine (unnamed_any t _ _ (HV.out.below (below_drewN (below_new (Below.refl _ _) _) _))).mono ?_; rintro e w0 ⟨rfl, hb0⟩; rw [um.out]
     go_wp2_with fail
     go_ret;exact ⟨rfl, (below_drewN (below_new (Below.refl _ _) _) _).trans (hb0.mono (by simp))⟩
    ·skip
     have R : Hid (formT t = true) := hZ (by
      rw [HF.out];unfold formW
      simp [hx, n0, q0, um.out])
     clear HF;clear hx n0 q0;as_aux_lemma =>
     rw [R.out];clear R;go_enter Tryz.func142, Tryz.ntmps142
     go_wp2_with fail
     go_quiet (fail)
     go_wp2_with fail
     refine (unnamed_any t _ _ (HV.out.below (below_drewN (below_new (Below.refl _ _) _) _))).mono ?_; rintro e w0 ⟨rfl, hb0⟩; rw [um.out]
     go_wp2_with fail
     go_ret;exact ⟨rfl, (below_drewN (below_new (Below.refl _ _) _) _).trans (hb0.mono (by simp))⟩
   ·have q0i : (((q : Nat) : Int) == 0) = false := by simp; omega
    have R : Hid (formT t = false) := hZ (by
     rw [HF.out];unfold formW
     simp [hx, q0])
    clear HF;clear hx n0 q0;as_aux_lemma =>
    rw [R.out];clear R;go_enter Tryz.func142, Tryz.ntmps142
    go_wp2_with fail
    go_quiet (fail)
    go_wp2_with fail
    go_ret;exact ⟨rfl, below_drewN (below_new (Below.refl _ _) _) _⟩
  ·have n0i : (((n : Nat) : Int) == 0) = false := by simp; omega
   have R : Hid (formT t = false) := hZ (by
    rw [HF.out];unfold formW
    simp [hx, n0])
   clear HF;clear hx n0;as_aux_lemma =>
   rw [R.out];clear R;go_enter Tryz.func142, Tryz.ntmps142
   go_wp2_with fail
   go_quiet (fail)
   go_wp2_with fail
   go_ret;exact ⟨rfl, below_drewN (below_new (Below.refl _ _) _) _⟩
 have c2 : ¬ t.kind = 2 := hx
 have d2 : (t.kind == 2) = false := by simpa using hx
 clear hx
 by_cases hx : t.kind = 3
 ·skip
  have b1 : (t.kind == 1) = false := by rw [hx]; rfl
  have b2 : (t.kind == 2) = false := by rw [hx]; rfl
  have b3 : (t.kind == 3) = true := by rw [hx]; rfl
  by_cases n0 : n = 0
  ·have n0i : (((n : Nat) : Int) == 0) = true := by simp; omega
   by_cases q0 : q = 0
   ·have q0i : (((q : Nat) : Int) == 0) = true := by simp; omega
    rcases hid_or (noMore t) with um | um
    ·skip
     have R : Hid (formT t = false) := hZ (by
      rw [HF.out];unfold formW
      simp [hx, um.out])
     clear HF;clear hx n0 q0;as_aux_lemma =>
     rw [R.out];clear R;go_enter Tryz.func142, Tryz.ntmps142
     go_wp2_with fail
     go_quiet (fail)
     go_wp2_with fail
     refine (unnamed_any t _ _ (HV.out.below (below_drewN (below_new (Below.refl _ _) _) _))).mono ?_; rintro e w0 ⟨rfl, hb0⟩; rw [um.out]
     go_wp2_with fail
     go_ret;exact ⟨rfl, (below_drewN (below_new (Below.refl _ _) _) _).trans (hb0.mono (by simp))⟩
    ·skip
     have R : Hid (formT t = true) := hZ (by
      rw [HF.out];unfold formW
      simp [hx, n0, q0, um.out])
     clear HF;clear hx n0 q0;as_aux_lemma =>
     rw [R.out];clear R;go_enter Tryz.func142, Tryz.ntmps142
     go_wp2_with fail
     go_quiet (fail)
     go_wp2_with fail
     refine (unnamed_any t _ _ (HV.out.below (below_drewN (below_new (Below.refl _ _) _) _))).mono ?_; rintro e w0 ⟨rfl, hb0⟩; rw [um.out]
     go_wp2_with fail
     go_ret;exact ⟨rfl, (below_drewN (below_new (Below.refl _ _) _) _).trans (hb0.mono (by simp))⟩
   ·have q0i : (((q : Nat) : Int) == 0) = false := by simp; omega
    have R : Hid (formT t = false) := hZ (by
     rw [HF.out];unfold formW
     simp [hx, q0])
    clear HF;clear hx n0 q0;as_aux_lemma =>
    rw [R.out];clear R;go_enter Tryz.func142, Tryz.ntmps142
    go_wp2_with fail
    go_quiet (fail)
    go_wp2_with fail
    go_ret;exact ⟨rfl, below_drewN (below_new (Below.refl _ _) _) _⟩
  ·have n0i : (((n : Nat) : Int) == 0) = false := by simp; omega
   have R : Hid (formT t = false) := hZ (by
    rw [HF.out];unfold formW
    simp [hx, n0])
   clear HF;clear hx n0;as_aux_lemma =>
   rw [R.out];clear R;go_enter Tryz.func142, Tryz.ntmps142
   go_wp2_with fail
   go_quiet (fail)
   go_wp2_with fail
   go_ret;exact ⟨rfl, below_drewN (below_new (Below.refl _ _) _) _⟩
 have c3 : ¬ t.kind = 3 := hx
 have d3 : (t.kind == 3) = false := by simpa using hx
 clear hx
 by_cases hx : t.kind = 4
 ·skip
  have b1 : (t.kind == 1) = false := by rw [hx]; rfl
  have b2 : (t.kind == 2) = false := by rw [hx]; rfl
  have b3 : (t.kind == 3) = false := by rw [hx]; rfl
  have b4 : (t.kind == 4) = true := by rw [hx]; rfl
  by_cases n1 : n = 1
  ·have n1i : (((n : Nat) : Int) == 1) = true := by simp; omega
   by_cases q0 : q = 0
   ·have q0i : (((q : Nat) : Int) == 0) = true := by simp; omega
    rcases hid_or (noMore t) with um | um
    ·skip
     have R : Hid (formT t = false) := hZ (by
      rw [HF.out];unfold formW
      simp [hx, um.out])
     clear HF;clear hx q0 n1;as_aux_lemma =>
     rw [R.out];clear R;go_enter Tryz.func142, Tryz.ntmps142
     go_wp2_with fail
     go_quiet (fail)
     go_wp2_with fail
     refine (unnamed_any t _ _ (HV.out.below (below_drewN (below_new (Below.refl _ _) _) _))).mono ?_; rintro e w0 ⟨rfl, hb0⟩; rw [um.out]
     go_wp2_with fail
     go_ret;exact ⟨rfl, (below_drewN (below_new (Below.refl _ _) _) _).trans (hb0.mono (by simp))⟩
    ·skip
     have R : Hid (formT t = true) := hZ (by
      rw [HF.out];unfold formW
      simp [hx, n1, q0, um.out])
     clear HF;clear hx q0 n1;as_aux_lemma =>
     rw [R.out];clear R;go_enter Tryz.func142, Tryz.ntmps142
     go_wp2_with fail
     go_quiet (fail)
     go_wp2_with fail
     refine (unnamed_any t _ _ (HV.out.below (below_drewN (below_new (Below.refl _ _) _) _))).mono ?_; rintro e w0 ⟨rfl, hb0⟩; rw [um.out]
     go_wp2_with fail
     go_ret;exact ⟨rfl, (below_drewN (below_new (Below.refl _ _) _) _).trans (hb0.mono (by simp))⟩
   ·have q0i : (((q : Nat) : Int) == 0) = false := by simp; omega
    have R : Hid (formT t = false) := hZ (by
     rw [HF.out];unfold formW
     simp [hx, q0])
    clear HF;clear hx q0 n1;as_aux_lemma =>
    rw [R.out];clear R;go_enter Tryz.func142, Tryz.ntmps142
    go_wp2_with fail
    go_quiet (fail)
    go_wp2_with fail
    go_ret;exact ⟨rfl, below_drewN (below_new (Below.refl _ _) _) _⟩
  ·have n1i : (((n : Nat) : Int) == 1) = false := by simp; omega
   have R : Hid (formT t = false) := hZ (by
    rw [HF.out];unfold formW
    simp [hx, n1])
   clear HF;clear hx n1;as_aux_lemma =>
   rw [R.out];clear R;go_enter Tryz.func142, Tryz.ntmps142
   go_wp2_with fail
   go_quiet (fail)
   go_wp2_with fail
   go_ret;exact ⟨rfl, below_drewN (below_new (Below.refl _ _) _) _⟩
 have c4 : ¬ t.kind = 4 := hx
 have d4 : (t.kind == 4) = false := by simpa using hx
 clear hx
 by_cases hx : t.kind = 5
 ·skip
  have b1 : (t.kind == 1) = false := by rw [hx]; rfl
  have b2 : (t.kind == 2) = false := by rw [hx]; rfl
  have b3 : (t.kind == 3) = false := by rw [hx]; rfl
  have b4 : (t.kind == 4) = false := by rw [hx]; rfl
  have b5 : (t.kind == 5) = true := by rw [hx]; rfl
  by_cases l20 : n <= 20
  ·have l20i : ((n : Nat) : Int) <= 20 := by omega
   by_cases qn : q = n
   ·have qni : (((q : Nat) : Int) == ((n : Nat) : Int)) = true := by simp; omega
    rcases hid_or (risingB smallB t.names) with rs | rs
    ·skip
     have R : Hid (formT t = false) := hZ (by
      rw [HF.out];unfold formW
      simp [hx, rs.out])
     clear HF;clear hx qn;as_aux_lemma =>
     rw [R.out];clear R;go_enter Tryz.func142, Tryz.ntmps142
     go_wp2_with fail
     go_quiet (fail)
     go_wp2_with fail
     refine (rising_small An cn _ t.names _ HQ.out hzn (HNM.out.below (below_drewN (below_new (Below.refl _ _) _) _))).mono ?_; rintro e w0 ⟨rfl, rfl⟩; rw [rs.out]
     go_wp2_with fail
     go_ret;exact ⟨rfl, below_drewN (below_new (Below.refl _ _) _) _⟩
    ·skip
     rcases hid_or (noMore t) with um | um
     ·skip
      have R : Hid (formT t = false) := hZ (by
       rw [HF.out];unfold formW
       simp [hx, um.out])
      clear HF;clear hx qn;as_aux_lemma =>
      rw [R.out];clear R;go_enter Tryz.func142, Tryz.ntmps142
      go_wp2_with fail
      go_quiet (fail)
      go_wp2_with fail
      refine (rising_small An cn _ t.names _ HQ.out hzn (HNM.out.below (below_drewN (below_new (Below.refl _ _) _) _))).mono ?_; rintro e w0 ⟨rfl, rfl⟩; rw [rs.out]
      go_wp2_with fail
      refine (unnamed_any t _ _ (HV.out.below (below_drewN (below_new (Below.refl _ _) _) _))).mono ?_; rintro e w1 ⟨rfl, hb1⟩; rw [um.out]
      go_wp2_with fail
      go_ret;exact ⟨rfl, (below_drewN (below_new (Below.refl _ _) _) _).trans (hb1.mono (by simp))⟩
     ·skip
      have R : Hid (formT t = true) := hZ (by
       rw [HF.out];unfold formW
       simp [hx, l20, qn, rs.out, um.out])
      clear HF;clear hx qn;as_aux_lemma =>
      rw [R.out];clear R;go_enter Tryz.func142, Tryz.ntmps142
      go_wp2_with fail
      go_quiet (fail)
      go_wp2_with fail
      refine (rising_small An cn _ t.names _ HQ.out hzn (HNM.out.below (below_drewN (below_new (Below.refl _ _) _) _))).mono ?_; rintro e w0 ⟨rfl, rfl⟩; rw [rs.out]
      go_wp2_with fail
      refine (unnamed_any t _ _ (HV.out.below (below_drewN (below_new (Below.refl _ _) _) _))).mono ?_; rintro e w1 ⟨rfl, hb1⟩; rw [um.out]
      go_wp2_with fail
      go_ret;exact ⟨rfl, (below_drewN (below_new (Below.refl _ _) _) _).trans (hb1.mono (by simp))⟩
   ·have qni : (((q : Nat) : Int) == ((n : Nat) : Int)) = false := by simp; omega
    have R : Hid (formT t = false) := hZ (by
     rw [HF.out];unfold formW
     simp [hx, qn])
    clear HF;clear hx qn;as_aux_lemma =>
    rw [R.out];clear R;go_enter Tryz.func142, Tryz.ntmps142
    go_wp2_with fail
    go_quiet (fail)
    go_wp2_with fail
    go_ret;exact ⟨rfl, below_drewN (below_new (Below.refl _ _) _) _⟩
  ·have l20i : ¬ (((n : Nat) : Int) <= 20) := by omega
   have R : Hid (formT t = false) := hZ (by
    rw [HF.out];unfold formW
    simp [hx, l20])
   clear HF;clear hx;as_aux_lemma =>
   rw [R.out];clear R;go_enter Tryz.func142, Tryz.ntmps142
   go_wp2_with fail
   go_quiet (fail)
   go_wp2_with fail
   go_ret;exact ⟨rfl, below_drewN (below_new (Below.refl _ _) _) _⟩
 have c5 : ¬ t.kind = 5 := hx
 have d5 : (t.kind == 5) = false := by simpa using hx
 clear hx
 by_cases hx : t.kind = 6
 ·skip
  have b1 : (t.kind == 1) = false := by rw [hx]; rfl
  have b2 : (t.kind == 2) = false := by rw [hx]; rfl
  have b3 : (t.kind == 3) = false := by rw [hx]; rfl
  have b4 : (t.kind == 4) = false := by rw [hx]; rfl
  have b5 : (t.kind == 5) = false := by rw [hx]; rfl
  have b6 : (t.kind == 6) = true := by rw [hx]; rfl
  by_cases l1 : 1 <= n
  ·have l1i : (1 : Int) <= ((n : Nat) : Int) := by omega
   by_cases l20 : n <= 20
   ·have l20i : ((n : Nat) : Int) <= 20 := by omega
    by_cases qn : q = n
    ·have qni : (((q : Nat) : Int) == ((n : Nat) : Int)) = true := by simp; omega
     rcases hid_or (risingB greatB t.names) with rs | rs
     ·skip
      have R : Hid (formT t = false) := hZ (by
       rw [HF.out];unfold formW
       simp [hx, rs.out])
      clear HF;clear hx qn;as_aux_lemma =>
      rw [R.out];clear R;go_enter Tryz.func142, Tryz.ntmps142
      go_wp2_with fail
      go_quiet (fail)
      go_wp2_with fail
      refine (rising_great An cn _ t.names _ HQ.out hzn (HNM.out.below (below_drewN (below_new (Below.refl _ _) _) _))).mono ?_; rintro e w0 ⟨rfl, rfl⟩; rw [rs.out]
      go_wp2_with fail
      go_ret;exact ⟨rfl, below_drewN (below_new (Below.refl _ _) _) _⟩
     ·skip
      rcases hid_or (noMore t) with um | um
      ·skip
       have R : Hid (formT t = false) := hZ (by
        rw [HF.out];unfold formW
        simp [hx, um.out])
       clear HF;clear hx qn;as_aux_lemma =>
       rw [R.out];clear R;go_enter Tryz.func142, Tryz.ntmps142
       go_wp2_with fail
       go_quiet (fail)
       go_wp2_with fail
       refine (rising_great An cn _ t.names _ HQ.out hzn (HNM.out.below (below_drewN (below_new (Below.refl _ _) _) _))).mono ?_; rintro e w0 ⟨rfl, rfl⟩; rw [rs.out]
       go_wp2_with fail
       refine (unnamed_any t _ _ (HV.out.below (below_drewN (below_new (Below.refl _ _) _) _))).mono ?_; rintro e w1 ⟨rfl, hb1⟩; rw [um.out]
       go_wp2_with fail
       go_ret;exact ⟨rfl, (below_drewN (below_new (Below.refl _ _) _) _).trans (hb1.mono (by simp))⟩
      ·skip
       have R : Hid (formT t = true) := hZ (by
        rw [HF.out];unfold formW
        simp [hx, l1, l20, qn, rs.out, um.out])
       clear HF;clear hx qn;as_aux_lemma =>
       rw [R.out];clear R;go_enter Tryz.func142, Tryz.ntmps142
       go_wp2_with fail
       go_quiet (fail)
       go_wp2_with fail
       refine (rising_great An cn _ t.names _ HQ.out hzn (HNM.out.below (below_drewN (below_new (Below.refl _ _) _) _))).mono ?_; rintro e w0 ⟨rfl, rfl⟩; rw [rs.out]
       go_wp2_with fail
       refine (unnamed_any t _ _ (HV.out.below (below_drewN (below_new (Below.refl _ _) _) _))).mono ?_; rintro e w1 ⟨rfl, hb1⟩; rw [um.out]
       go_wp2_with fail
       go_ret;exact ⟨rfl, (below_drewN (below_new (Below.refl _ _) _) _).trans (hb1.mono (by simp))⟩
    ·have qni : (((q : Nat) : Int) == ((n : Nat) : Int)) = false := by simp; omega
     have R : Hid (formT t = false) := hZ (by
      rw [HF.out];unfold formW
      simp [hx, qn])
     clear HF;clear hx qn;as_aux_lemma =>
     rw [R.out];clear R;go_enter Tryz.func142, Tryz.ntmps142
     go_wp2_with fail
     go_quiet (fail)
     go_wp2_with fail
     go_ret;exact ⟨rfl, below_drewN (below_new (Below.refl _ _) _) _⟩
   ·have l20i : ¬ (((n : Nat) : Int) <= 20) := by omega
    have R : Hid (formT t = false) := hZ (by
     rw [HF.out];unfold formW
     simp [hx, l20])
    clear HF;clear hx;as_aux_lemma =>
    rw [R.out];clear R;go_enter Tryz.func142, Tryz.ntmps142
    go_wp2_with fail
    go_quiet (fail)
    go_wp2_with fail
    go_ret;exact ⟨rfl, below_drewN (below_new (Below.refl _ _) _) _⟩
  ·have l1i : ¬ ((1 : Int) <= ((n : Nat) : Int)) := by omega
   have R : Hid (formT t = false) := hZ (by
    rw [HF.out];unfold formW
    simp [hx, l1])
   clear HF;clear hx;as_aux_lemma =>
   rw [R.out];clear R;go_enter Tryz.func142, Tryz.ntmps142
   go_wp2_with fail
   go_quiet (fail)
   go_wp2_with fail
   go_ret;exact ⟨rfl, below_drewN (below_new (Below.refl _ _) _) _⟩
 have c6 : ¬ t.kind = 6 := hx
 have d6 : (t.kind == 6) = false := by simpa using hx
 clear hx
 by_cases hx : t.kind = 7
 ·skip
  have b1 : (t.kind == 1) = false := by rw [hx]; rfl
  have b2 : (t.kind == 2) = false := by rw [hx]; rfl
  have b3 : (t.kind == 3) = false := by rw [hx]; rfl
  have b4 : (t.kind == 4) = false := by rw [hx]; rfl
  have b5 : (t.kind == 5) = false := by rw [hx]; rfl
  have b6 : (t.kind == 6) = false := by rw [hx]; rfl
  have b7 : (t.kind == 7) = true := by rw [hx]; rfl
  by_cases l1 : 1 <= n
  ·have l1i : (1 : Int) <= ((n : Nat) : Int) := by omega
   by_cases l20 : n <= 20
   ·have l20i : ((n : Nat) : Int) <= 20 := by omega
    by_cases q0 : q = 0
    ·have q0i : (((q : Nat) : Int) == 0) = true := by simp; omega
     rcases hid_or (noMore t) with um | um
     ·skip
      have R : Hid (formT t = false) := hZ (by
       rw [HF.out];unfold formW
       simp [hx, um.out])
      clear HF;clear hx q0;as_aux_lemma =>
      rw [R.out];clear R;go_enter Tryz.func142, Tryz.ntmps142
      go_wp2_with fail
      go_quiet (fail)
      go_wp2_with fail
      refine (unnamed_any t _ _ (HV.out.below (below_drewN (below_new (Below.refl _ _) _) _))).mono ?_; rintro e w0 ⟨rfl, hb0⟩; rw [um.out]
      go_wp2_with fail
      go_ret;exact ⟨rfl, (below_drewN (below_new (Below.refl _ _) _) _).trans (hb0.mono (by simp))⟩
     ·skip
      have R : Hid (formT t = true) := hZ (by
       rw [HF.out];unfold formW
       simp [hx, l1, l20, q0, um.out])
      clear HF;clear hx q0;as_aux_lemma =>
      rw [R.out];clear R;go_enter Tryz.func142, Tryz.ntmps142
      go_wp2_with fail
      go_quiet (fail)
      go_wp2_with fail
      refine (unnamed_any t _ _ (HV.out.below (below_drewN (below_new (Below.refl _ _) _) _))).mono ?_; rintro e w0 ⟨rfl, hb0⟩; rw [um.out]
      go_wp2_with fail
      go_ret;exact ⟨rfl, (below_drewN (below_new (Below.refl _ _) _) _).trans (hb0.mono (by simp))⟩
    ·have q0i : (((q : Nat) : Int) == 0) = false := by simp; omega
     have R : Hid (formT t = false) := hZ (by
      rw [HF.out];unfold formW
      simp [hx, q0])
     clear HF;clear hx q0;as_aux_lemma =>
     rw [R.out];clear R;go_enter Tryz.func142, Tryz.ntmps142
     go_wp2_with fail
     go_quiet (fail)
     go_wp2_with fail
     go_ret;exact ⟨rfl, below_drewN (below_new (Below.refl _ _) _) _⟩
   ·have l20i : ¬ (((n : Nat) : Int) <= 20) := by omega
    have R : Hid (formT t = false) := hZ (by
     rw [HF.out];unfold formW
     simp [hx, l20])
    clear HF;clear hx;as_aux_lemma =>
    rw [R.out];clear R;go_enter Tryz.func142, Tryz.ntmps142
    go_wp2_with fail
    go_quiet (fail)
    go_wp2_with fail
    go_ret;exact ⟨rfl, below_drewN (below_new (Below.refl _ _) _) _⟩
  ·have l1i : ¬ ((1 : Int) <= ((n : Nat) : Int)) := by omega
   have R : Hid (formT t = false) := hZ (by
    rw [HF.out];unfold formW
    simp [hx, l1])
   clear HF;clear hx;as_aux_lemma =>
   rw [R.out];clear R;go_enter Tryz.func142, Tryz.ntmps142
   go_wp2_with fail
   go_quiet (fail)
   go_wp2_with fail
   go_ret;exact ⟨rfl, below_drewN (below_new (Below.refl _ _) _) _⟩
 have c7 : ¬ t.kind = 7 := hx
 have d7 : (t.kind == 7) = false := by simpa using hx
 clear hx
 by_cases hx : t.kind = 8
 ·skip
  have b1 : (t.kind == 1) = false := by rw [hx]; rfl
  have b2 : (t.kind == 2) = false := by rw [hx]; rfl
  have b3 : (t.kind == 3) = false := by rw [hx]; rfl
  have b4 : (t.kind == 4) = false := by rw [hx]; rfl
  have b5 : (t.kind == 5) = false := by rw [hx]; rfl
  have b6 : (t.kind == 6) = false := by rw [hx]; rfl
  have b7 : (t.kind == 7) = false := by rw [hx]; rfl
  have b8 : (t.kind == 8) = true := by rw [hx]; rfl
  by_cases n0 : n = 0
  ·have n0i : (((n : Nat) : Int) == 0) = true := by simp; omega
   by_cases q0 : q = 0
   ·have q0i : (((q : Nat) : Int) == 0) = true := by simp; omega
    rcases hid_or (localOk t) with lo | lo
    ·skip
     have R : Hid (formT t = false) := hZ (by
      rw [HF.out];unfold formW
      simp [hx, lo.out])
     clear HF;clear hx n0 q0;as_aux_lemma =>
     rw [R.out];clear R;go_enter Tryz.func142, Tryz.ntmps142
     go_wp2_with fail
     go_quiet (fail)
     go_wp2_with fail
     refine (mayLocal_any t _ _ (HV.out.below (below_drewN (below_new (Below.refl _ _) _) _))).mono ?_; rintro e w0 ⟨rfl, hb0⟩; rw [lo.out]
     go_wp2_with fail
     go_ret;exact ⟨rfl, (below_drewN (below_new (Below.refl _ _) _) _).trans (hb0.mono (by simp))⟩
    ·skip
     have R : Hid (formT t = true) := hZ (by
      rw [HF.out];unfold formW
      simp [hx, n0, q0, lo.out])
     clear HF;clear hx n0 q0;as_aux_lemma =>
     rw [R.out];clear R;go_enter Tryz.func142, Tryz.ntmps142
     go_wp2_with fail
     go_quiet (fail)
     go_wp2_with fail
     refine (mayLocal_any t _ _ (HV.out.below (below_drewN (below_new (Below.refl _ _) _) _))).mono ?_; rintro e w0 ⟨rfl, hb0⟩; rw [lo.out]
     go_wp2_with fail
     go_ret;exact ⟨rfl, (below_drewN (below_new (Below.refl _ _) _) _).trans (hb0.mono (by simp))⟩
   ·have q0i : (((q : Nat) : Int) == 0) = false := by simp; omega
    have R : Hid (formT t = false) := hZ (by
     rw [HF.out];unfold formW
     simp [hx, q0])
    clear HF;clear hx n0 q0;as_aux_lemma =>
    rw [R.out];clear R;go_enter Tryz.func142, Tryz.ntmps142
    go_wp2_with fail
    go_quiet (fail)
    go_wp2_with fail
    go_ret;exact ⟨rfl, below_drewN (below_new (Below.refl _ _) _) _⟩
  ·have n0i : (((n : Nat) : Int) == 0) = false := by simp; omega
   have R : Hid (formT t = false) := hZ (by
    rw [HF.out];unfold formW
    simp [hx, n0])
   clear HF;clear hx n0;as_aux_lemma =>
   rw [R.out];clear R;go_enter Tryz.func142, Tryz.ntmps142
   go_wp2_with fail
   go_quiet (fail)
   go_wp2_with fail
   go_ret;exact ⟨rfl, below_drewN (below_new (Below.refl _ _) _) _⟩
 have c8 : ¬ t.kind = 8 := hx
 have d8 : (t.kind == 8) = false := by simpa using hx
 clear hx
 by_cases hx : t.kind = 9
 ·skip
  have b1 : (t.kind == 1) = false := by rw [hx]; rfl
  have b2 : (t.kind == 2) = false := by rw [hx]; rfl
  have b3 : (t.kind == 3) = false := by rw [hx]; rfl
  have b4 : (t.kind == 4) = false := by rw [hx]; rfl
  have b5 : (t.kind == 5) = false := by rw [hx]; rfl
  have b6 : (t.kind == 6) = false := by rw [hx]; rfl
  have b7 : (t.kind == 7) = false := by rw [hx]; rfl
  have b8 : (t.kind == 8) = false := by rw [hx]; rfl
  have b9 : (t.kind == 9) = true := by rw [hx]; rfl
  by_cases n0 : n = 0
  ·have n0i : (((n : Nat) : Int) == 0) = true := by simp; omega
   by_cases q0 : q = 0
   ·have q0i : (((q : Nat) : Int) == 0) = true := by simp; omega
    rcases hid_or (openOk t) with lo | lo
    ·skip
     have R : Hid (formT t = false) := hZ (by
      rw [HF.out];unfold formW
      simp [hx, lo.out])
     clear HF;clear hx n0 q0;as_aux_lemma =>
     rw [R.out];clear R;go_enter Tryz.func142, Tryz.ntmps142
     go_wp2_with fail
     go_quiet (fail)
     go_wp2_with fail
     refine (mayOpen_any t _ _ (HV.out.below (below_drewN (below_new (Below.refl _ _) _) _))).mono ?_; rintro e w0 ⟨rfl, hb0⟩; rw [lo.out]
     go_wp2_with fail
     go_ret;exact ⟨rfl, (below_drewN (below_new (Below.refl _ _) _) _).trans (hb0.mono (by simp))⟩
    ·skip
     have R : Hid (formT t = true) := hZ (by
      rw [HF.out];unfold formW
      simp [hx, n0, q0, lo.out])
     clear HF;clear hx n0 q0;as_aux_lemma =>
     rw [R.out];clear R;go_enter Tryz.func142, Tryz.ntmps142
     go_wp2_with fail
     go_quiet (fail)
     go_wp2_with fail
     refine (mayOpen_any t _ _ (HV.out.below (below_drewN (below_new (Below.refl _ _) _) _))).mono ?_; rintro e w0 ⟨rfl, hb0⟩; rw [lo.out]
     go_wp2_with fail
     go_ret;exact ⟨rfl, (below_drewN (below_new (Below.refl _ _) _) _).trans (hb0.mono (by simp))⟩
   ·have q0i : (((q : Nat) : Int) == 0) = false := by simp; omega
    have R : Hid (formT t = false) := hZ (by
     rw [HF.out];unfold formW
     simp [hx, q0])
    clear HF;clear hx n0 q0;as_aux_lemma =>
    rw [R.out];clear R;go_enter Tryz.func142, Tryz.ntmps142
    go_wp2_with fail
    go_quiet (fail)
    go_wp2_with fail
    go_ret;exact ⟨rfl, below_drewN (below_new (Below.refl _ _) _) _⟩
  ·have n0i : (((n : Nat) : Int) == 0) = false := by simp; omega
   have R : Hid (formT t = false) := hZ (by
    rw [HF.out];unfold formW
    simp [hx, n0])
   clear HF;clear hx n0;as_aux_lemma =>
   rw [R.out];clear R;go_enter Tryz.func142, Tryz.ntmps142
   go_wp2_with fail
   go_quiet (fail)
   go_wp2_with fail
   go_ret;exact ⟨rfl, below_drewN (below_new (Below.refl _ _) _) _⟩
 have c9 : ¬ t.kind = 9 := hx
 have d9 : (t.kind == 9) = false := by simpa using hx
 clear hx
 have R : Hid (formT t = false) := hZ (by
  rw [HF.out];unfold formW
  simp [c1, c2, c3, c4, c5, c6, c7, c8, c9])
 clear HF
 as_aux_lemma =>
 rw [R.out]
 clear R
 go_enter Tryz.func142, Tryz.ntmps142
 go_wp2_with fail
 go_quiet (fail)
 go_wp2_with fail
 go_ret
 exact ⟨rfl, below_drewN (below_new (Below.refl _ _) _) _⟩
def Cnt (B : Nat) (c : Int) (w : World) : Prop := w.heap[B]? = some (.cells #[.int .i64 c] 3 (0, 0))
theorem Cnt.lt {B : Nat} {c : Int} {w : World} (h : Cnt B c w) : B < w.heap.size := (Array.getElem?_eq_some_iff.1 h).1
theorem Cnt.cell {B : Nat} {c : Int} {w : World} (h : Cnt B c w) : w.cell? ⟨B, 0, none⟩ = some (.int .i64 c) := cZ h 0
theorem Cnt.frozen {B : Nat} {c : Int} {w : World} (h : Cnt B c w) : w.frozen? ⟨B, 0, none⟩ = false := Lib.frozen_of_heap h 0
theorem Cnt.alloc {B : Nat} {c : Int} {w : World} (h : Cnt B c w) (o : Obj) : Cnt B c (w.alloc o) := (Lib.alloc_old w o B h.lt).trans h
theorem Cnt.put {B : Nat} {c : Int} {w : World} (h : Cnt B c w) (d : Int) : Cnt B d (w.setCell ⟨B, 0, none⟩ (.int .i64 d)) := one_setCell h
theorem Cnt.below {B : Nat} {c : Int} {w w' : World} (h : Cnt B c w) (hb : Below w.heap.size w w') : Cnt B c w' := (hb.block B h.lt).trans h
theorem count_any (N : Nat) : ∀ (t : Ty), many t <= N -> ∀ (d c : Int), 0 <= d -> d <= 33 -> 0 <= c -> c <= 500 -> ∀ (B : Nat) (v : Value) (W w : World), TyV W v t -> Below W.heap.size W w -> W.heap.size <= B -> Cnt B c w ->
  Calls Tryz.prog 112 #[v, .int .i64 d, .pointer (some ⟨B, 0, none⟩)] w fun e w' => e = .returned (.bool (countT t d c).1) /\ Cnt B (countT t d c).2 w' /\ Below B w w' := by
 induction N with
 | zero => intro t h; have := many_pos t; omega
 | succ N ih =>
  intro t hN d c hd0 hd hc0 hc B v W w hv hW hWB hC;have HV := hZ hv;obtain ⟨l, rfl, hT⟩ := hv;obtain ⟨An, cn, As, cs, rfl, -, -, -, hzn, hz, -, hS⟩ := hT.parts;have HS := hZ hS;clear hT hS;have HE := hZ (countT_eq t d c);generalize hn : t.subs.length = n at hz HV
  have HN := hZ hn;clear hn;have hBl := hC.lt;obtain ⟨w2, hw2⟩ : ∃ w2, w2 = (w.setCell ⟨B, 0, none⟩ (.int .i64 (c + 1))).alloc (.cells #[.int .i64 t.kind, .string t.pkg, .int .i64 t.major, .string t.mod, .string t.name, .slice An t.names.length cn, .slice As n cs] 50) := ⟨_, rfl⟩;have hss : (w.setCell ⟨B, 0, none⟩ (.int .i64 (c + 1))).heap.size = w.heap.size := by simp
  have HC2 : Hid (Cnt B (c + 1) w2) := hZ (by rw [hw2]; exact (hC.put (c + 1)).alloc _);have HBW : Hid (Below B w w2) := hZ (by rw [hw2]; exact ((Below.refl B w).setCell (p := ⟨B, 0, none⟩) (Nat.le_refl _) _).alloc (by omega) _);have HWW0 := hZ hW;have HWW : Hid (Below W.heap.size W w2) := hZ (hW.trans (HBW.out.mono hWB));have hsz : w.heap.size < w2.heap.size := by rw [hw2]; simp
  have HX : Hid (∀ i v, (#[.int .i64 t.kind, .string t.pkg, .int .i64 t.major, .string t.mod, .string t.name, .slice An t.names.length cn, .slice As n cs] : Array Value)[i]? = some v -> w2.cell? ⟨w.heap.size, i, none⟩ = some v) := hZ (fun i v hv => by
   rw [cZ (cs := #[.int .i64 t.kind, .string t.pkg, .int .i64 t.major, .string t.mod, .string t.name, .slice An t.names.length cn, .slice As n cs]) (T := 50) (fr := (0, 0))]
   ·exact hv
   ·rw [hw2, <- hss]
    exact heap_alloc_new _ _)
  have c0 := hC.cell;have f0 := hC.frozen;have HW2 := hZ hw2;clear hW hC hw2 hss;go_enter Tryz.func112, Tryz.ntmps112
  go_upto_region 2 with fail
  rw [<- HW2.out];clear c0 f0 HW2;have c2 := HC2.out.cell;have x0 := HX.out 0 _ rfl;have x1 := HX.out 1 _ rfl;have x2 := HX.out 2 _ rfl;have x3 := HX.out 3 _ rfl;have x4 := HX.out 4 _ rfl;have x5 := HX.out 5 _ rfl;have x6 := HX.out 6 _ rfl;by_cases g1 : 500 < c + 1
  ·have R : Hid (countT t d c = (false, c + 1)) := hZ (by rw [HE.out, if_pos (.inl g1)])
   go_wp2_with fail
   go_ret;exact ⟨ret_bool (by rw [R.out]), by rw [R.out]; exact HC2.out, HBW.out⟩
  by_cases g2 : 32 < d
  ·have R : Hid (countT t d c = (false, c + 1)) := hZ (by rw [HE.out, if_pos (.inr (.inl g2))])
   go_wp2_with fail
   go_ret;exact ⟨ret_bool (by rw [R.out]), by rw [R.out]; exact HC2.out, HBW.out⟩
  rcases hid_or (formT t) with hf | hf
  ·have R : Hid (countT t d c = (false, c + 1)) := hZ (by rw [HE.out, if_pos (.inr (.inr hf.out))])
   go_wp2_with fail
   refine (formed_any t _ _ (HV.out.below HWW.out)).mono ?_; rintro e w3 ⟨rfl, hb3⟩; rw [hf.out]
   go_wp2_with fail
   go_ret;exact ⟨ret_bool (by rw [R.out]), by rw [R.out]; exact HC2.out.below hb3, HBW.out.trans (hb3.mono (by omega))⟩
  have R : Hid (countT t d c = countL t.subs (d + 1) (c + 1)) := hZ (by
   rw [HE.out, if_neg];rintro (x | x | x)
   ·exact g1 x
   ·exact g2 x
   ·rw [hf.out] at x; cases x)
  go_wp2_with fail
  refine (formed_any t _ _ (HV.out.below HWW.out)).mono ?_; rintro e w3 ⟨rfl, hb3⟩; rw [hf.out]
  have y6 : w3.cell? ⟨w.heap.size, 6, none⟩ = some (.slice As n cs) := (hb3.cell (p := ⟨w.heap.size, 6, none⟩) hsz).trans x6;have HC3 := hZ (HC2.out.below hb3);have HB3 := hZ (HBW.out.trans (hb3.mono (by omega)));have hd1 : d <= 32 := by omega
  have hc1 : c + 1 <= 500 := by omega
  clear x0 x1 x2 x3 x4 x5 x6 c2 hb3 HX HC2 HBW g1 g2 HE hsz;go_wp2_with fail
  go_loopw [30] (fun i wr => ∃ (k : Nat) (ck : Int), k <= n /\ i = .int .i64 k /\ 0 <= ck /\ ck <= 500 /\ Hid (countT t d c = countL (t.subs.drop k) (d + 1) ck) /\ Hid (Cnt B ck wr) /\ Hid (Below B w wr)) (fun i _ => n - (intOf i).toNat)
  case atStart => exact ⟨0, c + 1, by omega, rfl, by omega, by omega, R, HC3, HB3⟩
  case round =>
   obtain ⟨k, ck, hk, rfl, hk0, hk5, HK, HCK, HBK⟩ := hrel;obtain ⟨wo, rfl⟩ : ∃ wo : World, wo = wr := ⟨_, rfl⟩;have HWK : Hid (Below W.heap.size W wo) := hZ (HWW0.out.trans (HBK.out.mono hWB));by_cases hlt : k < n
   ·obtain ⟨s, hs⟩ : ∃ s, t.subs[k]? = some s := ⟨_, List.getElem?_eq_getElem (by rw [HN.out]; exact hlt)⟩
    obtain ⟨g, o, v0, v1, v2, v3, v4, v5, v6, rfl, hg, e0, e1, e2, e3, e4, e5, e6, hs7⟩ := HS.out k s hs;obtain ⟨Am, cm, At, ct, rfl, rfl, rfl, rfl, rfl, rfl, rfl⟩ := hs7.seven;have tr : ∀ q v, W.cell? ⟨g, q, none⟩ = some v -> wo.cell? ⟨g, q, none⟩ = some v := fun q v hv => (HWK.out.cell (p := ⟨g, _, none⟩) hg).trans hv
    have h0 := tr _ _ e0;have h1 := tr _ _ e1;have h2 := tr _ _ e2;have h3 := tr _ _ e3;have h4 := tr _ _ e4;have h5 := tr _ _ e5;have h6 := tr _ _ e6;have hgo : g < wo.heap.size := Nat.lt_of_lt_of_le hg HWK.out.size;clear e0 e1 e2 e3 e4 e5 e6 tr hg;have hsm := sub_many hs;have HKS := hZ (countL_at hs (d + 1) ck);have HBs := hZ (countT_is s (d + 1) ck hk5);have IH := hZ (fun w' (hw' : Below W.heap.size W w') (hc' : Cnt B ck w') => ih s (by omega) (d + 1) ck (by omega) (by omega) hk0 hk5 B (.agg #[.int .i64 s.kind, .string s.pkg, .int .i64 s.major, .string s.mod, .string s.name, .slice Am s.names.length cm, .slice At s.subs.length ct]) W w' ⟨_, rfl, hs7⟩ hw' hWB hc');clear hs7 hs hsm;have bds := HBs.out;by_cases hg1 : (countT s (d + 1) ck).1 = true
    ·have R2 : Hid (countT t d c = countL (t.subs.drop (k + 1)) (d + 1) (countT s (d + 1) ck).2) := hZ (by rw [HK.out, HKS.out, if_pos hg1])
     have q2 : (countT s (d + 1) ck).2 <= 500 := by rw [bds.2.1 hg1]; exact (bds.1.1 hg1).2.1
     have q1 : 0 <= (countT s (d + 1) ck).2 := by have := bds.2.2.1; omega
     have HG := hZ hg1;clear bds hg1;go_wp2_with fail
     refine (IH.out _ (HWK.out.alloc HWK.out.size _) (HCK.out.alloc _)).mono ?_; rintro e w5 ⟨rfl, hc5, hb5⟩; rw [HG.out]
     have HB5 : Hid (Below B w w5) := hZ ((HBK.out.alloc (by have := HBK.out.size; omega) _).trans hb5);have HC5 := hZ hc5;clear h0 h1 h2 h3 h4 h5 h6 hc5 hb5 HBs IH;go_wp2_with fail
     go_roundw
     case rel => exact ⟨k + 1, (countT s (d + 1) ck).2, by omega, by go_num, q1, q2, R2, HC5, HB5⟩
     case measure => simp [intOf]; omega
    ·have R2 : Hid (countT t d c = (false, (countT s (d + 1) ck).2)) := hZ (by rw [HK.out, HKS.out, if_neg hg1])
     have HG : Hid ((countT s (d + 1) ck).1 = false) := hZ (by simpa using hg1);clear bds hg1;go_wp2_with fail
     refine (IH.out _ (HWK.out.alloc HWK.out.size _) (HCK.out.alloc _)).mono ?_; rintro e w5 ⟨rfl, hc5, hb5⟩; rw [HG.out]
     have HB5 : Hid (Below B w w5) := hZ ((HBK.out.alloc (by have := HBK.out.size; omega) _).trans hb5);have HC5 := hZ hc5;clear h0 h1 h2 h3 h4 h5 h6 hc5 hb5 HBs IH;go_wp2_with fail
     go_ret;exact ⟨ret_bool (by rw [R2.out]), by rw [R2.out]; exact HC5.out, HB5.out⟩
   ·have R2 : Hid (countT t d c = (true, ck)) := hZ (by
     rw [HK.out, List.drop_eq_nil_of_le (by rw [HN.out]; omega)]; rfl)
    go_wp2_with fail
    go_ret;exact ⟨ret_bool (by rw [R2.out]), by rw [R2.out]; exact HCK.out, HBK.out⟩
theorem size_any (t : Ty) (v : Value) (w : World) (hv : TyV w v t) :
  Calls Tryz.prog 75 #[v] w fun e w' => e = .returned (.int .i64 (sizeT t : Nat)) /\ Below w.heap.size w w' := by
 have HV := hZ hv
 obtain ⟨l, rfl, hT⟩ := hv
 obtain ⟨An, cn, As, cs, rfl, -, -, -, hzn, hz, -, hS⟩ := hT.parts
 clear hT hS
 have HM := hZ (may_iff t)
 have HI := hZ (countT_is t 1 0 (by omega))
 obtain ⟨wb, hwb⟩ : ∃ wb, wb = w.alloc (.cells #[.int .i64 t.kind, .string t.pkg, .int .i64 t.major, .string t.mod, .string t.name, .slice An t.names.length cn, .slice As t.subs.length cs] 50) := ⟨_, rfl⟩
 have hbs : wb.heap.size = w.heap.size + 1 := by rw [hwb]; simp
 have HBB : Hid (Below w.heap.size w wb) := hZ (by rw [hwb]; exact below_new (Below.refl _ _) _)
 have HC : Hid (Cnt (w.heap.size + 1) 0 (wb.alloc (.cells #[.int .i64 0] 3))) := hZ (by rw [<- hbs]; exact heap_alloc_new wb _)
 have hle : wb.heap.size <= w.heap.size + 1 := by omega
 have HWB := hZ hwb
 rcases hid_or (countT t 1 0).1 with hg | hg
 ·have R : Hid (sizeT t = 0) := hZ (by unfold sizeT; rw [if_neg]; rw [HM.out, hg.out]; simp)
  rw [R.out];go_enter Tryz.func75, Tryz.ntmps75
  go_wp2_with fail
  rw [<- HWB.out];refine (count_any _ t (Nat.le_refl _) 1 0 (by omega) (by omega) (by omega) (by omega) (w.heap.size + 1) _ wb _ (HV.out.below HBB.out) (below_new (Below.refl _ _) _) hle HC.out).mono ?_; rintro e w5 ⟨rfl, hc5, hb5⟩; rw [hg.out]
  have HB5 : Hid (Below w.heap.size w w5) := hZ ((below_new HBB.out _).trans (hb5.mono (by omega)));clear hb5 hc5;go_wp2_with fail
  go_ret;exact ⟨rfl, HB5.out⟩
 ·have R : Hid ((sizeT t : Int) = (countT t 1 0).2) := hZ (by
   unfold sizeT; rw [if_pos (HM.out.2 hg.out), HI.out.2.1 hg.out]; omega)
  rw [R.out];go_enter Tryz.func75, Tryz.ntmps75
  go_wp2_with fail
  rw [<- HWB.out];refine (count_any _ t (Nat.le_refl _) 1 0 (by omega) (by omega) (by omega) (by omega) (w.heap.size + 1) _ wb _ (HV.out.below HBB.out) (below_new (Below.refl _ _) _) hle HC.out).mono ?_; rintro e w5 ⟨rfl, hc5, hb5⟩; rw [hg.out]
  have HB5 : Hid (Below w.heap.size w w5) := hZ ((below_new HBB.out _).trans (hb5.mono (by omega)));have c5 := hc5.cell;clear hb5 hc5;go_wp2_with fail
  go_ret;exact ⟨rfl, HB5.out⟩
theorem mayK_any (t : Ty) (v : Value) (w : World) (hv : TyV w v t) :
  Calls Tryz.prog 45 #[v] w fun e w' => e = .returned (.bool (mayT t)) /\ Below w.heap.size w w' := by
 have HV := hZ hv
 obtain ⟨l, rfl, hT⟩ := hv
 obtain ⟨An, cn, As, cs, rfl, -, -, -, hzn, hz, -, hS⟩ := hT.parts
 clear hT hS
 have HP := hZ (size_pos t)
 go_enter Tryz.func45, Tryz.ntmps45
 go_wp2_with fail
 refine (size_any t _ _ (HV.out.below (below_new (Below.refl _ _) _))).mono ?_; rintro e w2 ⟨rfl, hb2⟩
 go_wp2_with fail
 go_ret
 exact ⟨ret_bool HP.out.symm, (below_new (Below.refl _ _) _).trans (hb2.mono (by simp))⟩
end Go.Proofs.YtddlmigofilejaaGreat
namespace Go.Proofs.YtddlmigofilejaaGreat
open Go.RowKit
open Go.Sort
open M
theorem z46 : (⟨#[46]⟩ : ByteArray).size = 1 := rfl
end Go.Proofs.YtddlmigofilejaaGreat
namespace Go.Proofs.YtddlmigofilejaaGreat
open Go.RowKit
open M
structure Cp1 (w : World) (t : Ty) (As : Option Addr) (n cs : Nat) (A5 : Option Addr) (c5 : Nat) (wr : World) : Prop where
  below : Below w.heap.size w wr
  box : wr.heap[w.heap.size]? = some (.cells #[.int .i64 t.kind, .string t.pkg, .int .i64 t.major, .string t.mod, .string t.name, .slice A5 t.names.length c5, .slice As n cs] 50 (0, 0))
  res : wr.heap[w.heap.size + 1]? = some (.cells #[.int .i64 0, .string ⟨#[]⟩, .int .i64 0, .string ⟨#[]⟩, .string ⟨#[]⟩, .slice none 0 0, .slice none 0 0] 50 (0, 0))
  own : wr.ownsRow (w.heap.size + 2) 9 1 (.slice A5 t.names.length c5) t.names.length (t.names.map Value.string)
end Go.Proofs.YtddlmigofilejaaGreat
namespace Go.Proofs.YtddlmigofilejaaGreat
open Go.RowKit
open Go.Sort
open M
theorem own_slice {w : World} {base : Nat} {e : TypeId} {z : Nat} {v : Value} {n : Nat} {xs : List Value} (h : w.ownsRow base e z v n xs) : ∃ A c, v = .slice A n c := by
  rcases h.2 with ⟨rfl, h0⟩ | ⟨g, cap, cur, rfl, -⟩
  · exact ⟨none, 0, by rw [h0]⟩
  · exact ⟨_, _, rfl⟩
end Go.Proofs.YtddlmigofilejaaGreat
namespace Go.Proofs.YtddlmigofilejaaGreat
open Go.RowKit
open Go.Sort Go.Maps
open M
def FoundAt (w : World) (fb n : Nat) (F : Nat -> Bool) : Prop := w.heap[fb]? = some (.cells ((List.range n).map fun i => Value.bool (F i)).toArray 4 (0, 0))
def unf (n : Nat) (F : Nat -> Bool) : Nat := ((List.range n).filter fun i => !F i).length
theorem two_boxes (w : World) (c1 c2 : Array Value) (t1 t2 : TypeId) : ∃ W2, W2 = (w.alloc (.cells c1 t1)).alloc (.cells c2 t2) /\ Below w.heap.size w W2 /\ W2.heap[w.heap.size]? = some (.cells c1 t1 (0, 0)) /\ W2.heap[w.heap.size + 1]? = some (.cells c2 t2 (0, 0)) /\ w.heap.size + 1 < W2.heap.size := by
  have hs1 : (w.alloc (.cells c1 t1)).heap.size = w.heap.size + 1 := by simp
  refine ⟨_, rfl, below_new (below_new (Below.refl _ _) _) _, ?_, ?_, by simp⟩
  · rw [Lib.alloc_old _ _ _ (by rw [hs1]; omega)]; exact heap_alloc_new w _
  · rw [<- hs1]; exact heap_alloc_new _ _
def dupB {α : Type} (key : α -> ByteArray) (l : List α) (i : Nat) : Bool := match l[i]? with | some x => (l.take i).any fun y => decide (key y = key x) | none => false
theorem str_eq (a b : ByteArray) : (a.toList == b.toList) = decide (a = b) := by
  rw [Bool.eq_iff_iff, beq_iff_eq, decide_eq_true_eq, Lib.toList_data, Lib.toList_data, bytes_list]
end Go.Proofs.YtddlmigofilejaaGreat
namespace Go.Proofs.YtddlmigofilejaaGreat
open Go.RowKit Go.Shelf
open Go.Sort Go.Maps
open M
attribute [local go_sem] Oper.semAt_some
attribute [local go_sem] Oper.semAt_some
end Go.Proofs.YtddlmigofilejaaGreat
namespace Go.Proofs.YtddlmigofilejaaGreat
open Go Go.RowKit
section
variable {P : Program} {ops : Array Oper} {C : World -> Prop}
end
end Go.Proofs.YtddlmigofilejaaGreat
namespace Go.Proofs.YtddlmigofilejaaGreat
open Go.RowKit
open Go.Sort
open M
theorem own_cap {w : World} {base : Nat} {e : TypeId} {z : Nat} {A : Option Addr} {n c : Nat} {xs : List Value} (h : w.ownsRow base e z (.slice A n c) n xs) : n <= c := by
  rcases h.2 with ⟨e, h0⟩ | ⟨g, cap, cur, hv, hB, hg, hnc, -⟩
  · omega
  · cases hv; exact hnc
end Go.Proofs.YtddlmigofilejaaGreat
namespace Go.Proofs.YtddlmigofilejaaGreat
open Go Go.ChangeShapes Go.WideShapes Go.ChangeAt Go.RowKit Go.Joins Go.Deep
open M
section
variable {H : Type} {enc : TypeId × Value -> H} {w : World} {base : Nat} {sp : Nat -> Bool} {held : Bool}
theorem open_rows7 {α : Type} (R : Reads α) (st : TypeId) (a0 : α) (ht : Tryz.prog.underlying st = some (.slice R.T)) (hk : Tryz.prog.cellsOf R.T = R.k) (hpos : 0 < R.k)
    (hE : ∀ (n : Nat) (cs : List Value) (x : DataW H × List MemPlace), DataW.trod enc Tryz.prog w base sp held n R.T cs = some x -> ∃ a, R.E w cs a)
    {fuel : Nat} {v : Value} {x : DataW H × List MemPlace} (h : DataW.trod enc Tryz.prog w base sp held fuel st [v] = some x) : ∃ (A : Option Addr) (c : Nat) (l : List α), v = .slice A l.length c /\ l.length <= maxLen /\ l.length <= c /\ RowIn R w A l := by
  rcases DataW.trod_slice ht h with ⟨hc, -⟩ | ⟨a', len, cap, elems, rest, n', hn', hc, -, -, hl, hm, hlen', hel, -, -⟩
  · obtain rfl := List.head_eq_of_cons_eq hc
    exact ⟨none, 0, [], rfl, Nat.zero_le _, Nat.zero_le _, fun i x hx => by simp at hx⟩
  · obtain rfl := List.head_eq_of_cons_eq hc
    rw [hk] at hel
    have hall : ∀ i, ∃ q : α × List Value, i < len -> w.cells? base (a'.add (i * R.k)) R.k = some q.2 /\ R.E w q.2 q.1 := by
      intro i;by_cases hi : i < len
      · have h1 := hel i hi
        rw [List.getElem?_eq_getElem (by rw [hlen']; exact hi)] at h1;obtain ⟨cs', h2, h3⟩ := Option.bind_eq_some_iff.1 h1;obtain ⟨t, ht⟩ := hE n' cs' _ h3;exact ⟨(t, cs'), fun _ => ⟨h2, ht⟩⟩
      · exact ⟨(a0, []), fun h => absurd h hi⟩
    obtain ⟨F, hF⟩ := Classical.axiomOfChoice hall;clear hall hel hE
    have hsome : ∀ i t, ((List.range len).map fun i => (F i).1)[i]? = some t -> i < len /\ t = (F i).1 := by
      intro i t ht;rw [List.getElem?_map] at ht;rcases Nat.lt_or_ge i len with hi | hi
      · rw [List.getElem?_range hi] at ht
        exact ⟨hi, (Option.some.inj ht).symm⟩
      · rw [List.getElem?_eq_none (by simpa using hi)] at ht
        cases ht
    have hle : ((List.range len).map fun i => (F i).1).length = len := by simp
    refine ⟨some a', cap, (List.range len).map fun i => (F i).1, by rw [hle], by rw [hle]; exact Nat.le_trans hl hm, by rw [hle]; exact hl, fun i t ht => ?_⟩;obtain ⟨hi, rfl⟩ := hsome i t ht;obtain ⟨b, o, spot⟩ := a';have hat := (World.cells?_some (hF i hi).1).2.2;have hlk := R.len _ _ _ (hF i hi).2
    have hspot : spot = none := by
      have hc := (World.cells?_some (hF 0 (by omega)).1).2.2 0 hpos;rw [List.getElem?_eq_getElem (by rw [R.len _ _ _ (hF 0 (by omega)).2]; exact hpos)] at hc;have := World.cell?_spot hc
      simpa [Addr.add] using this
    subst hspot
    have hcell : ∀ j v, (F i).2[j]? = some v -> w.cell? ⟨b, o + i * R.k + j, none⟩ = some v := by
      intro j v hv
      have hj : j < R.k := by
        have := (List.getElem?_eq_some_iff.1 hv).1
        rw [hlk] at this; exact this
      have := hat j hj
      rw [WideShapes.add_plain, WideShapes.add_plain] at this;rw [this]; exact hv
    exact ⟨b, o, (F i).2, rfl, World.block_lt_of_cell? w _ (hcell 0 _ (List.getElem?_eq_getElem (by rw [hlk]; exact hpos))), hcell, (hF i hi).2⟩
end
end Go.Proofs.YtddlmigofilejaaGreat
namespace Go.Proofs.YtddlmigofilejaaGreat
open Go.RowKit
open Go.Sort
open M
theorem all_one {α : Type} (p : α -> Bool) (l : List α) (j : Nat) (x : α) (h : l[j]? = some x) (hp : p x = false) : l.all p = false := by
  rw [List.all_eq_false];exact ⟨x, List.mem_of_getElem? h, by rw [hp]; decide⟩
end Go.Proofs.YtddlmigofilejaaGreat
namespace Go.Proofs.YtddlmigofilejaaGreat
open Go Go.RowKit
open Go.Sort
open M
section
variable {P : Program} (w : World)
theorem wp_append_own {o : Oper} {a : Act} {K : Act -> World -> Prop} {Q : Exit -> Act -> World -> Prop} (s x : Operand) (t : TypeId)
    (ho : o.op = .call { callee := .builtin .append, args := #[s, x], argTypes := #[t, t] })
    (base : Nat) (e : TypeId) (i : TypeInfo) (z : Value) (size bytes : Nat) (ht : P.underlying t = some (.slice e)) (hi : P.info? e = some i) (hz : i.zero = some z)
    (hsize : i.size = size) (hby : i.bytes = bytes) (hzs : z.cells.size = size) (hsz : 0 < size)
    (v : Value) (n : Nat) (xs : List Value) (hs : a.eval s = v) (hown : w.ownsRow base e size v n xs)
    (ad : Addr) (m c : Nat) (news : List Value) (hx : a.eval x = .slice (some ad) m c) (hl : news.length = m * size) (hnews : ∀ j u, news[j]? = some u -> w.cell? (ad.add j) = some u) (h1 : ∀ u ∈ news, u.oneCell' = true)
    (h63 : n + m <= maxLen) (hbytes : (n + m) * bytes <= 140737488355328) (hbase : base <= w.heap.size)
    (h : ∀ v' w', w'.ownsRow base e size v' (n + m) (xs ++ news) -> w.grownBy w' v.ownBlock -> (v'.ownBlock = v.ownBlock \/ v'.ownBlock = some w.heap.size) -> K (a.put o.dst v') w') : o.wp P a w K Q := by
  obtain ⟨v', w', hr, h2, h3, h4, h5⟩ := run_append_own_at (P := P) w base t o.type e i z size bytes ht hi hz hsize hby hzs hsz v n xs hown ad m c news hl hnews h1 h63 hbytes hbase;unfold Oper.wp execOp
  simp only [ho, resolve, invoke, builtin, Sem.run_bind, Sem.run_pure, Result.andThen_ok, List.map_toArray, List.map_cons, List.map_nil, hs, hx, hr];exact h v' w' h2 h3 h5
end
theorem flatC_len {k : Nat} : ∀ (C : List (List Value)), (∀ l, l ∈ C -> l.length = k) -> C.flatten.length = C.length * k
  | [], _ => by simp
  | a :: r, h => by
    rw [List.flatten_cons, List.length_append, h a List.mem_cons_self, flatC_len r (fun l hl => h l (List.mem_cons_of_mem _ hl)), List.length_cons, Nat.succ_mul];omega
theorem RowIn.lists {α : Type} {R : Reads α} {w : World} {g o : Nat} {xs : List α} (hk : 0 < R.k) (h : RowIn R w (some ⟨g, o, none⟩) xs) :
    ∃ C : List (List Value), C.length = xs.length /\ (∀ l, l ∈ C -> l.length = R.k) /\ (∀ (i : Nat) (l : List Value) (x : α), C[i]? = some l -> xs[i]? = some x -> R.E w l x) /\
      ∀ (j : Nat) (u : Value), C.flatten[j]? = some u -> w.cell? ⟨g, o + j, none⟩ = some u := by
  have hall : ∀ i : Fin xs.length, ∃ l : List Value, R.E w l xs[i] /\ ∀ (j : Nat) (v : Value), l[j]? = some v -> w.cell? ⟨g, o + i.1 * R.k + j, none⟩ = some v := fun i => by
    obtain ⟨g', o', l, hA, hg, hc, hE⟩ := h i.1 xs[i] (List.getElem?_eq_getElem i.2);cases hA
    exact ⟨l, hE, hc⟩
  obtain ⟨F, hF⟩ := Classical.axiomOfChoice hall
  have hat : ∀ (i : Nat) (l : List Value), (List.ofFn F)[i]? = some l -> ∃ hi : i < xs.length, l = F ⟨i, hi⟩ := by
    intro i l hl;rw [List.getElem?_ofFn] at hl;split at hl
    · rename_i hi
      exact ⟨hi, (Option.some.inj hl).symm⟩
    · cases hl
  have hlen : ∀ l, l ∈ List.ofFn F -> l.length = R.k := fun l hl => by
    obtain ⟨i, hi⟩ := List.mem_iff_getElem?.1 hl;obtain ⟨hi', rfl⟩ := hat i l hi;exact R.len _ _ _ (hF ⟨i, hi'⟩).1
  refine ⟨List.ofFn F, by simp, hlen, fun i l x hl hx => ?_, fun j u hu => ?_⟩
  · obtain ⟨hi, rfl⟩ := hat i l hl
    rw [List.getElem?_eq_getElem hi] at hx;cases hx
    exact (hF ⟨i, hi⟩).1
  · have hj := (List.getElem?_eq_some_iff.1 hu).1
    rw [flatC_len _ hlen, List.length_ofFn] at hj;have hi : j / R.k < xs.length := Nat.div_lt_of_lt_mul (by rw [Nat.mul_comm]; exact hj);have hl : (List.ofFn F)[j / R.k]? = some (F ⟨j / R.k, hi⟩) := by rw [List.getElem?_ofFn, dif_pos hi]
    have hf := flatk_at (List.ofFn F) hlen (j / R.k) (j % R.k) _ hl (Nat.mod_lt _ hk);have hd : j / R.k * R.k + j % R.k = j := by rw [Nat.mul_comm]; exact Nat.div_add_mod j R.k
    rw [hd, hu] at hf;have := (hF ⟨j / R.k, hi⟩).2 (j % R.k) u hf.symm
    rwa [Nat.add_assoc, hd] at this
theorem RowIn.of_own {α : Type} {R : Reads α} {w : World} {lo c : Nat} {A : Option Addr} {xs : List α} {C : List (List Value)} (hown : w.ownsRow lo R.T R.k (.slice A xs.length c) xs.length C.flatten)
    (hl : C.length = xs.length) (hall : ∀ l, l ∈ C -> l.length = R.k) (hE : ∀ (i : Nat) (l : List Value) (x : α), C[i]? = some l -> xs[i]? = some x -> R.E w l x) : RowIn R w A xs := by
  intro i x hx;have hi := (List.getElem?_eq_some_iff.1 hx).1;have hli : C[i]? = some C[i] := List.getElem?_eq_getElem (by omega);rcases hown.2 with ⟨e, -⟩ | ⟨g, cap, cur, hv, hB, hg, -, -, hcl, htake⟩
  · cases A with
    | none => simp at e; simp [e.1] at hi
    | some a => simp at e
  · simp at hv
    obtain ⟨rfl, -⟩ := hv;refine ⟨g, 0, C[i], rfl, (Array.getElem?_eq_some_iff.1 hg).1, fun j v hv => ?_, hE i _ x hli hx⟩;have hj := (List.getElem?_eq_some_iff.1 hv).1;rw [hall _ (List.getElem_mem (by omega))] at hj;have hf := flatk_at C hall i j _ hli hj;rw [cZ hg, <- Array.getElem?_toList];have e2 : (cur.toList.take (xs.length * R.k))[i * R.k + j]? = C[i][j]? := by rw [htake, hf]
    rw [List.getElem?_take] at e2;split at e2
    · rw [show 0 + i * R.k + j = i * R.k + j by omega, e2]; exact hv
    · rename_i hn
      have : (i + 1) * R.k <= xs.length * R.k := Nat.mul_le_mul_right _ hi
      rw [Nat.succ_mul] at this;omega
theorem small_size {s : ByteArray} (h : smallB s.data.toList = true) : s.size <= 20 := by
  unfold smallB at h
  rw [Bool.and_eq_true, spell_iff] at h;rw [<- len_size]; exact h.1.2.1
theorem great_size {s : ByteArray} (h : greatB s.data.toList = true) : s.size <= 20 := by
  unfold greatB at h
  rw [Bool.and_eq_true, spell_iff] at h;rw [<- len_size]; exact h.1.2.1
end Go.Proofs.YtddlmigofilejaaGreat
