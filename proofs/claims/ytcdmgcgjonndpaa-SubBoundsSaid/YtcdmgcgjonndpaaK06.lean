/-
  Several texts in one:  ·  ·  ·  ·  ·  ·  ·  ·  ·  ·  ·  ·  ·  ·  ·  ·  ·  ·  ·  ·  ·  ·  ·  ·  ·  ·  ·  ·  ·  ·  ·  ·  ·  ·  ·  ·  ·  · 
-/
import Derived.Test.YtcdmgcgjonndpaaK05
import Derived.OneCell
import Derived.Lib.Builder
import Derived.Test.YtcdmgcgjonndpaaChecked
import Derived.Test.YtcdmgcgjonndpaaK00
import Derived.Test.YtcdmgcgjonndpaaK03
import Derived.WalkKit
import Derived.Lib.AppendStr
import Derived.Lib.UnsafeStr
import Derived.Lib.OthersKept
import Derived.Laws.Externs
import Derived.Laws.AppendOwn
import Derived.OwnWalk
import Derived.Maps.OwnSet
import Derived.Lib.Strings
import Derived.Test.YtcdmgcgjonndpaaK01
import Derived.Test.YtcdmgcgjonndpaaK02
import Derived.Deep.RegionLaw
import Derived.Deep.DeepCutAuto
import Derived.Deep.CutBlock
import Derived.Maps.AppendAt
import Derived.Test.YtcdmgcgjonndpaaK04
import Derived.Laws.MakeOwn
import Derived.LoopTactic
import Derived.Lib.QuietBelow
import Derived.BigQuiet
import Derived.RangeFuncNested
import Derived.RangeFuncBound
import Derived.RangeFuncCalls
import Derived.RangeFuncLeaves
import Derived.Shelf.Abstract
import Derived.Shelf.RegionOpen
import Derived.OwnWalkIn
import Derived.TacticsInMore
import Derived.LoopNIn
import Derived.LoopIn
import Derived.Maps.OwnIn
import Derived.Deep.Quiet
/-  -/
namespace Go.Proofs.Ytcdmgcgjonndpaa
open Go.RowKit
open M
set_option maxRecDepth 100000 in
set_option maxHeartbeats 16000000 in
theorem formed_any (t : Ty) (v : Value) (w : World) (hv : TyV w v t) :
  Calls Try.prog 70 #[v] w fun e w' => e = .returned (.bool (formT t)) ∧ Below w.heap.size w w' := by
 have HV := Lib.hid hv
 obtain ⟨l, rfl, hT⟩ := hv
 obtain ⟨An, cn, As, cs, rfl, zp, zm, za, hzn, hz, hN, -⟩ := hT.parts
 have HNM := Lib.hid hN
 clear hT hN
 have HF := Lib.hid (formT_w t)
 generalize hn : t.subs.length = n at hz HF HV
 generalize hq : t.names.length = q at hzn HF HV
 have HQ := Lib.hid hq
 clear hn hq
 by_cases hx : t.kind = 1
 ·skip
  have b1 : (t.kind == 1) = true := by rw [hx]; rfl
  by_cases n0 : n = 0
  ·have n0i : (((n : Nat) : Int) == 0) = true := by simp; omega
   by_cases q0 : q = 0
   ·have q0i : (((q : Nat) : Int) == 0) = true := by simp; omega
    rcases hid_or (noMore t) with um | um
    ·skip
     have R : Hid (formT t = false) := Lib.hid (by
      rw [HF.out]
      unfold formW
      simp [hx, um.out])
     clear HF
     clear hx n0 q0
     as_aux_lemma =>
     rw [R.out]
     clear R
     go_enter Try.func70, Try.ntmps70
     go_wp2_with fail
     go_quiet (fail)
     go_wp2_with fail
     refine (unnamed_any t _ _ (HV.out.below (below_drewN (below_new (Below.refl _ _) _) _))).mono ?_; rintro e w0 ⟨rfl, hb0⟩; rw [um.out]
     go_wp2_with fail
     go_ret
     exact ⟨rfl, (below_drewN (below_new (Below.refl _ _) _) _).trans (hb0.mono (by simp))⟩
    ·skip
     have R : Hid (formT t = true) := Lib.hid (by
      rw [HF.out]
      unfold formW
      simp [hx, n0, q0, um.out])
     clear HF
     clear hx n0 q0
     as_aux_lemma =>
     rw [R.out]
     clear R
     go_enter Try.func70, Try.ntmps70
     go_wp2_with fail
     go_quiet (fail)
     go_wp2_with fail
     refine (unnamed_any t _ _ (HV.out.below (below_drewN (below_new (Below.refl _ _) _) _))).mono ?_; rintro e w0 ⟨rfl, hb0⟩; rw [um.out]
     go_wp2_with fail
     go_ret
     exact ⟨rfl, (below_drewN (below_new (Below.refl _ _) _) _).trans (hb0.mono (by simp))⟩
   ·have q0i : (((q : Nat) : Int) == 0) = false := by simp; omega
    have R : Hid (formT t = false) := Lib.hid (by
     rw [HF.out]
     unfold formW
     simp [hx, q0])
    clear HF
    clear hx n0 q0
    as_aux_lemma =>
    rw [R.out]
    clear R
    go_enter Try.func70, Try.ntmps70
    go_wp2_with fail
    go_quiet (fail)
    go_wp2_with fail
    go_ret
    exact ⟨rfl, below_drewN (below_new (Below.refl _ _) _) _⟩
  ·have n0i : (((n : Nat) : Int) == 0) = false := by simp; omega
   have R : Hid (formT t = false) := Lib.hid (by
    rw [HF.out]
    unfold formW
    simp [hx, n0])
   clear HF
   clear hx n0
   as_aux_lemma =>
   rw [R.out]
   clear R
   go_enter Try.func70, Try.ntmps70
   go_wp2_with fail
   go_quiet (fail)
   go_wp2_with fail
   go_ret
   exact ⟨rfl, below_drewN (below_new (Below.refl _ _) _) _⟩
 have c1 : ¬ t.kind = 1 := hx
 have d1 : (t.kind == 1) = false := by simpa using hx
 clear hx
 by_cases hx : t.kind = 2
 ·skip
  have b1 : (t.kind == 1) = false := by rw [hx]; rfl
  have b2 : (t.kind == 2) = true := by rw [hx]; rfl
  by_cases n0 : n = 0
  ·have n0i : (((n : Nat) : Int) == 0) = true := by simp; omega
   by_cases q0 : q = 0
   ·have q0i : (((q : Nat) : Int) == 0) = true := by simp; omega
    rcases hid_or (noMore t) with um | um
    ·skip
     have R : Hid (formT t = false) := Lib.hid (by
      rw [HF.out]
      unfold formW
      simp [hx, um.out])
     clear HF
     clear hx n0 q0
     as_aux_lemma =>
     rw [R.out]
     clear R
     go_enter Try.func70, Try.ntmps70
     go_wp2_with fail
     go_quiet (fail)
     go_wp2_with fail
     refine (unnamed_any t _ _ (HV.out.below (below_drewN (below_new (Below.refl _ _) _) _))).mono ?_; rintro e w0 ⟨rfl, hb0⟩; rw [um.out]
     go_wp2_with fail
     go_ret
     exact ⟨rfl, (below_drewN (below_new (Below.refl _ _) _) _).trans (hb0.mono (by simp))⟩
    ·skip
     have R : Hid (formT t = true) := Lib.hid (by
      rw [HF.out]
      unfold formW
      simp [hx, n0, q0, um.out])
     clear HF
     clear hx n0 q0
     as_aux_lemma =>
     rw [R.out]
     clear R
     go_enter Try.func70, Try.ntmps70
     go_wp2_with fail
     go_quiet (fail)
     go_wp2_with fail
     refine (unnamed_any t _ _ (HV.out.below (below_drewN (below_new (Below.refl _ _) _) _))).mono ?_; rintro e w0 ⟨rfl, hb0⟩; rw [um.out]
     go_wp2_with fail
     go_ret
     exact ⟨rfl, (below_drewN (below_new (Below.refl _ _) _) _).trans (hb0.mono (by simp))⟩
   ·have q0i : (((q : Nat) : Int) == 0) = false := by simp; omega
    have R : Hid (formT t = false) := Lib.hid (by
     rw [HF.out]
     unfold formW
     simp [hx, q0])
    clear HF
    clear hx n0 q0
    as_aux_lemma =>
    rw [R.out]
    clear R
    go_enter Try.func70, Try.ntmps70
    go_wp2_with fail
    go_quiet (fail)
    go_wp2_with fail
    go_ret
    exact ⟨rfl, below_drewN (below_new (Below.refl _ _) _) _⟩
  ·have n0i : (((n : Nat) : Int) == 0) = false := by simp; omega
   have R : Hid (formT t = false) := Lib.hid (by
    rw [HF.out]
    unfold formW
    simp [hx, n0])
   clear HF
   clear hx n0
   as_aux_lemma =>
   rw [R.out]
   clear R
   go_enter Try.func70, Try.ntmps70
   go_wp2_with fail
   go_quiet (fail)
   go_wp2_with fail
   go_ret
   exact ⟨rfl, below_drewN (below_new (Below.refl _ _) _) _⟩
 have c2 : ¬ t.kind = 2 := hx
 have d2 : (t.kind == 2) = false := by simpa using hx
 clear hx
 by_cases hx : t.kind = 3
 ·skip
  have b1 : (t.kind == 1) = false := by rw [hx]; rfl
  have b2 : (t.kind == 2) = false := by rw [hx]; rfl
  have b3 : (t.kind == 3) = true := by rw [hx]; rfl
  by_cases n0 : n = 0
  ·have n0i : (((n : Nat) : Int) == 0) = true := by simp; omega
   by_cases q0 : q = 0
   ·have q0i : (((q : Nat) : Int) == 0) = true := by simp; omega
    rcases hid_or (noMore t) with um | um
    ·skip
     have R : Hid (formT t = false) := Lib.hid (by
      rw [HF.out]
      unfold formW
      simp [hx, um.out])
     clear HF
     clear hx n0 q0
     as_aux_lemma =>
     rw [R.out]
     clear R
     go_enter Try.func70, Try.ntmps70
     go_wp2_with fail
     go_quiet (fail)
     go_wp2_with fail
     refine (unnamed_any t _ _ (HV.out.below (below_drewN (below_new (Below.refl _ _) _) _))).mono ?_; rintro e w0 ⟨rfl, hb0⟩; rw [um.out]
     go_wp2_with fail
     go_ret
     exact ⟨rfl, (below_drewN (below_new (Below.refl _ _) _) _).trans (hb0.mono (by simp))⟩
    ·skip
     have R : Hid (formT t = true) := Lib.hid (by
      rw [HF.out]
      unfold formW
      simp [hx, n0, q0, um.out])
     clear HF
     clear hx n0 q0
     as_aux_lemma =>
     rw [R.out]
     clear R
     go_enter Try.func70, Try.ntmps70
     go_wp2_with fail
     go_quiet (fail)
     go_wp2_with fail
     refine (unnamed_any t _ _ (HV.out.below (below_drewN (below_new (Below.refl _ _) _) _))).mono ?_; rintro e w0 ⟨rfl, hb0⟩; rw [um.out]
     go_wp2_with fail
     go_ret
     exact ⟨rfl, (below_drewN (below_new (Below.refl _ _) _) _).trans (hb0.mono (by simp))⟩
   ·have q0i : (((q : Nat) : Int) == 0) = false := by simp; omega
    have R : Hid (formT t = false) := Lib.hid (by
     rw [HF.out]
     unfold formW
     simp [hx, q0])
    clear HF
    clear hx n0 q0
    as_aux_lemma =>
    rw [R.out]
    clear R
    go_enter Try.func70, Try.ntmps70
    go_wp2_with fail
    go_quiet (fail)
    go_wp2_with fail
    go_ret
    exact ⟨rfl, below_drewN (below_new (Below.refl _ _) _) _⟩
  ·have n0i : (((n : Nat) : Int) == 0) = false := by simp; omega
   have R : Hid (formT t = false) := Lib.hid (by
    rw [HF.out]
    unfold formW
    simp [hx, n0])
   clear HF
   clear hx n0
   as_aux_lemma =>
   rw [R.out]
   clear R
   go_enter Try.func70, Try.ntmps70
   go_wp2_with fail
   go_quiet (fail)
   go_wp2_with fail
   go_ret
   exact ⟨rfl, below_drewN (below_new (Below.refl _ _) _) _⟩
 have c3 : ¬ t.kind = 3 := hx
 have d3 : (t.kind == 3) = false := by simpa using hx
 clear hx
 by_cases hx : t.kind = 4
 ·skip
  have b1 : (t.kind == 1) = false := by rw [hx]; rfl
  have b2 : (t.kind == 2) = false := by rw [hx]; rfl
  have b3 : (t.kind == 3) = false := by rw [hx]; rfl
  have b4 : (t.kind == 4) = true := by rw [hx]; rfl
  by_cases n1 : n = 1
  ·have n1i : (((n : Nat) : Int) == 1) = true := by simp; omega
   by_cases q0 : q = 0
   ·have q0i : (((q : Nat) : Int) == 0) = true := by simp; omega
    rcases hid_or (noMore t) with um | um
    ·skip
     have R : Hid (formT t = false) := Lib.hid (by
      rw [HF.out]
      unfold formW
      simp [hx, um.out])
     clear HF
     clear hx q0 n1
     as_aux_lemma =>
     rw [R.out]
     clear R
     go_enter Try.func70, Try.ntmps70
     go_wp2_with fail
     go_quiet (fail)
     go_wp2_with fail
     refine (unnamed_any t _ _ (HV.out.below (below_drewN (below_new (Below.refl _ _) _) _))).mono ?_; rintro e w0 ⟨rfl, hb0⟩; rw [um.out]
     go_wp2_with fail
     go_ret
     exact ⟨rfl, (below_drewN (below_new (Below.refl _ _) _) _).trans (hb0.mono (by simp))⟩
    ·skip
     have R : Hid (formT t = true) := Lib.hid (by
      rw [HF.out]
      unfold formW
      simp [hx, n1, q0, um.out])
     clear HF
     clear hx q0 n1
     as_aux_lemma =>
     rw [R.out]
     clear R
     go_enter Try.func70, Try.ntmps70
     go_wp2_with fail
     go_quiet (fail)
     go_wp2_with fail
     refine (unnamed_any t _ _ (HV.out.below (below_drewN (below_new (Below.refl _ _) _) _))).mono ?_; rintro e w0 ⟨rfl, hb0⟩; rw [um.out]
     go_wp2_with fail
     go_ret
     exact ⟨rfl, (below_drewN (below_new (Below.refl _ _) _) _).trans (hb0.mono (by simp))⟩
   ·have q0i : (((q : Nat) : Int) == 0) = false := by simp; omega
    have R : Hid (formT t = false) := Lib.hid (by
     rw [HF.out]
     unfold formW
     simp [hx, q0])
    clear HF
    clear hx q0 n1
    as_aux_lemma =>
    rw [R.out]
    clear R
    go_enter Try.func70, Try.ntmps70
    go_wp2_with fail
    go_quiet (fail)
    go_wp2_with fail
    go_ret
    exact ⟨rfl, below_drewN (below_new (Below.refl _ _) _) _⟩
  ·have n1i : (((n : Nat) : Int) == 1) = false := by simp; omega
   have R : Hid (formT t = false) := Lib.hid (by
    rw [HF.out]
    unfold formW
    simp [hx, n1])
   clear HF
   clear hx n1
   as_aux_lemma =>
   rw [R.out]
   clear R
   go_enter Try.func70, Try.ntmps70
   go_wp2_with fail
   go_quiet (fail)
   go_wp2_with fail
   go_ret
   exact ⟨rfl, below_drewN (below_new (Below.refl _ _) _) _⟩
 have c4 : ¬ t.kind = 4 := hx
 have d4 : (t.kind == 4) = false := by simpa using hx
 clear hx
 by_cases hx : t.kind = 5
 ·skip
  have b1 : (t.kind == 1) = false := by rw [hx]; rfl
  have b2 : (t.kind == 2) = false := by rw [hx]; rfl
  have b3 : (t.kind == 3) = false := by rw [hx]; rfl
  have b4 : (t.kind == 4) = false := by rw [hx]; rfl
  have b5 : (t.kind == 5) = true := by rw [hx]; rfl
  by_cases l20 : n ≤ 20
  ·have l20i : ((n : Nat) : Int) ≤ 20 := by omega
   by_cases qn : q = n
   ·have qni : (((q : Nat) : Int) == ((n : Nat) : Int)) = true := by simp; omega
    rcases hid_or (risingB smallB t.names) with rs | rs
    ·skip
     have R : Hid (formT t = false) := Lib.hid (by
      rw [HF.out]
      unfold formW
      simp [hx, rs.out])
     clear HF
     clear hx qn
     as_aux_lemma =>
     rw [R.out]
     clear R
     go_enter Try.func70, Try.ntmps70
     go_wp2_with fail
     go_quiet (fail)
     go_wp2_with fail
     refine (rising_small An cn _ t.names _ HQ.out hzn (HNM.out.below (below_drewN (below_new (Below.refl _ _) _) _))).mono ?_; rintro e w0 ⟨rfl, rfl⟩; rw [rs.out]
     go_wp2_with fail
     go_ret
     exact ⟨rfl, below_drewN (below_new (Below.refl _ _) _) _⟩
    ·skip
     rcases hid_or (noMore t) with um | um
     ·skip
      have R : Hid (formT t = false) := Lib.hid (by
       rw [HF.out]
       unfold formW
       simp [hx, um.out])
      clear HF
      clear hx qn
      as_aux_lemma =>
      rw [R.out]
      clear R
      go_enter Try.func70, Try.ntmps70
      go_wp2_with fail
      go_quiet (fail)
      go_wp2_with fail
      refine (rising_small An cn _ t.names _ HQ.out hzn (HNM.out.below (below_drewN (below_new (Below.refl _ _) _) _))).mono ?_; rintro e w0 ⟨rfl, rfl⟩; rw [rs.out]
      go_wp2_with fail
      refine (unnamed_any t _ _ (HV.out.below (below_drewN (below_new (Below.refl _ _) _) _))).mono ?_; rintro e w1 ⟨rfl, hb1⟩; rw [um.out]
      go_wp2_with fail
      go_ret
      exact ⟨rfl, (below_drewN (below_new (Below.refl _ _) _) _).trans (hb1.mono (by simp))⟩
     ·skip
      have R : Hid (formT t = true) := Lib.hid (by
       rw [HF.out]
       unfold formW
       simp [hx, l20, qn, rs.out, um.out])
      clear HF
      clear hx qn
      as_aux_lemma =>
      rw [R.out]
      clear R
      go_enter Try.func70, Try.ntmps70
      go_wp2_with fail
      go_quiet (fail)
      go_wp2_with fail
      refine (rising_small An cn _ t.names _ HQ.out hzn (HNM.out.below (below_drewN (below_new (Below.refl _ _) _) _))).mono ?_; rintro e w0 ⟨rfl, rfl⟩; rw [rs.out]
      go_wp2_with fail
      refine (unnamed_any t _ _ (HV.out.below (below_drewN (below_new (Below.refl _ _) _) _))).mono ?_; rintro e w1 ⟨rfl, hb1⟩; rw [um.out]
      go_wp2_with fail
      go_ret
      exact ⟨rfl, (below_drewN (below_new (Below.refl _ _) _) _).trans (hb1.mono (by simp))⟩
   ·have qni : (((q : Nat) : Int) == ((n : Nat) : Int)) = false := by simp; omega
    have R : Hid (formT t = false) := Lib.hid (by
     rw [HF.out]
     unfold formW
     simp [hx, qn])
    clear HF
    clear hx qn
    as_aux_lemma =>
    rw [R.out]
    clear R
    go_enter Try.func70, Try.ntmps70
    go_wp2_with fail
    go_quiet (fail)
    go_wp2_with fail
    go_ret
    exact ⟨rfl, below_drewN (below_new (Below.refl _ _) _) _⟩
  ·have l20i : ¬ (((n : Nat) : Int) ≤ 20) := by omega
   have R : Hid (formT t = false) := Lib.hid (by
    rw [HF.out]
    unfold formW
    simp [hx, l20])
   clear HF
   clear hx
   as_aux_lemma =>
   rw [R.out]
   clear R
   go_enter Try.func70, Try.ntmps70
   go_wp2_with fail
   go_quiet (fail)
   go_wp2_with fail
   go_ret
   exact ⟨rfl, below_drewN (below_new (Below.refl _ _) _) _⟩
 have c5 : ¬ t.kind = 5 := hx
 have d5 : (t.kind == 5) = false := by simpa using hx
 clear hx
 by_cases hx : t.kind = 6
 ·skip
  have b1 : (t.kind == 1) = false := by rw [hx]; rfl
  have b2 : (t.kind == 2) = false := by rw [hx]; rfl
  have b3 : (t.kind == 3) = false := by rw [hx]; rfl
  have b4 : (t.kind == 4) = false := by rw [hx]; rfl
  have b5 : (t.kind == 5) = false := by rw [hx]; rfl
  have b6 : (t.kind == 6) = true := by rw [hx]; rfl
  by_cases l1 : 1 ≤ n
  ·have l1i : (1 : Int) ≤ ((n : Nat) : Int) := by omega
   by_cases l20 : n ≤ 20
   ·have l20i : ((n : Nat) : Int) ≤ 20 := by omega
    by_cases qn : q = n
    ·have qni : (((q : Nat) : Int) == ((n : Nat) : Int)) = true := by simp; omega
     rcases hid_or (risingB greatB t.names) with rs | rs
     ·skip
      have R : Hid (formT t = false) := Lib.hid (by
       rw [HF.out]
       unfold formW
       simp [hx, rs.out])
      clear HF
      clear hx qn
      as_aux_lemma =>
      rw [R.out]
      clear R
      go_enter Try.func70, Try.ntmps70
      go_wp2_with fail
      go_quiet (fail)
      go_wp2_with fail
      refine (rising_great An cn _ t.names _ HQ.out hzn (HNM.out.below (below_drewN (below_new (Below.refl _ _) _) _))).mono ?_; rintro e w0 ⟨rfl, rfl⟩; rw [rs.out]
      go_wp2_with fail
      go_ret
      exact ⟨rfl, below_drewN (below_new (Below.refl _ _) _) _⟩
     ·skip
      rcases hid_or (noMore t) with um | um
      ·skip
       have R : Hid (formT t = false) := Lib.hid (by
        rw [HF.out]
        unfold formW
        simp [hx, um.out])
       clear HF
       clear hx qn
       as_aux_lemma =>
       rw [R.out]
       clear R
       go_enter Try.func70, Try.ntmps70
       go_wp2_with fail
       go_quiet (fail)
       go_wp2_with fail
       refine (rising_great An cn _ t.names _ HQ.out hzn (HNM.out.below (below_drewN (below_new (Below.refl _ _) _) _))).mono ?_; rintro e w0 ⟨rfl, rfl⟩; rw [rs.out]
       go_wp2_with fail
       refine (unnamed_any t _ _ (HV.out.below (below_drewN (below_new (Below.refl _ _) _) _))).mono ?_; rintro e w1 ⟨rfl, hb1⟩; rw [um.out]
       go_wp2_with fail
       go_ret
       exact ⟨rfl, (below_drewN (below_new (Below.refl _ _) _) _).trans (hb1.mono (by simp))⟩
      ·skip
       have R : Hid (formT t = true) := Lib.hid (by
        rw [HF.out]
        unfold formW
        simp [hx, l1, l20, qn, rs.out, um.out])
       clear HF
       clear hx qn
       as_aux_lemma =>
       rw [R.out]
       clear R
       go_enter Try.func70, Try.ntmps70
       go_wp2_with fail
       go_quiet (fail)
       go_wp2_with fail
       refine (rising_great An cn _ t.names _ HQ.out hzn (HNM.out.below (below_drewN (below_new (Below.refl _ _) _) _))).mono ?_; rintro e w0 ⟨rfl, rfl⟩; rw [rs.out]
       go_wp2_with fail
       refine (unnamed_any t _ _ (HV.out.below (below_drewN (below_new (Below.refl _ _) _) _))).mono ?_; rintro e w1 ⟨rfl, hb1⟩; rw [um.out]
       go_wp2_with fail
       go_ret
       exact ⟨rfl, (below_drewN (below_new (Below.refl _ _) _) _).trans (hb1.mono (by simp))⟩
    ·have qni : (((q : Nat) : Int) == ((n : Nat) : Int)) = false := by simp; omega
     have R : Hid (formT t = false) := Lib.hid (by
      rw [HF.out]
      unfold formW
      simp [hx, qn])
     clear HF
     clear hx qn
     as_aux_lemma =>
     rw [R.out]
     clear R
     go_enter Try.func70, Try.ntmps70
     go_wp2_with fail
     go_quiet (fail)
     go_wp2_with fail
     go_ret
     exact ⟨rfl, below_drewN (below_new (Below.refl _ _) _) _⟩
   ·have l20i : ¬ (((n : Nat) : Int) ≤ 20) := by omega
    have R : Hid (formT t = false) := Lib.hid (by
     rw [HF.out]
     unfold formW
     simp [hx, l20])
    clear HF
    clear hx
    as_aux_lemma =>
    rw [R.out]
    clear R
    go_enter Try.func70, Try.ntmps70
    go_wp2_with fail
    go_quiet (fail)
    go_wp2_with fail
    go_ret
    exact ⟨rfl, below_drewN (below_new (Below.refl _ _) _) _⟩
  ·have l1i : ¬ ((1 : Int) ≤ ((n : Nat) : Int)) := by omega
   have R : Hid (formT t = false) := Lib.hid (by
    rw [HF.out]
    unfold formW
    simp [hx, l1])
   clear HF
   clear hx
   as_aux_lemma =>
   rw [R.out]
   clear R
   go_enter Try.func70, Try.ntmps70
   go_wp2_with fail
   go_quiet (fail)
   go_wp2_with fail
   go_ret
   exact ⟨rfl, below_drewN (below_new (Below.refl _ _) _) _⟩
 have c6 : ¬ t.kind = 6 := hx
 have d6 : (t.kind == 6) = false := by simpa using hx
 clear hx
 by_cases hx : t.kind = 7
 ·skip
  have b1 : (t.kind == 1) = false := by rw [hx]; rfl
  have b2 : (t.kind == 2) = false := by rw [hx]; rfl
  have b3 : (t.kind == 3) = false := by rw [hx]; rfl
  have b4 : (t.kind == 4) = false := by rw [hx]; rfl
  have b5 : (t.kind == 5) = false := by rw [hx]; rfl
  have b6 : (t.kind == 6) = false := by rw [hx]; rfl
  have b7 : (t.kind == 7) = true := by rw [hx]; rfl
  by_cases l1 : 1 ≤ n
  ·have l1i : (1 : Int) ≤ ((n : Nat) : Int) := by omega
   by_cases l20 : n ≤ 20
   ·have l20i : ((n : Nat) : Int) ≤ 20 := by omega
    by_cases q0 : q = 0
    ·have q0i : (((q : Nat) : Int) == 0) = true := by simp; omega
     rcases hid_or (noMore t) with um | um
     ·skip
      have R : Hid (formT t = false) := Lib.hid (by
       rw [HF.out]
       unfold formW
       simp [hx, um.out])
      clear HF
      clear hx q0
      as_aux_lemma =>
      rw [R.out]
      clear R
      go_enter Try.func70, Try.ntmps70
      go_wp2_with fail
      go_quiet (fail)
      go_wp2_with fail
      refine (unnamed_any t _ _ (HV.out.below (below_drewN (below_new (Below.refl _ _) _) _))).mono ?_; rintro e w0 ⟨rfl, hb0⟩; rw [um.out]
      go_wp2_with fail
      go_ret
      exact ⟨rfl, (below_drewN (below_new (Below.refl _ _) _) _).trans (hb0.mono (by simp))⟩
     ·skip
      have R : Hid (formT t = true) := Lib.hid (by
       rw [HF.out]
       unfold formW
       simp [hx, l1, l20, q0, um.out])
      clear HF
      clear hx q0
      as_aux_lemma =>
      rw [R.out]
      clear R
      go_enter Try.func70, Try.ntmps70
      go_wp2_with fail
      go_quiet (fail)
      go_wp2_with fail
      refine (unnamed_any t _ _ (HV.out.below (below_drewN (below_new (Below.refl _ _) _) _))).mono ?_; rintro e w0 ⟨rfl, hb0⟩; rw [um.out]
      go_wp2_with fail
      go_ret
      exact ⟨rfl, (below_drewN (below_new (Below.refl _ _) _) _).trans (hb0.mono (by simp))⟩
    ·have q0i : (((q : Nat) : Int) == 0) = false := by simp; omega
     have R : Hid (formT t = false) := Lib.hid (by
      rw [HF.out]
      unfold formW
      simp [hx, q0])
     clear HF
     clear hx q0
     as_aux_lemma =>
     rw [R.out]
     clear R
     go_enter Try.func70, Try.ntmps70
     go_wp2_with fail
     go_quiet (fail)
     go_wp2_with fail
     go_ret
     exact ⟨rfl, below_drewN (below_new (Below.refl _ _) _) _⟩
   ·have l20i : ¬ (((n : Nat) : Int) ≤ 20) := by omega
    have R : Hid (formT t = false) := Lib.hid (by
     rw [HF.out]
     unfold formW
     simp [hx, l20])
    clear HF
    clear hx
    as_aux_lemma =>
    rw [R.out]
    clear R
    go_enter Try.func70, Try.ntmps70
    go_wp2_with fail
    go_quiet (fail)
    go_wp2_with fail
    go_ret
    exact ⟨rfl, below_drewN (below_new (Below.refl _ _) _) _⟩
  ·have l1i : ¬ ((1 : Int) ≤ ((n : Nat) : Int)) := by omega
   have R : Hid (formT t = false) := Lib.hid (by
    rw [HF.out]
    unfold formW
    simp [hx, l1])
   clear HF
   clear hx
   as_aux_lemma =>
   rw [R.out]
   clear R
   go_enter Try.func70, Try.ntmps70
   go_wp2_with fail
   go_quiet (fail)
   go_wp2_with fail
   go_ret
   exact ⟨rfl, below_drewN (below_new (Below.refl _ _) _) _⟩
 have c7 : ¬ t.kind = 7 := hx
 have d7 : (t.kind == 7) = false := by simpa using hx
 clear hx
 by_cases hx : t.kind = 8
 ·skip
  have b1 : (t.kind == 1) = false := by rw [hx]; rfl
  have b2 : (t.kind == 2) = false := by rw [hx]; rfl
  have b3 : (t.kind == 3) = false := by rw [hx]; rfl
  have b4 : (t.kind == 4) = false := by rw [hx]; rfl
  have b5 : (t.kind == 5) = false := by rw [hx]; rfl
  have b6 : (t.kind == 6) = false := by rw [hx]; rfl
  have b7 : (t.kind == 7) = false := by rw [hx]; rfl
  have b8 : (t.kind == 8) = true := by rw [hx]; rfl
  by_cases n0 : n = 0
  ·have n0i : (((n : Nat) : Int) == 0) = true := by simp; omega
   by_cases q0 : q = 0
   ·have q0i : (((q : Nat) : Int) == 0) = true := by simp; omega
    rcases hid_or (localOk t) with lo | lo
    ·skip
     have R : Hid (formT t = false) := Lib.hid (by
      rw [HF.out]
      unfold formW
      simp [hx, lo.out])
     clear HF
     clear hx n0 q0
     as_aux_lemma =>
     rw [R.out]
     clear R
     go_enter Try.func70, Try.ntmps70
     go_wp2_with fail
     go_quiet (fail)
     go_wp2_with fail
     refine (mayLocal_any t _ _ (HV.out.below (below_drewN (below_new (Below.refl _ _) _) _))).mono ?_; rintro e w0 ⟨rfl, hb0⟩; rw [lo.out]
     go_wp2_with fail
     go_ret
     exact ⟨rfl, (below_drewN (below_new (Below.refl _ _) _) _).trans (hb0.mono (by simp))⟩
    ·skip
     have R : Hid (formT t = true) := Lib.hid (by
      rw [HF.out]
      unfold formW
      simp [hx, n0, q0, lo.out])
     clear HF
     clear hx n0 q0
     as_aux_lemma =>
     rw [R.out]
     clear R
     go_enter Try.func70, Try.ntmps70
     go_wp2_with fail
     go_quiet (fail)
     go_wp2_with fail
     refine (mayLocal_any t _ _ (HV.out.below (below_drewN (below_new (Below.refl _ _) _) _))).mono ?_; rintro e w0 ⟨rfl, hb0⟩; rw [lo.out]
     go_wp2_with fail
     go_ret
     exact ⟨rfl, (below_drewN (below_new (Below.refl _ _) _) _).trans (hb0.mono (by simp))⟩
   ·have q0i : (((q : Nat) : Int) == 0) = false := by simp; omega
    have R : Hid (formT t = false) := Lib.hid (by
     rw [HF.out]
     unfold formW
     simp [hx, q0])
    clear HF
    clear hx n0 q0
    as_aux_lemma =>
    rw [R.out]
    clear R
    go_enter Try.func70, Try.ntmps70
    go_wp2_with fail
    go_quiet (fail)
    go_wp2_with fail
    go_ret
    exact ⟨rfl, below_drewN (below_new (Below.refl _ _) _) _⟩
  ·have n0i : (((n : Nat) : Int) == 0) = false := by simp; omega
   have R : Hid (formT t = false) := Lib.hid (by
    rw [HF.out]
    unfold formW
    simp [hx, n0])
   clear HF
   clear hx n0
   as_aux_lemma =>
   rw [R.out]
   clear R
   go_enter Try.func70, Try.ntmps70
   go_wp2_with fail
   go_quiet (fail)
   go_wp2_with fail
   go_ret
   exact ⟨rfl, below_drewN (below_new (Below.refl _ _) _) _⟩
 have c8 : ¬ t.kind = 8 := hx
 have d8 : (t.kind == 8) = false := by simpa using hx
 clear hx
 by_cases hx : t.kind = 9
 ·skip
  have b1 : (t.kind == 1) = false := by rw [hx]; rfl
  have b2 : (t.kind == 2) = false := by rw [hx]; rfl
  have b3 : (t.kind == 3) = false := by rw [hx]; rfl
  have b4 : (t.kind == 4) = false := by rw [hx]; rfl
  have b5 : (t.kind == 5) = false := by rw [hx]; rfl
  have b6 : (t.kind == 6) = false := by rw [hx]; rfl
  have b7 : (t.kind == 7) = false := by rw [hx]; rfl
  have b8 : (t.kind == 8) = false := by rw [hx]; rfl
  have b9 : (t.kind == 9) = true := by rw [hx]; rfl
  by_cases n0 : n = 0
  ·have n0i : (((n : Nat) : Int) == 0) = true := by simp; omega
   by_cases q0 : q = 0
   ·have q0i : (((q : Nat) : Int) == 0) = true := by simp; omega
    rcases hid_or (openOk t) with lo | lo
    ·skip
     have R : Hid (formT t = false) := Lib.hid (by
      rw [HF.out]
      unfold formW
      simp [hx, lo.out])
     clear HF
     clear hx n0 q0
     as_aux_lemma =>
     rw [R.out]
     clear R
     go_enter Try.func70, Try.ntmps70
     go_wp2_with fail
     go_quiet (fail)
     go_wp2_with fail
     refine (mayOpen_any t _ _ (HV.out.below (below_drewN (below_new (Below.refl _ _) _) _))).mono ?_; rintro e w0 ⟨rfl, hb0⟩; rw [lo.out]
     go_wp2_with fail
     go_ret
     exact ⟨rfl, (below_drewN (below_new (Below.refl _ _) _) _).trans (hb0.mono (by simp))⟩
    ·skip
     have R : Hid (formT t = true) := Lib.hid (by
      rw [HF.out]
      unfold formW
      simp [hx, n0, q0, lo.out])
     clear HF
     clear hx n0 q0
     as_aux_lemma =>
     rw [R.out]
     clear R
     go_enter Try.func70, Try.ntmps70
     go_wp2_with fail
     go_quiet (fail)
     go_wp2_with fail
     refine (mayOpen_any t _ _ (HV.out.below (below_drewN (below_new (Below.refl _ _) _) _))).mono ?_; rintro e w0 ⟨rfl, hb0⟩; rw [lo.out]
     go_wp2_with fail
     go_ret
     exact ⟨rfl, (below_drewN (below_new (Below.refl _ _) _) _).trans (hb0.mono (by simp))⟩
   ·have q0i : (((q : Nat) : Int) == 0) = false := by simp; omega
    have R : Hid (formT t = false) := Lib.hid (by
     rw [HF.out]
     unfold formW
     simp [hx, q0])
    clear HF
    clear hx n0 q0
    as_aux_lemma =>
    rw [R.out]
    clear R
    go_enter Try.func70, Try.ntmps70
    go_wp2_with fail
    go_quiet (fail)
    go_wp2_with fail
    go_ret
    exact ⟨rfl, below_drewN (below_new (Below.refl _ _) _) _⟩
  ·have n0i : (((n : Nat) : Int) == 0) = false := by simp; omega
   have R : Hid (formT t = false) := Lib.hid (by
    rw [HF.out]
    unfold formW
    simp [hx, n0])
   clear HF
   clear hx n0
   as_aux_lemma =>
   rw [R.out]
   clear R
   go_enter Try.func70, Try.ntmps70
   go_wp2_with fail
   go_quiet (fail)
   go_wp2_with fail
   go_ret
   exact ⟨rfl, below_drewN (below_new (Below.refl _ _) _) _⟩
 have c9 : ¬ t.kind = 9 := hx
 have d9 : (t.kind == 9) = false := by simpa using hx
 clear hx
 have R : Hid (formT t = false) := Lib.hid (by
  rw [HF.out]
  unfold formW
  simp [c1, c2, c3, c4, c5, c6, c7, c8, c9])
 clear HF
 as_aux_lemma =>
 rw [R.out]
 clear R
 go_enter Try.func70, Try.ntmps70
 go_wp2_with fail
 go_quiet (fail)
 go_wp2_with fail
 go_ret
 exact ⟨rfl, below_drewN (below_new (Below.refl _ _) _) _⟩
end Go.Proofs.Ytcdmgcgjonndpaa

/-  -/
namespace Go.Proofs.Ytcdmgcgjonndpaa
open Go.RowKit
open M
def Cnt (B : Nat) (c : Int) (w : World) : Prop := w.heap[B]? = some (.cells #[.int .i64 c] 3 (0, 0))
theorem Cnt.lt {B : Nat} {c : Int} {w : World} (h : Cnt B c w) : B < w.heap.size := (Array.getElem?_eq_some_iff.1 h).1
theorem Cnt.cell {B : Nat} {c : Int} {w : World} (h : Cnt B c w) : w.cell? ⟨B, 0, none⟩ = some (.int .i64 c) := Lib.cell_of_heap h 0
theorem Cnt.frozen {B : Nat} {c : Int} {w : World} (h : Cnt B c w) : w.frozen? ⟨B, 0, none⟩ = false := Lib.frozen_of_heap h 0
theorem Cnt.alloc {B : Nat} {c : Int} {w : World} (h : Cnt B c w) (o : Obj) : Cnt B c (w.alloc o) := (Lib.alloc_old w o B h.lt).trans h
theorem Cnt.put {B : Nat} {c : Int} {w : World} (h : Cnt B c w) (d : Int) : Cnt B d (w.setCell ⟨B, 0, none⟩ (.int .i64 d)) := one_setCell h
theorem Cnt.below {B : Nat} {c : Int} {w w' : World} (h : Cnt B c w) (hb : Below w.heap.size w w') : Cnt B c w' := (hb.block B h.lt).trans h
set_option maxRecDepth 100000 in
set_option maxHeartbeats 4000000 in
theorem count_any (N : Nat) : ∀ (t : Ty), many t ≤ N → ∀ (d c : Int), 0 ≤ d → d ≤ 33 → 0 ≤ c → c ≤ 500 → ∀ (B : Nat) (v : Value) (W w : World), TyV W v t → Below W.heap.size W w → W.heap.size ≤ B → Cnt B c w →
  Calls Try.prog 57 #[v, .int .i64 d, .pointer (some ⟨B, 0, none⟩)] w fun e w' => e = .returned (.bool (countT t d c).1) ∧ Cnt B (countT t d c).2 w' ∧ Below B w w' := by
 induction N with
 | zero => intro t h; have := many_pos t; omega
 | succ N ih =>
  intro t hN d c hd0 hd hc0 hc B v W w hv hW hWB hC
  have HV := Lib.hid hv
  obtain ⟨l, rfl, hT⟩ := hv
  obtain ⟨An, cn, As, cs, rfl, -, -, -, hzn, hz, -, hS⟩ := hT.parts
  have HS := Lib.hid hS
  clear hT hS
  have HE := Lib.hid (countT_eq t d c)
  generalize hn : t.subs.length = n at hz HV
  have HN := Lib.hid hn
  clear hn
  have hBl := hC.lt
  obtain ⟨w2, hw2⟩ : ∃ w2, w2 = (w.setCell ⟨B, 0, none⟩ (.int .i64 (c + 1))).alloc (.cells #[.int .i64 t.kind, .string t.pkg, .int .i64 t.major, .string t.mod, .string t.name, .slice An t.names.length cn, .slice As n cs] 25) := ⟨_, rfl⟩
  have hss : (w.setCell ⟨B, 0, none⟩ (.int .i64 (c + 1))).heap.size = w.heap.size := by simp
  have HC2 : Hid (Cnt B (c + 1) w2) := Lib.hid (by rw [hw2]; exact (hC.put (c + 1)).alloc _)
  have HBW : Hid (Below B w w2) := Lib.hid (by rw [hw2]; exact ((Below.refl B w).setCell (p := ⟨B, 0, none⟩) (Nat.le_refl _) _).alloc (by omega) _)
  have HWW0 := Lib.hid hW
  have HWW : Hid (Below W.heap.size W w2) := Lib.hid (hW.trans (HBW.out.mono hWB))
  have hsz : w.heap.size < w2.heap.size := by rw [hw2]; simp
  have HX : Hid (∀ i v, (#[.int .i64 t.kind, .string t.pkg, .int .i64 t.major, .string t.mod, .string t.name, .slice An t.names.length cn, .slice As n cs] : Array Value)[i]? = some v → w2.cell? ⟨w.heap.size, i, none⟩ = some v) := Lib.hid (fun i v hv => by
   rw [Lib.cell_of_heap (cs := #[.int .i64 t.kind, .string t.pkg, .int .i64 t.major, .string t.mod, .string t.name, .slice An t.names.length cn, .slice As n cs]) (T := 25) (fr := (0, 0))]
   ·exact hv
   ·rw [hw2, ← hss]
    exact heap_alloc_new _ _)
  have c0 := hC.cell
  have f0 := hC.frozen
  have HW2 := Lib.hid hw2
  clear hW hC hw2 hss
  go_enter Try.func57, Try.ntmps57
  go_upto_region 2 with fail
  rw [← HW2.out]
  clear c0 f0 HW2
  have c2 := HC2.out.cell
  have x0 := HX.out 0 _ rfl
  have x1 := HX.out 1 _ rfl
  have x2 := HX.out 2 _ rfl
  have x3 := HX.out 3 _ rfl
  have x4 := HX.out 4 _ rfl
  have x5 := HX.out 5 _ rfl
  have x6 := HX.out 6 _ rfl
  by_cases g1 : 500 < c + 1
  ·have R : Hid (countT t d c = (false, c + 1)) := Lib.hid (by rw [HE.out, if_pos (.inl g1)])
   go_wp2_with fail
   go_ret
   exact ⟨ret_bool (by rw [R.out]), by rw [R.out]; exact HC2.out, HBW.out⟩
  by_cases g2 : 32 < d
  ·have R : Hid (countT t d c = (false, c + 1)) := Lib.hid (by rw [HE.out, if_pos (.inr (.inl g2))])
   go_wp2_with fail
   go_ret
   exact ⟨ret_bool (by rw [R.out]), by rw [R.out]; exact HC2.out, HBW.out⟩
  rcases hid_or (formT t) with hf | hf
  ·have R : Hid (countT t d c = (false, c + 1)) := Lib.hid (by rw [HE.out, if_pos (.inr (.inr hf.out))])
   go_wp2_with fail
   refine (formed_any t _ _ (HV.out.below HWW.out)).mono ?_; rintro e w3 ⟨rfl, hb3⟩; rw [hf.out]
   go_wp2_with fail
   go_ret
   exact ⟨ret_bool (by rw [R.out]), by rw [R.out]; exact HC2.out.below hb3, HBW.out.trans (hb3.mono (by omega))⟩
  have R : Hid (countT t d c = countL t.subs (d + 1) (c + 1)) := Lib.hid (by
   rw [HE.out, if_neg]
   rintro (x | x | x)
   ·exact g1 x
   ·exact g2 x
   ·rw [hf.out] at x; cases x)
  go_wp2_with fail
  refine (formed_any t _ _ (HV.out.below HWW.out)).mono ?_; rintro e w3 ⟨rfl, hb3⟩; rw [hf.out]
  have y6 : w3.cell? ⟨w.heap.size, 6, none⟩ = some (.slice As n cs) := (hb3.cell (p := ⟨w.heap.size, 6, none⟩) hsz).trans x6
  have HC3 := Lib.hid (HC2.out.below hb3)
  have HB3 := Lib.hid (HBW.out.trans (hb3.mono (by omega)))
  have hd1 : d ≤ 32 := by omega
  have hc1 : c + 1 ≤ 500 := by omega
  clear x0 x1 x2 x3 x4 x5 x6 c2 hb3 HX HC2 HBW g1 g2 HE hsz
  go_wp2_with fail
  go_loopw [30] (fun i wr => ∃ (k : Nat) (ck : Int), k ≤ n ∧ i = .int .i64 k ∧ 0 ≤ ck ∧ ck ≤ 500 ∧ Hid (countT t d c = countL (t.subs.drop k) (d + 1) ck) ∧ Hid (Cnt B ck wr) ∧ Hid (Below B w wr)) (fun i _ => n - (intOf i).toNat)
  case atStart => exact ⟨0, c + 1, by omega, rfl, by omega, by omega, R, HC3, HB3⟩
  case round =>
   obtain ⟨k, ck, hk, rfl, hk0, hk5, HK, HCK, HBK⟩ := hrel
   obtain ⟨wo, rfl⟩ : ∃ wo : World, wo = wr := ⟨_, rfl⟩
   have HWK : Hid (Below W.heap.size W wo) := Lib.hid (HWW0.out.trans (HBK.out.mono hWB))
   by_cases hlt : k < n
   ·obtain ⟨s, hs⟩ : ∃ s, t.subs[k]? = some s := ⟨_, List.getElem?_eq_getElem (by rw [HN.out]; exact hlt)⟩
    obtain ⟨g, o, v0, v1, v2, v3, v4, v5, v6, rfl, hg, e0, e1, e2, e3, e4, e5, e6, hs7⟩ := HS.out k s hs
    obtain ⟨Am, cm, At, ct, rfl, rfl, rfl, rfl, rfl, rfl, rfl⟩ := hs7.seven
    have tr : ∀ q v, W.cell? ⟨g, q, none⟩ = some v → wo.cell? ⟨g, q, none⟩ = some v := fun q v hv => (HWK.out.cell (p := ⟨g, _, none⟩) hg).trans hv
    have h0 := tr _ _ e0
    have h1 := tr _ _ e1
    have h2 := tr _ _ e2
    have h3 := tr _ _ e3
    have h4 := tr _ _ e4
    have h5 := tr _ _ e5
    have h6 := tr _ _ e6
    have hgo : g < wo.heap.size := Nat.lt_of_lt_of_le hg HWK.out.size
    clear e0 e1 e2 e3 e4 e5 e6 tr hg
    have hsm := sub_many hs
    have HKS := Lib.hid (countL_at hs (d + 1) ck)
    have HBs := Lib.hid (countT_is s (d + 1) ck hk5)
    have IH := Lib.hid (fun w' (hw' : Below W.heap.size W w') (hc' : Cnt B ck w') => ih s (by omega) (d + 1) ck (by omega) (by omega) hk0 hk5 B (.agg #[.int .i64 s.kind, .string s.pkg, .int .i64 s.major, .string s.mod, .string s.name, .slice Am s.names.length cm, .slice At s.subs.length ct]) W w' ⟨_, rfl, hs7⟩ hw' hWB hc')
    clear hs7 hs hsm
    have bds := HBs.out
    by_cases hg1 : (countT s (d + 1) ck).1 = true
    ·have R2 : Hid (countT t d c = countL (t.subs.drop (k + 1)) (d + 1) (countT s (d + 1) ck).2) := Lib.hid (by rw [HK.out, HKS.out, if_pos hg1])
     have q2 : (countT s (d + 1) ck).2 ≤ 500 := by rw [bds.2.1 hg1]; exact (bds.1.1 hg1).2.1
     have q1 : 0 ≤ (countT s (d + 1) ck).2 := by have := bds.2.2.1; omega
     have HG := Lib.hid hg1
     clear bds hg1
     go_wp2_with fail
     refine (IH.out _ (HWK.out.alloc HWK.out.size _) (HCK.out.alloc _)).mono ?_; rintro e w5 ⟨rfl, hc5, hb5⟩; rw [HG.out]
     have HB5 : Hid (Below B w w5) := Lib.hid ((HBK.out.alloc (by have := HBK.out.size; omega) _).trans hb5)
     have HC5 := Lib.hid hc5
     clear h0 h1 h2 h3 h4 h5 h6 hc5 hb5 HBs IH
     go_wp2_with fail
     go_roundw
     case rel => exact ⟨k + 1, (countT s (d + 1) ck).2, by omega, by go_num, q1, q2, R2, HC5, HB5⟩
     case measure => simp [intOf]; omega
    ·have R2 : Hid (countT t d c = (false, (countT s (d + 1) ck).2)) := Lib.hid (by rw [HK.out, HKS.out, if_neg hg1])
     have HG : Hid ((countT s (d + 1) ck).1 = false) := Lib.hid (by simpa using hg1)
     clear bds hg1
     go_wp2_with fail
     refine (IH.out _ (HWK.out.alloc HWK.out.size _) (HCK.out.alloc _)).mono ?_; rintro e w5 ⟨rfl, hc5, hb5⟩; rw [HG.out]
     have HB5 : Hid (Below B w w5) := Lib.hid ((HBK.out.alloc (by have := HBK.out.size; omega) _).trans hb5)
     have HC5 := Lib.hid hc5
     clear h0 h1 h2 h3 h4 h5 h6 hc5 hb5 HBs IH
     go_wp2_with fail
     go_ret
     exact ⟨ret_bool (by rw [R2.out]), by rw [R2.out]; exact HC5.out, HB5.out⟩
   ·have R2 : Hid (countT t d c = (true, ck)) := Lib.hid (by
     rw [HK.out, List.drop_eq_nil_of_le (by rw [HN.out]; omega)]; rfl)
    go_wp2_with fail
    go_ret
    exact ⟨ret_bool (by rw [R2.out]), by rw [R2.out]; exact HCK.out, HBK.out⟩
set_option maxRecDepth 100000 in
set_option maxHeartbeats 4000000 in
theorem size_any (t : Ty) (v : Value) (w : World) (hv : TyV w v t) :
  Calls Try.prog 45 #[v] w fun e w' => e = .returned (.int .i64 (sizeT t : Nat)) ∧ Below w.heap.size w w' := by
 have HV := Lib.hid hv
 obtain ⟨l, rfl, hT⟩ := hv
 obtain ⟨An, cn, As, cs, rfl, -, -, -, hzn, hz, -, hS⟩ := hT.parts
 clear hT hS
 have HM := Lib.hid (may_iff t)
 have HI := Lib.hid (countT_is t 1 0 (by omega))
 obtain ⟨wb, hwb⟩ : ∃ wb, wb = w.alloc (.cells #[.int .i64 t.kind, .string t.pkg, .int .i64 t.major, .string t.mod, .string t.name, .slice An t.names.length cn, .slice As t.subs.length cs] 25) := ⟨_, rfl⟩
 have hbs : wb.heap.size = w.heap.size + 1 := by rw [hwb]; simp
 have HBB : Hid (Below w.heap.size w wb) := Lib.hid (by rw [hwb]; exact below_new (Below.refl _ _) _)
 have HC : Hid (Cnt (w.heap.size + 1) 0 (wb.alloc (.cells #[.int .i64 0] 3))) := Lib.hid (by rw [← hbs]; exact heap_alloc_new wb _)
 have hle : wb.heap.size ≤ w.heap.size + 1 := by omega
 have HWB := Lib.hid hwb
 rcases hid_or (countT t 1 0).1 with hg | hg
 ·have R : Hid (sizeT t = 0) := Lib.hid (by unfold sizeT; rw [if_neg]; rw [HM.out, hg.out]; simp)
  rw [R.out]
  go_enter Try.func45, Try.ntmps45
  go_wp2_with fail
  rw [← HWB.out]
  refine (count_any _ t (Nat.le_refl _) 1 0 (by omega) (by omega) (by omega) (by omega) (w.heap.size + 1) _ wb _ (HV.out.below HBB.out) (below_new (Below.refl _ _) _) hle HC.out).mono ?_; rintro e w5 ⟨rfl, hc5, hb5⟩; rw [hg.out]
  have HB5 : Hid (Below w.heap.size w w5) := Lib.hid ((below_new HBB.out _).trans (hb5.mono (by omega)))
  clear hb5 hc5
  go_wp2_with fail
  go_ret
  exact ⟨rfl, HB5.out⟩
 ·have R : Hid ((sizeT t : Int) = (countT t 1 0).2) := Lib.hid (by
   unfold sizeT; rw [if_pos (HM.out.2 hg.out), HI.out.2.1 hg.out]; omega)
  rw [R.out]
  go_enter Try.func45, Try.ntmps45
  go_wp2_with fail
  rw [← HWB.out]
  refine (count_any _ t (Nat.le_refl _) 1 0 (by omega) (by omega) (by omega) (by omega) (w.heap.size + 1) _ wb _ (HV.out.below HBB.out) (below_new (Below.refl _ _) _) hle HC.out).mono ?_; rintro e w5 ⟨rfl, hc5, hb5⟩; rw [hg.out]
  have HB5 : Hid (Below w.heap.size w w5) := Lib.hid ((below_new HBB.out _).trans (hb5.mono (by omega)))
  have c5 := hc5.cell
  clear hb5 hc5
  go_wp2_with fail
  go_ret
  exact ⟨rfl, HB5.out⟩
set_option maxRecDepth 100000 in
set_option maxHeartbeats 1000000 in
theorem mayK_any (t : Ty) (v : Value) (w : World) (hv : TyV w v t) :
  Calls Try.prog 34 #[v] w fun e w' => e = .returned (.bool (mayT t)) ∧ Below w.heap.size w w' := by
 have HV := Lib.hid hv
 obtain ⟨l, rfl, hT⟩ := hv
 obtain ⟨An, cn, As, cs, rfl, -, -, -, hzn, hz, -, hS⟩ := hT.parts
 clear hT hS
 have HP := Lib.hid (size_pos t)
 go_enter Try.func34, Try.ntmps34
 go_wp2_with fail
 refine (size_any t _ _ (HV.out.below (below_new (Below.refl _ _) _))).mono ?_; rintro e w2 ⟨rfl, hb2⟩
 go_wp2_with fail
 go_ret
 exact ⟨ret_bool HP.out.symm, (below_new (Below.refl _ _) _).trans (hb2.mono (by simp))⟩
end Go.Proofs.Ytcdmgcgjonndpaa

/-  -/
namespace Go.Proofs.Ytcdmgcgjonndpaa
open Go.RowKit
end Go.Proofs.Ytcdmgcgjonndpaa

/-  -/
namespace Go.Proofs.Ytcdmgcgjonndpaa
open Go.RowKit
end Go.Proofs.Ytcdmgcgjonndpaa

/-  -/
namespace Go.Proofs.Ytcdmgcgjonndpaa
open Go.RowKit
open Go.Sort
open M
theorem z46 : (⟨#[46]⟩ : ByteArray).size = 1 := rfl
end Go.Proofs.Ytcdmgcgjonndpaa

/-  -/
namespace Go.Proofs.Ytcdmgcgjonndpaa
open Go.RowKit
open Go.Sort Go.Maps
open M
end Go.Proofs.Ytcdmgcgjonndpaa

/-  -/
namespace Go.Proofs.Ytcdmgcgjonndpaa
open Go.RowKit
open M
structure Cp1 (w : World) (t : Ty) (As : Option Addr) (n cs : Nat) (A5 : Option Addr) (c5 : Nat) (wr : World) : Prop where
  below : Below w.heap.size w wr
  box : wr.heap[w.heap.size]? = some (.cells #[.int .i64 t.kind, .string t.pkg, .int .i64 t.major, .string t.mod, .string t.name, .slice A5 t.names.length c5, .slice As n cs] 25 (0, 0))
  res : wr.heap[w.heap.size + 1]? = some (.cells #[.int .i64 0, .string ⟨#[]⟩, .int .i64 0, .string ⟨#[]⟩, .string ⟨#[]⟩, .slice none 0 0, .slice none 0 0] 25 (0, 0))
  own : wr.ownsRow (w.heap.size + 2) 9 1 (.slice A5 t.names.length c5) t.names.length (t.names.map Value.string)
end Go.Proofs.Ytcdmgcgjonndpaa

/-  -/
namespace Go.Proofs.Ytcdmgcgjonndpaa
open Go.RowKit
open Go.Sort
open M
end Go.Proofs.Ytcdmgcgjonndpaa

/-  -/
namespace Go.Proofs.Ytcdmgcgjonndpaa
open Go.RowKit
open Go.Sort Go.Maps
open M
end Go.Proofs.Ytcdmgcgjonndpaa

/-  -/
namespace Go.Proofs.Ytcdmgcgjonndpaa
open Go.RowKit
open Go.Sort Go.Maps
open M
theorem grown_of {w w' : World} {r : Option Nat} (h : Below w.heap.size w w') : w.grownBy w' r := ⟨h.os, h.tape, h.output, h.size, fun b hb _ => h.block b hb⟩
theorem grown_over {a b c : World} {r : Nat} (h : a.grownBy b (some r)) (h' : b.grownBy c (some r)) : a.grownBy c (some r) := h.trans h'
end Go.Proofs.Ytcdmgcgjonndpaa

/-  -/
namespace Go.Proofs.Ytcdmgcgjonndpaa
open Go.RowKit
open Go.Sort Go.Maps
open M
end Go.Proofs.Ytcdmgcgjonndpaa

/-  -/
namespace Go.Proofs.Ytcdmgcgjonndpaa
open Go.RowKit
open Go.Sort Go.Maps
open M
theorem two_boxes (w : World) (c1 c2 : Array Value) (t1 t2 : TypeId) : ∃ W2, W2 = (w.alloc (.cells c1 t1)).alloc (.cells c2 t2) ∧ Below w.heap.size w W2 ∧ W2.heap[w.heap.size]? = some (.cells c1 t1 (0, 0)) ∧ W2.heap[w.heap.size + 1]? = some (.cells c2 t2 (0, 0)) ∧ w.heap.size + 1 < W2.heap.size := by
  have hs1 : (w.alloc (.cells c1 t1)).heap.size = w.heap.size + 1 := by simp
  refine ⟨_, rfl, below_new (below_new (Below.refl _ _) _) _, ?_, ?_, by simp⟩
  · rw [Lib.alloc_old _ _ _ (by rw [hs1]; omega)]; exact heap_alloc_new w _
  · rw [← hs1]; exact heap_alloc_new _ _
end Go.Proofs.Ytcdmgcgjonndpaa

/-  -/
namespace Go.Proofs.Ytcdmgcgjonndpaa
open Go.RowKit
open Go.Sort Go.Maps
open M
end Go.Proofs.Ytcdmgcgjonndpaa

/-  -/
namespace Go.Proofs.Ytcdmgcgjonndpaa
open Go.RowKit
open Go.Sort
open M
end Go.Proofs.Ytcdmgcgjonndpaa

/-  -/
namespace Go.Proofs.Ytcdmgcgjonndpaa
open Go.RowKit
open Go.Sort
open M
end Go.Proofs.Ytcdmgcgjonndpaa

/-  -/
namespace Go.Proofs.Ytcdmgcgjonndpaa
open Go.RowKit
open Go.Sort Go.Maps
open M
def dupB {α : Type} (key : α → ByteArray) (l : List α) (i : Nat) : Bool := match l[i]? with | some x => (l.take i).any fun y => decide (key y = key x) | none => false
theorem str_eq (a b : ByteArray) : (a.toList == b.toList) = decide (a = b) := by
  rw [Bool.eq_iff_iff, beq_iff_eq, decide_eq_true_eq, Lib.toList_data, Lib.toList_data, bytes_list]
end Go.Proofs.Ytcdmgcgjonndpaa

/-  -/
namespace Go.Proofs.Ytcdmgcgjonndpaa
open Go Go.RowKit Go.Shelf
open Go.Sort
open M
theorem nanB_any (s : ByteArray) (w : World) : Calls Try.prog 91 #[.string s] w fun e w' => e = .returned (.bool false) ∧ w' = w := by
 have hs := str_eq s s
 rw [decide_eq_true rfl] at hs
 go_enter Try.func91, Try.ntmps91
 go_wp2_with fail
 go_ret
 exact ⟨rfl, rfl⟩
theorem nanS_any (s : ByteArray) (w : World) : Calls Try.prog 72 #[.string s] w fun e w' => e = .returned (.bool false) ∧ w' = w := by
 have hs := str_eq s s
 rw [decide_eq_true rfl] at hs
 go_enter Try.func72, Try.ntmps72
 go_wp2_with fail
 go_ret
 exact ⟨rfl, rfl⟩
theorem lessB_any (a b : ByteArray) (w : World) : Calls Try.prog 71 #[.string a, .string b] w fun e w' => e = .returned (.bool (decide (LtS a b))) ∧ w' = w := by
 go_enter Try.func71, Try.ntmps71
 go_wp2_with fail
 refine (nanB_any a w).mono ?_; rintro e w' ⟨rfl, rfl⟩
 go_wp2_with fail
 go_ret
 exact ⟨by rw [← bless_lts]; rfl, rfl⟩
def BsOut (l : List ByteArray) (s : ByteArray) (w : World) (e : Ending) (w' : World) : Prop := ∃ (i : Nat) (b : Bool), e = .returned (.tuple #[.int .i64 i, .bool b]) ∧ (b = true ↔ s ∈ l) ∧ (b = true → l[i]? = some s) ∧ Below w.heap.size w w'
set_option maxRecDepth 100000 in
set_option maxHeartbeats 4000000 in
theorem search_any (A : Option Addr) (n c : Nat) (l : List ByteArray) (s : ByteArray) (w : World) (hn : l.length = n) (hz : n ≤ 4611686018427387903) (hN : NamesAt w A l) (hr : Rising l) :
  Calls Try.prog 59 #[.slice A n c, .string s] w (BsOut l s w) := by
 have HN := Lib.hid hn
 have HNA := Lib.hid hN
 have HR := Lib.hid hr
 clear hn hN hr
 go_enter Try.func59, Try.ntmps59
 go_wp2_with fail
 go_loopw [7, 8] (fun s7 s8 wr => ∃ i j : Nat, i ≤ j ∧ j ≤ n ∧ s7 = .int .i64 i ∧ s8 = .int .i64 j ∧ Hid (∀ q x, q < i → l[q]? = some x → LtS x s) ∧ Hid (∀ q x, j ≤ q → l[q]? = some x → ¬ LtS x s) ∧ Hid (Below w.heap.size w wr)) (fun s7 s8 _ => (intOf s8).toNat - (intOf s7).toNat)
 case atStart => exact ⟨0, n, by omega, by omega, rfl, rfl, Lib.hid (fun q x h => by omega), Lib.hid (fun q x h hx => by have := (List.getElem?_eq_some_iff.1 hx).1; have := HN.out; omega), Lib.hid (Below.refl _ _)⟩
 case round =>
  obtain ⟨i, j, hij, hj, rfl, rfl, HL, HG, HB⟩ := hrel
  obtain ⟨wo, rfl⟩ : ∃ wo : World, wo = wr := ⟨_, rfl⟩
  by_cases hlt : i < j
  ·have w1 : IntKind.i64.wrap ((i : Int) + j) = i + j := by rw [IntKind.wrap_i64]; omega
   have w2 : IntKind.u64.wrap ((i : Int) + j) = i + j := by rw [IntKind.wrap_u64]; omega
   have hlt' : (i : Int) < j := by omega
   obtain ⟨h, hh⟩ : ∃ h : Nat, h = (i + j) / 2 := ⟨_, rfl⟩
   have hc : ((i : Int) + j) / 2 = (h : Int) := by omega
   have hih : i ≤ h := by omega
   have hhj : h < j := by omega
   have h0 : (0 : Int) ≤ h := by omega
   have h1 : (h : Int) < n := by omega
   obtain ⟨x, hx⟩ : ∃ x, l[h]? = some x := ⟨_, List.getElem?_eq_getElem (by rw [HN.out]; omega)⟩
   obtain ⟨g, o, rfl, hg, hcl, -⟩ := HNA.out h x hx
   have y0 := (HB.out.cell (p := ⟨g, _, none⟩) hg).trans hcl
   have HX := Lib.hid hx
   have HLS := Lib.hid (lessB_any x s wo)
   clear hh hcl hx
   go_upto_region 5 with fail
   clear hc w1 w2 hlt'
   go_wp2_with fail
   refine HLS.out.mono ?_; rintro e w' ⟨rfl, rfl⟩
   clear HLS y0
   by_cases hls : LtS x s
   ·have NL : Hid (∀ q y, q < h + 1 → l[q]? = some y → LtS y s) := Lib.hid (fun q y hq hy => by
     rcases Nat.lt_or_ge q h with c | c
     ·obtain ⟨hq1, rfl⟩ := List.getElem?_eq_some_iff.1 hy
      obtain ⟨hh1, rfl⟩ := List.getElem?_eq_some_iff.1 HX.out
      exact lts_trans (List.pairwise_iff_getElem.1 HR.out q h hq1 hh1 c) hls
     ·obtain rfl : q = h := by omega
      rw [HX.out] at hy; cases hy; exact hls)
    rw [decide_eq_true hls]
    clear hls
    go_wp2_with fail
    go_roundw
    case rel => exact ⟨h + 1, j, by omega, by omega, by go_num, rfl, NL, HG, HB⟩
    case measure => simp [intOf]; omega
   ·have NG : Hid (∀ q y, h ≤ q → l[q]? = some y → ¬ LtS y s) := Lib.hid (fun q y hq hy => by
     rcases Nat.lt_or_ge h q with c | c
     ·obtain ⟨hq1, rfl⟩ := List.getElem?_eq_some_iff.1 hy
      obtain ⟨hh1, rfl⟩ := List.getElem?_eq_some_iff.1 HX.out
      exact fun hy => hls (lts_trans (List.pairwise_iff_getElem.1 HR.out h q hh1 hq1 c) hy)
     ·obtain rfl : q = h := by omega
      rw [HX.out] at hy; cases hy; exact hls)
    rw [decide_eq_false hls]
    clear hls
    go_wp2_with fail
    go_roundw
    case rel => exact ⟨i, h, hih, by omega, rfl, rfl, HL, NG, HB⟩
    case measure => simp [intOf]; omega
  ·obtain rfl : i = j := by omega
   by_cases hin : i < n
   ·obtain ⟨x, hx⟩ : ∃ x, l[i]? = some x := ⟨_, List.getElem?_eq_getElem (by rw [HN.out]; exact hin)⟩
    obtain ⟨g, o, rfl, hg, hcl, -⟩ := HNA.out i x hx
    have y0 := (HB.out.cell (p := ⟨g, _, none⟩) hg).trans hcl
    have h0 : (0 : Int) ≤ i := by omega
    have h1 : (i : Int) < n := by omega
    have hq := str_eq x s
    have HX := Lib.hid hx
    by_cases hxs : x = s
    ·rw [decide_eq_true hxs] at hq
     have MEM : Hid (s ∈ l ∧ l[i]? = some s) := Lib.hid ⟨by rw [← hxs]; exact List.mem_of_getElem? hx, by rw [hx, hxs]⟩
     clear hxs hx hcl
     go_wp2_with fail
     (try simp only [Exit.inBlock, Exit.then])
     exact bodyPost_ret (results_tmp2 rfl _ _ _) rfl ⟨i, true, rfl, ⟨fun _ => MEM.out.1, fun _ => rfl⟩, fun _ => MEM.out.2, HB.out⟩
    ·rw [decide_eq_false hxs] at hq
     have MEM : Hid (¬ s ∈ l) := Lib.hid (fun hs => by
      exfalso
      obtain ⟨q, hq⟩ := List.getElem?_of_mem hs
      rcases Nat.lt_trichotomy q i with c | c | c
      ·exact lts_irrefl _ (HL.out q s c hq)
      ·subst c; rw [hx] at hq; cases hq; exact hxs rfl
      ·obtain ⟨hq1, e1⟩ := List.getElem?_eq_some_iff.1 hq
       obtain ⟨hi1, e2⟩ := List.getElem?_eq_some_iff.1 hx
       have := List.pairwise_iff_getElem.1 HR.out i q hi1 hq1 c
       rw [e1, e2] at this
       exact HG.out i x (Nat.le_refl _) hx this)
     have HN1 := Lib.hid (nanS_any x wo)
     clear hxs hx hcl
     go_wp2_with fail
     refine HN1.out.mono ?_; rintro e w' ⟨rfl, rfl⟩
     go_wp2_with fail
     (try simp only [Exit.inBlock, Exit.then])
     exact bodyPost_ret (results_tmp2 rfl _ _ _) rfl ⟨i, false, rfl, ⟨fun h => (by cases h), fun h => absurd h MEM.out⟩, fun h => (by cases h), HB.out⟩
   ·have h1 : ¬ (i : Int) < n := by omega
    have MEM : Hid (¬ s ∈ l) := Lib.hid (fun hs => by
     exfalso
     obtain ⟨q, hq⟩ := List.getElem?_of_mem hs
     have hq1 := (List.getElem?_eq_some_iff.1 hq).1
     exact lts_irrefl _ (HL.out q s (by have := HN.out; omega) hq))
    go_wp2_with fail
    (try simp only [Exit.inBlock, Exit.then])
    exact bodyPost_ret (results_tmp2 rfl _ _ _) rfl ⟨i, false, rfl, ⟨fun h => (by cases h), fun h => absurd h MEM.out⟩, fun h => (by cases h), HB.out⟩
end Go.Proofs.Ytcdmgcgjonndpaa

/-  -/
namespace Go.Proofs.Ytcdmgcgjonndpaa
open Go.RowKit Go.Shelf
open Go.Sort Go.Maps
open M
attribute [local go_sem] Oper.semAt_some
end Go.Proofs.Ytcdmgcgjonndpaa

/-  -/
namespace Go.Proofs.Ytcdmgcgjonndpaa
open Go.RowKit Go.Shelf
open Go.Sort Go.Maps
open M
attribute [local go_sem] Oper.semAt_some
end Go.Proofs.Ytcdmgcgjonndpaa

/-  -/
namespace Go.Proofs.Ytcdmgcgjonndpaa
open Go.RowKit
open Go.Sort
open M
end Go.Proofs.Ytcdmgcgjonndpaa

/-  -/
namespace Go.Proofs.Ytcdmgcgjonndpaa
open Go.RowKit
open Go.Sort
open M
end Go.Proofs.Ytcdmgcgjonndpaa

/-  -/
namespace Go.Proofs.Ytcdmgcgjonndpaa
open Go.RowKit
open Go.Sort
open M
end Go.Proofs.Ytcdmgcgjonndpaa

/-  -/
namespace Go.Proofs.Ytcdmgcgjonndpaa
open Go Go.RowKit
section
variable {P : Program} {ops : Array Oper} {C : World → Prop}
end
end Go.Proofs.Ytcdmgcgjonndpaa

/-  -/
namespace Go.Proofs.Ytcdmgcgjonndpaa
open Go.RowKit Go.Shelf
open Go.Sort Go.Maps
open M
end Go.Proofs.Ytcdmgcgjonndpaa

/-  -/
namespace Go.Proofs.Ytcdmgcgjonndpaa
open Go.RowKit Go.Shelf
open Go.Sort Go.Maps
open M
end Go.Proofs.Ytcdmgcgjonndpaa

/-  -/
namespace Go.Proofs.Ytcdmgcgjonndpaa
open Go.RowKit Go.Shelf
open Go.Sort Go.Maps
open M
end Go.Proofs.Ytcdmgcgjonndpaa

/-  -/
namespace Go.Proofs.Ytcdmgcgjonndpaa
open Go.RowKit Go.Shelf
open Go.Sort Go.Maps
open M
end Go.Proofs.Ytcdmgcgjonndpaa

/-  -/
namespace Go.Proofs.Ytcdmgcgjonndpaa
open Go.RowKit
open Go.Sort
open M
end Go.Proofs.Ytcdmgcgjonndpaa

/-  -/
namespace Go.Proofs.Ytcdmgcgjonndpaa
open Go Go.ChangeShapes Go.WideShapes Go.ChangeAt Go.RowKit Go.Joins Go.Deep
open M
section
variable {H : Type} {enc : TypeId × Value → H} {w : World} {base : Nat} {sp : Nat → Bool} {held : Bool}
end
end Go.Proofs.Ytcdmgcgjonndpaa

/-  -/
namespace Go.Proofs.Ytcdmgcgjonndpaa
open Go.RowKit
open M
end Go.Proofs.Ytcdmgcgjonndpaa

/-  -/
namespace Go.Proofs.Ytcdmgcgjonndpaa
open Go.RowKit
open Go.Sort
open M
end Go.Proofs.Ytcdmgcgjonndpaa

/-  -/
namespace Go.Proofs.Ytcdmgcgjonndpaa
open Go Go.RowKit
open Go.Sort
open M
section
variable {P : Program} (w : World)
end
theorem small_size {s : ByteArray} (h : smallB s.data.toList = true) : s.size ≤ 20 := by
  unfold smallB at h
  rw [Bool.and_eq_true, spell_iff] at h
  rw [← len_size]; exact h.1.2.1
theorem great_size {s : ByteArray} (h : greatB s.data.toList = true) : s.size ≤ 20 := by
  unfold greatB at h
  rw [Bool.and_eq_true, spell_iff] at h
  rw [← len_size]; exact h.1.2.1
end Go.Proofs.Ytcdmgcgjonndpaa

/-  -/
namespace Go.Proofs.Ytcdmgcgjonndpaa
open Go.RowKit
open M
structure Ok7 (m : Mo) : Prop where
  imp : ∀ i, i < m.imps.length → dupB (·.asn) m.imps i = false
  dec : ∀ i, i < m.decs.length → dupB (·.name) m.decs i = false
  whole : ∀ (i : Nat) (d : De), m.decs[i]? = some d → wholeT m d.typ = true
  circ : ∀ (i : Nat) (d : De), m.decs[i]? = some d → ¬ Reach (entries m) (saidT m d.typ) i
  hid : ∀ (i j : Nat) (d e : De), m.decs[i]? = some d → m.decs[j]? = some e → Reach (entries m) (saidT m d.typ) j → e.kind ≠ 2
structure Emb (f : Nat → Nat) (m' m : Mo) : Prop where
  imps : m'.imps = m.imps
  dec : ∀ (i : Nat) (d : De), m'.decs[i]? = some d → m.decs[f i]? = some d
  inj : ∀ i j, i < m'.decs.length → j < m'.decs.length → f i = f j → i = j
  sur : ∀ (i : Nat) (d : De), m.decs[i]? = some d → d.kind ≠ 4 → ∃ j, j < m'.decs.length ∧ f j = i
section
variable {f : Nat → Nat} {m' m : Mo}
end
end Go.Proofs.Ytcdmgcgjonndpaa

/-  -/
namespace Go.Proofs.Ytcdmgcgjonndpaa
open Go.RowKit
open M
end Go.Proofs.Ytcdmgcgjonndpaa

/-  -/
namespace Go.Proofs.Ytcdmgcgjonndpaa
open Go.RowKit
open M
mutual
def locT : Ty → List Ty
  | .mk k p j d n ns ss => if k = 8 then .mk k p j d n ns ss :: locL ss else locL ss
def locL : List Ty → List Ty
  | [] => []
  | t :: r => locT t ++ locL r
end
def oneN (m : Mo) (x : Ty) : List Nat := if x.mod.size = 0 then (typAt m x.name).toList else []
structure Rch (m : Mo) (t : Ty) (F : Nat → Bool) (L : List Ty) : Prop where
  only : ∀ i, F i = true → Reach (entries m) (saidT m t) i
  says : ∀ x ∈ L, ∀ i ∈ oneN m x, Reach (entries m) (saidT m t) i
  own : ∀ x ∈ locT t, x ∈ L
  on : ∀ (k : Nat) (d : De), F k = true → m.decs[k]? = some d → d.kind = 3 → ∀ x ∈ locT d.typ, x ∈ L
end Go.Proofs.Ytcdmgcgjonndpaa

/-  -/
namespace Go.Proofs.Ytcdmgcgjonndpaa
open Go.RowKit
open M
structure Nm where
  name : ByteArray
  typ : Ty
structure If where
  pkg : ByteArray
  major : Int
  mod : ByteArray
  types : List Nm
  vals : List Nm
end Go.Proofs.Ytcdmgcgjonndpaa

/-  -/
namespace Go.Proofs.Ytcdmgcgjonndpaa
open Go.RowKit
open M
end Go.Proofs.Ytcdmgcgjonndpaa

/-  -/
namespace Go.Proofs.Ytcdmgcgjonndpaa
open Go Go.ChangeShapes Go.WideShapes Go.ChangeAt Go.RowKit Go.Joins Go.Deep
open M
section
variable {H : Type} {enc : TypeId × Value → H} {w : World} {base : Nat} {sp : Nat → Bool} {held : Bool}
end
end Go.Proofs.Ytcdmgcgjonndpaa

/-  -/
namespace Go.Proofs.Ytcdmgcgjonndpaa
open Go Go.RowKit Go.Shelf
open Go.Sort Go.Maps
open M
def optN : Option Nat → Int
  | some i => i
  | none => -1
theorem idx_yes {α : Type} {p : α → Bool} {l : List α} {k : Nat} {x : α} (hx : l[k]? = some x) (hn : ∀ y ∈ l.take k, p y = false) (h : p x = true) : l.findIdx? p = some k := by
  rw [List.findIdx?_eq_some_iff_getElem]
  obtain ⟨hk, rfl⟩ := List.getElem?_eq_some_iff.1 hx
  refine ⟨hk, h, fun j hj => ?_⟩
  rw [hn _ (List.mem_of_getElem? (i := j) (by rw [List.getElem?_take, if_pos hj]; exact List.getElem?_eq_getElem (by omega)))]
  simp
theorem idx_no {α : Type} {p : α → Bool} {l : List α} (hn : ∀ x ∈ l, p x = false) : l.findIdx? p = none := by rw [List.findIdx?_eq_none_iff]; exact hn
end Go.Proofs.Ytcdmgcgjonndpaa
