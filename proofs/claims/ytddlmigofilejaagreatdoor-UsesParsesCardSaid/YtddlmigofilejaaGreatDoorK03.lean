/-
  Several texts in one.
-/
import Derived.Test.YtddlmigofilejaaGreatDoorK02
import Derived.Deep.RegionLaw
import Derived.Deep.RegionHeld
set_option maxRecDepth 100000
set_option maxHeartbeats 4000000
namespace Go.Proofs.YtddlmigofilejaaGreatDoor
open Go.RowKit
open Go.Sort
open M
theorem greatB_any (s : ByteArray) (w : World) (hs : s.size <= 9223372036854775807) : Calls Tryz.prog 42 #[.string s] w fun e w' => e = .returned (.bool (greatB s.data.toList)) /\ Below w.heap.size w w' := by
  refine (refGreat_any s w hs).mono ?_;rintro e w' ⟨h1, h2⟩;refine ⟨h1, ?_⟩;rw [<- h2];exact Below.refl _ _
theorem is_any {W : World} {r : Nat} {A : Option Addr} {S : Toks} {cn i c b : Nat} {w : World} (hc : RdCtx W r A S w) (h : Rd r A S.n cn i c b w) (s : ByteArray) :
    Calls Tryz.prog 173 #[.pointer (some ⟨r, 0, none⟩), .string s] w fun e w' => e = .returned (.bool (decide (b = 0) && S.sign i s.data.toList)) /\ Below w.heap.size w w' := by
  have hbig := hc.big;have HT := zH hc.toksAt;have c0 := h.c0;have c1 := h.c1;have c3 := h.c3;clear hc h;by_cases hb : b = 0
  rotate_left
  · have R : Hid ((decide (b = 0) && S.sign i s.data.toList) = false) := zH (by simp [hb])
    rw [R.out];have b1 : (((b : Nat) : Int) == 0) = false := by simp; omega
    clear hb R HT;as_aux_lemma =>
    go_enter Tryz.func173, Tryz.ntmps173
    go_wp2_with fail
    go_quiet (fail)
    go_wp2_with fail
    go_ret;exact ⟨rfl, below_drewN (Below.refl _ _) _⟩
  subst hb;simp at c3;by_cases hlt : i < S.n
  rotate_left
  · have R : Hid ((decide (0 = 0) && S.sign i s.data.toList) = false) := zH (by unfold Toks.sign; simp [hlt])
    rw [R.out];clear R HT;as_aux_lemma =>
    go_enter Tryz.func173, Tryz.ntmps173
    go_wp2_with fail
    go_quiet (fail)
    go_wp2_with fail
    go_ret;exact ⟨rfl, below_drewN (Below.refl _ _) _⟩
  obtain ⟨g, o, y, rfl, hg, k0, k1, k2, hz⟩ := HT.out i hlt;rcases hid_or (S.K i == 4) with hk | hk
  · have R : Hid ((decide (0 = 0) && S.sign i s.data.toList) = false) := zH (by unfold Toks.sign; rw [hk.out]; simp)
    have hk1 := hk.out;rw [R.out];clear R HT;as_aux_lemma =>
    go_enter Tryz.func173, Tryz.ntmps173
    go_wp2_with fail
    go_quiet (fail)
    go_wp2_with fail
    go_ret;exact ⟨rfl, below_drewN (Below.refl _ _) _⟩
  have hk1 := hk.out;have R : Hid ((decide (0 = 0) && S.sign i s.data.toList) = ((S.T i).data.toList == s.data.toList)) := zH (by unfold Toks.sign; rw [hk1]; simp [hlt]);rw [R.out];clear R HT;have E1 := zH (show (S.T i).toList = (S.T i).data.toList from Lib.toList_data _);have E2 := zH (show s.toList = s.data.toList from Lib.toList_data _);rw [<- E1.out, <- E2.out];clear E1 E2;go_enter Tryz.func173, Tryz.ntmps173
  go_wp2_with fail
  go_quiet (fail)
  go_wp2_with fail
  go_ret;exact ⟨rfl, below_drewN (Below.refl _ _) _⟩
theorem rsmall_any {W : World} {r : Nat} {A : Option Addr} {S : Toks} {cn i c b : Nat} {w : World} (hc : RdCtx W r A S w) (h : Rd r A S.n cn i c b w) :
    Calls Tryz.prog 133 #[.pointer (some ⟨r, 0, none⟩)] w fun e w' => e = .returned (.bool (decide (b = 0) && S.small i)) /\ Below w.heap.size w w' := by
  have hbig := hc.big;have HT := zH hc.toksAt;have c0 := h.c0;have c1 := h.c1;have c3 := h.c3;clear hc h;by_cases hb : b = 0
  rotate_left
  · have R : Hid ((decide (b = 0) && S.small i) = false) := zH (by simp [hb])
    rw [R.out];have b1 : (((b : Nat) : Int) == 0) = false := by simp; omega
    clear hb R HT;as_aux_lemma =>
    go_enter Tryz.func133, Tryz.ntmps133
    go_wp2_with fail
    go_quiet (fail)
    go_wp2_with fail
    go_ret;exact ⟨rfl, below_drewN (Below.refl _ _) _⟩
  subst hb;simp at c3;by_cases hlt : i < S.n
  rotate_left
  · have R : Hid ((decide (0 = 0) && S.small i) = false) := zH (by unfold Toks.small; simp [hlt])
    rw [R.out];clear R HT;as_aux_lemma =>
    go_enter Tryz.func133, Tryz.ntmps133
    go_wp2_with fail
    go_quiet (fail)
    go_wp2_with fail
    go_ret;exact ⟨rfl, below_drewN (Below.refl _ _) _⟩
  obtain ⟨g, o, y, rfl, hg, k0, k1, k2, hz⟩ := HT.out i hlt;rcases hid_or (S.K i == 1) with hk | hk
  · have R : Hid ((decide (0 = 0) && S.small i) = false) := zH (by unfold Toks.small; rw [hk.out]; simp)
    have hk1 := hk.out;rw [R.out];clear R HT;as_aux_lemma =>
    go_enter Tryz.func133, Tryz.ntmps133
    go_wp2_with fail
    go_quiet (fail)
    go_wp2_with fail
    go_ret;exact ⟨rfl, below_drewN (Below.refl _ _) _⟩
  have hk1 := hk.out;have R : Hid ((decide (0 = 0) && S.small i) = smallB (S.T i).data.toList) := zH (by unfold Toks.small; rw [hk1]; simp [hlt]);rw [R.out];clear R HT;have cS : ∀ dd os, Calls Tryz.prog 41 #[.string (S.T i)] (Sort.grow (redrawn w dd) os) fun e w'' => e = .returned (.bool (smallB (S.T i).data.toList)) /\ ∃ pp : Regrown, w'' = Sort.grow (redrawn w pp.d) pp.os := fun dd os => Calls.regrown_of (refSmall_any _ _ hz)
  have p0 := cell_regrown c0; have p1 := cell_regrown c1; have p3 := cell_regrown c3; have q0 := cell_regrown k0; have q2 := cell_regrown k2
  clear c0 c1 c3 k0 k1 k2;go_enter Tryz.func133, Tryz.ntmps133
  go_wp2_with fail
  refine wp_region_quiet_below (by kernel_rfl) (by kernel_rfl) ?_;repeat (any_goals (first | go_big_quiet_step (with_reducible exact cS _ _) | quiet_step (with_reducible exact cS _ _)))
  refine wpQuiet_nil ?_;intro _ hw';obtain ⟨⟨dq, osq⟩, hw''⟩ := hw';subst hw'';have hb3 := below_regrown w dq osq;go_wp2_with fail
  go_ret;exact ⟨rfl, hb3⟩
theorem rgreat_any {W : World} {r : Nat} {A : Option Addr} {S : Toks} {cn i c b : Nat} {w : World} (hc : RdCtx W r A S w) (h : Rd r A S.n cn i c b w) :
    Calls Tryz.prog 130 #[.pointer (some ⟨r, 0, none⟩)] w fun e w' => e = .returned (.bool (decide (b = 0) && S.great i)) /\ Below w.heap.size w w' := by
  have hbig := hc.big;have HT := zH hc.toksAt;have c0 := h.c0;have c1 := h.c1;have c3 := h.c3;clear hc h;by_cases hb : b = 0
  rotate_left
  · have R : Hid ((decide (b = 0) && S.great i) = false) := zH (by simp [hb])
    rw [R.out];have b1 : (((b : Nat) : Int) == 0) = false := by simp; omega
    clear hb R HT;as_aux_lemma =>
    go_enter Tryz.func130, Tryz.ntmps130
    go_wp2_with fail
    go_quiet (fail)
    go_wp2_with fail
    go_ret;exact ⟨rfl, below_drewN (Below.refl _ _) _⟩
  subst hb;simp at c3;by_cases hlt : i < S.n
  rotate_left
  · have R : Hid ((decide (0 = 0) && S.great i) = false) := zH (by unfold Toks.great; simp [hlt])
    rw [R.out];clear R HT;as_aux_lemma =>
    go_enter Tryz.func130, Tryz.ntmps130
    go_wp2_with fail
    go_quiet (fail)
    go_wp2_with fail
    go_ret;exact ⟨rfl, below_drewN (Below.refl _ _) _⟩
  obtain ⟨g, o, y, rfl, hg, k0, k1, k2, hz⟩ := HT.out i hlt;rcases hid_or (S.K i == 2) with hk | hk
  · have R : Hid ((decide (0 = 0) && S.great i) = false) := zH (by unfold Toks.great; rw [hk.out]; simp)
    have hk1 := hk.out;rw [R.out];clear R HT;as_aux_lemma =>
    go_enter Tryz.func130, Tryz.ntmps130
    go_wp2_with fail
    go_quiet (fail)
    go_wp2_with fail
    go_ret;exact ⟨rfl, below_drewN (Below.refl _ _) _⟩
  have hk1 := hk.out;have R : Hid ((decide (0 = 0) && S.great i) = greatB (S.T i).data.toList) := zH (by unfold Toks.great; rw [hk1]; simp [hlt]);rw [R.out];clear R HT;have cS : ∀ dd os, Calls Tryz.prog 42 #[.string (S.T i)] (Sort.grow (redrawn w dd) os) fun e w'' => e = .returned (.bool (greatB (S.T i).data.toList)) /\ ∃ pp : Regrown, w'' = Sort.grow (redrawn w pp.d) pp.os := fun dd os => Calls.regrown_of (greatB_any _ _ hz)
  have p0 := cell_regrown c0; have p1 := cell_regrown c1; have p3 := cell_regrown c3; have q0 := cell_regrown k0; have q2 := cell_regrown k2
  clear c0 c1 c3 k0 k1 k2;go_enter Tryz.func130, Tryz.ntmps130
  go_wp2_with fail
  refine wp_region_quiet_below (by kernel_rfl) (by kernel_rfl) ?_;repeat (any_goals (first | go_big_quiet_step (with_reducible exact cS _ _) | quiet_step (with_reducible exact cS _ _)))
  refine wpQuiet_nil ?_;intro _ hw';obtain ⟨⟨dq, osq⟩, hw''⟩ := hw';subst hw'';have hb3 := below_regrown w dq osq;go_wp2_with fail
  go_ret;exact ⟨rfl, hb3⟩
theorem pass_any {W : World} {r : Nat} {A : Option Addr} {S : Toks} {cn i c b : Nat} {w : World} (hc : RdCtx W r A S w) (h : Rd r A S.n cn i c b w) (s : ByteArray) :
    Calls Tryz.prog 128 #[.pointer (some ⟨r, 0, none⟩), .string s] w fun e w' => e = .returned (.tuple #[]) /\
      Rd r A S.n cn (psI b (S.sign i s.data.toList) i) c (psB b (S.sign i s.data.toList)) w' /\ Kp r w w' := by
  have IS := zH (is_any hc h s);have hbig := hc.big;have HR := zH h;clear hc h;by_cases hb : b = 0
  rotate_left
  · have e1 := zH (psI_bad (S.sign i s.data.toList) i hb)
    have e2 := zH (psB_bad (S.sign i s.data.toList) hb);have hq : Hid ((decide (b = 0) && S.sign i s.data.toList) = false) := zH (by simp [hb]);have b1 : (((b : Nat) : Int) == 0) = false := by simp; omega
    clear hb;go_enter Tryz.func128, Tryz.ntmps128
    go_wp2_with fail
    refine IS.out.mono ?_; rintro e w1 ⟨rfl, hb1⟩; rw [hq.out]
    have H1 := HR.out.on hb1;have K1 := zH (Kp.of_below (r := r) hb1);have c3 := H1.c3;have f3 := H1.f 3;have H2 := zH H1;clear H1 hb1;go_wp2_with fail
    go_end0
    exact ⟨rfl, by rw [e1.out, e2.out]; exact H2.out, K1.out⟩
  subst hb;rcases hid_or (S.sign i s.data.toList) with hq | hq
  · have e1 : Hid (psI 0 (S.sign i s.data.toList) i = i) := zH (by rw [hq.out]; rfl)
    have e2 : Hid (psB 0 (S.sign i s.data.toList) = 2) := zH (by rw [hq.out]; rfl);go_enter Tryz.func128, Tryz.ntmps128
    go_wp2_with fail
    refine IS.out.mono ?_; rintro e w1 ⟨rfl, hb1⟩; rw [hq.out]
    have H1 := HR.out.on hb1;have K1 := zH ((Kp.of_below (r := r) hb1).put 3 (.int .i64 2));have c3 := H1.c3;have f3 := H1.f 3;simp at c3;have H2 : Hid (Rd r A S.n cn i c 2 (w1.setCell ⟨r, 3, none⟩ (.int .i64 2))) := zH (H1.bad 2);clear H1 hb1;go_wp2_with fail
    go_end0
    exact ⟨rfl, by rw [e1.out, e2.out]; exact H2.out, K1.out⟩
  · have e1 : Hid (psI 0 (S.sign i s.data.toList) i = i + 1) := zH (by rw [hq.out]; rfl)
    have e2 : Hid (psB 0 (S.sign i s.data.toList) = 0) := zH (by rw [hq.out]; rfl);have hlt := sign_lt hq.out;go_enter Tryz.func128, Tryz.ntmps128
    go_wp2_with fail
    refine IS.out.mono ?_; rintro e w1 ⟨rfl, hb1⟩; rw [hq.out]
    have H1 := HR.out.on hb1;have K1 := zH ((Kp.of_below (r := r) hb1).put 1 (.int .i64 ((i : Int) + 1)));have c1 := H1.c1;have f1 := H1.f 1;have H2 : Hid (Rd r A S.n cn (i + 1) c 0 (w1.setCell ⟨r, 1, none⟩ (.int .i64 ((i : Int) + 1)))) := zH (by have := H1.at (i + 1); simpa using this);clear H1 hb1;go_wp2_with fail
    go_end0
    exact ⟨rfl, by rw [e1.out, e2.out]; exact H2.out, K1.out⟩
def Toks.opens (S : Toks) (i : Nat) : Bool := (S.K i == 4) && ((S.T i).data.toList == [123] || (S.T i).data.toList == [91] || (S.T i).data.toList == [40] || (S.T i).data.toList == [60])
theorem begins_eq {S : Toks} {i : Nat} (h : i < S.n) : S.begins i = (S.small i || S.great i || Toks.opens S i || ((S.K i == 2) && decide (0 < baseT (S.T i).data.toList))) := by
 unfold Toks.begins Toks.opens
 simp [h]
theorem rsmall0 {W : World} {r : Nat} {A : Option Addr} {S : Toks} {cn i c : Nat} {w : World} (hc : RdCtx W r A S w) (h : Rd r A S.n cn i c 0 w) : Calls Tryz.prog 133 #[.pointer (some ⟨r, 0, none⟩)] w fun e w' => e = .returned (.bool (S.small i)) /\ Below w.heap.size w w' :=
 (rsmall_any hc h).mono fun e w' h => ⟨by simpa using h.1, h.2⟩
theorem rgreat0 {W : World} {r : Nat} {A : Option Addr} {S : Toks} {cn i c : Nat} {w : World} (hc : RdCtx W r A S w) (h : Rd r A S.n cn i c 0 w) : Calls Tryz.prog 130 #[.pointer (some ⟨r, 0, none⟩)] w fun e w' => e = .returned (.bool (S.great i)) /\ Below w.heap.size w w' :=
 (rgreat_any hc h).mono fun e w' h => ⟨by simpa using h.1, h.2⟩
theorem is0 {W : World} {r : Nat} {A : Option Addr} {S : Toks} {cn i c : Nat} {w : World} (hc : RdCtx W r A S w) (h : Rd r A S.n cn i c 0 w) (s : ByteArray) : Calls Tryz.prog 173 #[.pointer (some ⟨r, 0, none⟩), .string s] w fun e w' => e = .returned (.bool (S.sign i s.data.toList)) /\ Below w.heap.size w w' :=
 (is_any hc h s).mono fun e w' h => ⟨by simpa using h.1, h.2⟩
def TokBox (k : Nat) (x : Int) (y : Int) (s : ByteArray) (w : World) : Prop := w.heap[k]? = some (.cells #[.int .i64 x, .int .i64 y, .string s] 92 (0, 0))
theorem TokBox.on {k : Nat} {x y : Int} {s : ByteArray} {w w' : World} (h : TokBox k x y s w) (hb : Below w.heap.size w w') : TokBox k x y s w' := (hb.block k (Array.getElem?_eq_some_iff.1 h).1).trans h
theorem begins_any {W : World} {r : Nat} {A : Option Addr} {S : Toks} {cn i c b : Nat} {w : World} (hc : RdCtx W r A S w) (h : Rd r A S.n cn i c b w) :
  Calls Tryz.prog 126 #[.pointer (some ⟨r, 0, none⟩)] w fun e w' => e = .returned (.bool (decide (b = 0) && S.begins i)) /\ Below w.heap.size w w' := by
 have hbig := hc.big
 have c0 := h.c0
 have c1 := h.c1
 have c3 := h.c3
 by_cases hb : b = 0
 rotate_left
 ·have R : Hid ((decide (b = 0) && S.begins i) = false) := zH (by simp [hb])
  rw [R.out];have b1 : (((b : Nat) : Int) == 0) = false := by simp; omega
  have b2 : (((b : Nat) : Int) != 0) = true := by simp; omega
  have b3 : ¬ b = 0 := hb;clear hb R hc h;as_aux_lemma =>
  go_enter Tryz.func126, Tryz.ntmps126
  go_wp2_with fail
  go_quiet (fail)
  go_wp2_with fail
  go_ret;exact ⟨rfl, below_drewN (Below.refl _ _) _⟩
 subst hb
 simp at c3
 by_cases hlt : i < S.n
 rotate_left
 ·have R : Hid ((decide (0 = 0) && S.begins i) = false) := zH (by unfold Toks.begins; simp [hlt])
  rw [R.out];have hle : S.n <= i := by omega
  clear R hc h;as_aux_lemma =>
  go_enter Tryz.func126, Tryz.ntmps126
  go_wp2_with fail
  go_quiet (fail)
  go_wp2_with fail
  go_ret;exact ⟨rfl, below_drewN (Below.refl _ _) _⟩
 have R0 : Hid ((decide (0 = 0) && S.begins i) = (S.small i || S.great i || Toks.opens S i || ((S.K i == 2) && decide (0 < baseT (S.T i).data.toList)))) := zH (by rw [begins_eq hlt]; rfl)
 obtain ⟨g, o, y, rfl, hg, k0, k1, k2, hz⟩ := hc.toksAt i hlt
 have HC := zH hc
 have HR := zH h
 rw [R0.out]
 clear hc h R0
 go_enter Tryz.func126, Tryz.ntmps126
 go_wp2_with fail
 have hlt2 : ¬ S.n <= i := by omega
 go_quiet (fail)
 go_upto_region 3 with fail
 obtain ⟨w1, hw1⟩ : ∃ w1, w1 = w.drewN nq := ⟨_, rfl⟩
 rw [<- hw1]
 have hb1 : Below w.heap.size w w1 := by rw [hw1]; exact below_drewN (Below.refl _ _) _
 obtain ⟨hcB, hfB⟩ := bcell hb1
 have H1 := HR.out.on hb1
 have d0 := H1.c0
 have d1 := H1.c1
 have m0 := (hcB _ _ hg).trans k0
 have m1 := (hcB _ _ hg).trans k1
 have m2 := (hcB _ _ hg).trans k2
 have hg1 : g < w1.heap.size := Nat.lt_of_lt_of_le hg hb1.size
 have hr1 : r < w1.heap.size := H1.lt
 have HB1 := zH hb1
 have HR1 := zH H1
 clear hcB hfB H1 c0 c1 c3 k0 k1 k2 hb1 hw1
 go_cut [3] (fun s3 wx => s3 = .pointer (some ⟨w1.heap.size, 0, none⟩) /\ TokBox w1.heap.size (S.K i) y (S.T i) wx /\ Below w1.heap.size w1 wx)
 case first =>
  go_region_law (fail)
  all_goals (go_wp2_with fail; go_meet; exact ⟨rfl, heap_alloc_new w1 _, (below_new (Below.refl _ _) _).drew⟩)
 case rest =>
  obtain ⟨rfl, tb, hb2⟩ := hcut;have hk1 : w1.heap.size < wc.heap.size := (Array.getElem?_eq_some_iff.1 tb).1;have C2 : RdCtx W r (some ⟨g, o, none⟩) S wc := (HC.out.on (Kp.of_below HB1.out) HR.out.lt).on (Kp.of_below hb2) hr1;have R2 := HR1.out.on hb2;have HB2 := zH (below_over HB1.out hb2);have SM := zH (rsmall0 C2 R2);have HTB := zH tb;have HC2 := zH C2;have HR2 := zH R2;clear tb hb2 C2 R2 d0 d1 m0 m1 m2 hg1 hr1 hlt2 hk1;go_wp2_with fail
  refine SM.out.mono ?_; rintro e w3 ⟨rfl, hb3⟩
  have C3 := HC2.out.on (Kp.of_below hb3) HR2.out.lt;have R3 := HR2.out.on hb3;have GR := zH (rgreat0 C3 R3);have HTB3 := zH (HTB.out.on hb3);have HB3 := zH (below_over HB2.out hb3);clear hb3 C3 R3 SM;go_wp2_with fail
  refine GR.out.mono ?_; rintro e w4 ⟨rfl, hb4⟩
  have T4 := HTB3.out.on hb4;have t0 : w4.cell? ⟨w1.heap.size, 0, none⟩ = some (.int .i64 (S.K i)) := cZ T4 0;have t2 : w4.cell? ⟨w1.heap.size, 2, none⟩ = some (.string (S.T i)) := cZ T4 2;have HB4 := zH (below_over HB3.out hb4);clear hb4 T4 GR HTB HTB3 HB2 HB3 HC2 HR2 HC HR HR1;generalize hsm : S.small i = sm
  generalize hgr : S.great i = gr
  obtain ⟨sg, hsg⟩ : ∃ sg, Toks.opens S i = sg := ⟨_, rfl⟩;have E2 := zH (show (S.T i).toList = (S.T i).data.toList from Lib.toList_data _);go_upto_region 6 with fail
  go_cut [6] (fun s6 wx => s6 = .bool sg /\ w4 = wx)
  case first =>
   unfold Toks.opens at hsg
   rw [<- E2.out] at hsg;rcases hid_or (S.K i == 4) with a4 | a4
   ·have b4 := a4.out
    have hv : sg = false := by rw [<- hsg, b4]; rfl
    subst hv;clear hsg;as_aux_lemma =>
    go_wp2_with fail
    go_meet
    exact ⟨rfl, rfl⟩
   have b4 := a4.out;rcases hid_or ((S.T i).toList == [123]) with x1 | x1
   rotate_left
   ·have y1 := x1.out
    have hv : sg = true := by rw [<- hsg, b4, y1]; rfl
    subst hv;clear hsg;as_aux_lemma =>
    go_wp2_with fail
    go_meet
    exact ⟨rfl, rfl⟩
   have y1 := x1.out;rcases hid_or ((S.T i).toList == [91]) with x2 | x2
   rotate_left
   ·have y2 := x2.out
    have hv : sg = true := by rw [<- hsg, b4, y1, y2]; rfl
    subst hv;clear hsg;as_aux_lemma =>
    go_wp2_with fail
    go_meet
    exact ⟨rfl, rfl⟩
   have y2 := x2.out;rcases hid_or ((S.T i).toList == [40]) with x3 | x3
   rotate_left
   ·have y3 := x3.out
    have hv : sg = true := by rw [<- hsg, b4, y1, y2, y3]; rfl
    subst hv;clear hsg;as_aux_lemma =>
    go_wp2_with fail
    go_meet
    exact ⟨rfl, rfl⟩
   have y3 := x3.out;rcases hid_or ((S.T i).toList == [60]) with x4 | x4
   ·have y4 := x4.out
    have hv : sg = false := by rw [<- hsg, b4, y1, y2, y3, y4]; rfl
    subst hv;clear hsg;as_aux_lemma =>
    go_wp2_with fail
    go_meet
    exact ⟨rfl, rfl⟩
   ·have y4 := x4.out
    have hv : sg = true := by rw [<- hsg, b4, y1, y2, y3, y4]; rfl
    subst hv;clear hsg;as_aux_lemma =>
    go_wp2_with fail
    go_meet
    exact ⟨rfl, rfl⟩
  case rest =>
   obtain ⟨rfl, rfl⟩ := hcut;have HSM := zH hsm;have HGR := zH hgr;have HSG := zH hsg;clear hsg hsm hgr E2;cases sm with
   | true =>
    as_aux_lemma =>
    go_wp2_with fail
    go_ret;exact ⟨ret_bool (by rw [HSM.out]; rfl), HB4.out⟩
   | false =>
   cases gr with
   | true =>
    as_aux_lemma =>
    go_wp2_with fail
    go_ret;exact ⟨ret_bool (by rw [HSM.out, HGR.out]; rfl), HB4.out⟩
   | false =>
   cases sg with
   | true =>
    as_aux_lemma =>
    go_wp2_with fail
    go_ret;exact ⟨ret_bool (by rw [HSM.out, HGR.out, HSG.out]; rfl), HB4.out⟩
   | false =>
   rcases hid_or (S.K i == 2) with a2 | a2
   ·have b2 := a2.out
    as_aux_lemma =>
    go_wp2_with fail
    go_ret;exact ⟨ret_bool (by rw [HSM.out, HGR.out, HSG.out, a2.out]; rfl), HB4.out⟩
   ·have b2 := a2.out
    as_aux_lemma =>
    go_wp2_with fail
    refine (base_any _ _).mono ?_; rintro e w5 ⟨rfl, rfl⟩
    go_wp2_with fail
    go_ret;exact ⟨ret_bool (by rw [HSM.out, HGR.out, HSG.out, a2.out]; simp), HB4.out⟩
end Go.Proofs.YtddlmigofilejaaGreatDoor
namespace Go.Proofs.YtddlmigofilejaaGreatDoor
open Go Go.RowKit
section
variable {P : Program} {ops : Array Oper} {Q : Exit -> Act -> World -> Prop} {md : Region.Mode} {S : World -> Prop} {off : Nat -> Bool}
def AnyX (P : Program) (md : Region.Mode) (ops : Array Oper) (Q : Exit -> Act -> World -> Prop) (S : World -> Prop) (off : Nat -> Bool) : Nat -> Array Bool -> Act -> World -> Prop
  | 0, listed, a, w => Region.ready md ops listed = [] /\ Q .normal a w
  | k + 1, listed, a, w => (Region.ready md ops listed = [] -> Q .normal a w) /\
    ∀ i, i ∈ Region.ready md ops listed -> wpOp P ops Q i (fun a' w' => (off i = false -> S w -> S w') /\ AnyX P md ops Q S off k (listed.setIfInBounds i true) a' w') a w
theorem AnyX.any : ∀ (k : Nat) {listed : Array Bool} {a : Act} {w : World}, AnyX P md ops Q S off k listed a w -> wpAny P md ops Q k listed a w
  | 0, _, _, _, h => h
  | k + 1, _, _, _, h => ⟨h.1, fun i hi => wpOp_mono (fun _ _ hx => AnyX.any k hx.2) (h.2 i hi)⟩
def Shuts (md : Region.Mode) (ops : Array Oper) (listed : Array Bool) : Prop := ∀ j o, ops[j]? = some o -> listed.getD j false = true -> ∀ e, e ∈ o.after -> Region.binds md e = true -> listed.getD e.on false = true
def shutsB (md : Region.Mode) (ops : Array Oper) (listed : Array Bool) : Bool := (List.range ops.size).all fun j => !(listed.getD j false) || ((ops[j]?).map fun o => o.after.all fun e => !Region.binds md e || listed.getD e.on false).getD true
theorem shuts_of {listed : Array Bool} (h : shutsB md ops listed = true) : Shuts md ops listed := fun j o ho hl e he hb => by
  have h1 := (List.all_eq_true.1 h) j (List.mem_range.2 (Array.getElem?_eq_some_iff.1 ho).1);rw [ho, hl] at h1;simp only [Bool.not_true, Bool.false_or, Option.map_some, Option.getD_some] at h1;have h2 := (Array.all_eq_true_iff_forall_mem.1 h1) e he;rw [hb] at h2;simpa using h2
theorem Shuts.step {listed : Array Bool} {i : Nat} (h : Shuts md ops listed) (hi : i ∈ Region.ready md ops listed) : Shuts md ops (listed.setIfInBounds i true) := fun j o ho hl e he hb => by
  obtain ⟨-, oi, hoi, hall⟩ := mem_ready.1 hi;by_cases hij : i = j
  · subst hij
    rw [hoi] at ho;obtain rfl := Option.some.inj ho;exact getD_set_true (hall e he hb)
  · rw [getD_set_ne false hij] at hl
    exact getD_set_true (h j o ho hl e he hb)
inductive Waits (md : Region.Mode) (ops : Array Oper) (i : Nat) : Nat -> Prop
  | one {j : Nat} {o : Oper} {e : Edge} : ops[j]? = some o -> e ∈ o.after -> Region.binds md e = true -> e.on = i -> Waits md ops i j
  | far {j : Nat} {o : Oper} {e : Edge} : ops[j]? = some o -> e ∈ o.after -> Region.binds md e = true -> Waits md ops i e.on -> Waits md ops i j
def waitsB (md : Region.Mode) (ops : Array Oper) (i : Nat) : Nat -> Nat -> Bool
  | 0, _ => false
  | k + 1, j => ((ops[j]?).map fun o => o.after.any fun e => Region.binds md e && (e.on == i || waitsB md ops i k e.on)).getD false
theorem waits_of {i : Nat} : ∀ (k j : Nat), waitsB md ops i k j = true -> Waits md ops i j
  | 0, _, h => by cases h
  | k + 1, j, h => by
    unfold waitsB at h
    cases ho : ops[j]? with
    | none => rw [ho] at h; cases h
    | some o =>
      rw [ho] at h;simp only [Option.map_some, Option.getD_some] at h;obtain ⟨e, he, h1⟩ := Array.any_eq_true'.1 h;simp only [Bool.and_eq_true, Bool.or_eq_true, beq_iff_eq] at h1;rcases h1.2 with h2 | h2
      · exact .one ho he h1.1 h2
      · exact .far ho he h1.1 (waits_of k e.on h2)
def allWaitB (md : Region.Mode) (ops : Array Oper) (off : Nat -> Bool) (i : Nat) : Bool := (List.range ops.size).all fun j => !(off j) || waitsB md ops i ops.size j
theorem allWait_of {i : Nat} (h : allWaitB md ops off i = true) {j : Nat} {o : Oper} (ho : ops[j]? = some o) (hj : off j = true) : Waits md ops i j := by
  have h1 := (List.all_eq_true.1 h) j (List.mem_range.2 (Array.getElem?_eq_some_iff.1 ho).1);rw [hj] at h1;exact waits_of _ _ (by simpa using h1)
theorem Waits.listed {listed : Array Bool} {i j : Nat} (h : Waits md ops i j) (hs : Shuts md ops listed) : ∀ {o : Oper}, ops[j]? = some o -> (∀ e, e ∈ o.after -> Region.binds md e = true -> listed.getD e.on false = true) -> listed.getD i false = true := by
  induction h with
  | one ho he hb hon =>
    intro o ho' hall;rw [ho] at ho'; obtain rfl := Option.some.inj ho'
    rw [<- hon]; exact hall _ he hb
  | @far j o e ho he hb hw ih =>
    intro o' ho' hall;rw [ho] at ho'; obtain rfl := Option.some.inj ho'
    have hl := hall _ he hb;cases ho2 : ops[e.on]? with
    | none =>
      cases hw with
      | one h0 => rw [ho2] at h0; cases h0
      | far h0 => rw [ho2] at h0; cases h0
    | some o2 => exact ih ho2 (hs _ _ ho2 hl)
theorem getD_not {listed : Array Bool} {i : Nat} (h : listed.getD i true = false) : listed.getD i false = false := by
  rcases Nat.lt_or_ge i listed.size with h2 | h2
  · simp [h2] at h ⊢; exact h
  · simp [Array.getElem?_eq_none h2] at h
theorem AnyX.first {S' : World -> Prop} {i : Nat} {oi : Oper} {v : Value} (hi : ops[i]? = some oi) (hsel : ∀ (j : Nat) (o : Oper) cs b, ops[j]? = some o -> o.op ≠ .select cs b)
    (hw : (∀ w, S' w) \/ (S' = S /\ ∀ (j : Nat) (o : Oper), ops[j]? = some o -> off j = true -> Waits md ops i j))
    (hQ : ∀ c a w, Q (.panic c) (a.put oi.dst v) w -> Q (.panic c) a w) : ∀ (k : Nat) (listed : Array Bool) (a : Act) (w : World), Shuts md ops listed ->
      (∀ j oj, ops[j]? = some oj -> j ≠ i -> listed.getD j true = false -> (∀ e ∈ oj.after, Region.binds md e = true -> e.on ≠ i) -> oi.apart ops oj = true) ->
      i ∈ Region.ready md ops listed -> YieldsIf P ops S' oi v a -> S' w -> AnyX P md ops Q S off k (listed.setIfInBounds i true) (a.put oi.dst v) w -> AnyX P md ops Q S off (k + 1) listed a w
  | k, listed, a, w, hsh, hap, hr, hy, hS, H => by
    refine ⟨fun h0 => (by rw [h0] at hr; cases hr), fun j hj => ?_⟩;by_cases e : j = i
    · subst e
      exact hy.wpOp hi hS ⟨fun _ h => h, H⟩
    obtain ⟨hjun, oj, hoj, hall⟩ := mem_ready.1 hj;have hun := getD_not (mem_ready.1 hr).1
    have hno : ∀ x ∈ oj.after, Region.binds md x = true -> x.on ≠ i := fun x hx hb heq => by
      have h1 := hall x hx hb;rw [heq, hun] at h1;cases h1
    have hkeep : ∀ w', (off j = false -> S w -> S w') -> S' w' := fun w' h1 => by
      rcases hw with h2 | ⟨h2, h3⟩
      · exact h2 w'
      · subst h2
        refine h1 ?_ hS;cases h4 : off j with
        | false => rfl
        | true =>
          have := (h3 j oj hoj h4).listed hsh hoj hall
          rw [hun] at this;cases this
    cases k with
    | zero =>
      have := ready_mono hj e
      rw [H.1] at this;cases this
    | succ k =>
      have h2 := wpOp_putIf hoj (hap j oj hoj e hjun hno) (fun cs b => hsel i oi cs b hi) (fun cs b => hsel j oj cs b hoj) hQ hy (H.2 j (ready_mono hj e));refine wpOp_mono (fun a' w' h3 => ⟨h3.2.1, AnyX.first hi hsel hw hQ k _ a' w' (hsh.step hj) (fun q oq hq hqi hqu hqn => hap q oq hq hqi ?_ hqn) (ready_mono hr (Ne.symm e)) h3.1 (hkeep w' h3.2.1) ?_⟩) h2
      · by_cases hjq : j = q
        · subst hjq; exact hjun
        · rw [getD_set_ne true hjq] at hqu; exact hqu
      · rw [Array.setIfInBounds_comm _ _ e]
        exact h3.2.2
theorem AnyX.take {i : Nat} {oi : Oper} {v : Value} {k : Nat} {listed : Array Bool} {a : Act} {w : World} (hi : ops[i]? = some oi) (hs : Region.noSelect ops = true) (hf : Region.free md ops listed i = true)
    (hr : (Region.ready md ops listed).contains i = true) (hw : allWaitB md ops off i = true) (hsh : shutsB md ops listed = true) (hQ : ∀ c a w, Q (.panic c) (a.put oi.dst v) w -> Q (.panic c) a w) (hS : S w) (hy : YieldsIf P ops S oi v a)
    (h : AnyX P md ops Q S off k (listed.setIfInBounds i true) (a.put oi.dst v) w) : AnyX P md ops Q S off (k + 1) listed a w :=
  AnyX.first hi (Region.noSelect_spec hs) (.inr ⟨rfl, fun _ _ ho hj => allWait_of hw ho hj⟩) hQ k listed a w (shuts_of hsh) (Region.free_spec hi hf) (by simpa using hr) hy hS h
theorem AnyX.move {i : Nat} {oi : Oper} {v : Value} {k : Nat} {listed : Array Bool} {a : Act} {w : World} (hi : ops[i]? = some oi) (hs : Region.noSelect ops = true) (hf : Region.free md ops listed i = true)
    (hr : (Region.ready md ops listed).contains i = true) (hsh : shutsB md ops listed = true) (hQ : ∀ c a w, Q (.panic c) (a.put oi.dst v) w -> Q (.panic c) a w) (hy : YieldsIf P ops (fun _ => True) oi v a)
    (h : AnyX P md ops Q S off k (listed.setIfInBounds i true) (a.put oi.dst v) w) : AnyX P md ops Q S off (k + 1) listed a w :=
  AnyX.first (S' := fun _ => True) hi (Region.noSelect_spec hs) (.inl fun _ => trivial) hQ k listed a w (shuts_of hsh) (Region.free_spec hi hf) (by simpa using hr) hy trivial h
theorem AnyX.mv {i : Nat} {oi : Oper} {v : Value} {k : Nat} {listed : Array Bool} {a : Act} {w : World} (hi : ops[i]? = some oi) (hQ : ∀ c a w, Q (.panic c) (a.put oi.dst v) w -> Q (.panic c) a w) (hy : YieldsIf P ops (fun _ => True) oi v a) (h : AnyX P md ops Q S off k (listed.setIfInBounds i true) (a.put oi.dst v) w)
    (hs : Region.noSelect ops = true := by kernel_rfl) (hf : Region.free md ops listed i = true := by kernel_rfl) (hr : (Region.ready md ops listed).contains i = true := by kernel_rfl) (hsh : shutsB md ops listed = true := by kernel_rfl) : AnyX P md ops Q S off (k + 1) listed a w := AnyX.move hi hs hf hr hsh hQ hy h
theorem AnyX.tk {i : Nat} {oi : Oper} {v : Value} {k : Nat} {listed : Array Bool} {a : Act} {w : World} (hi : ops[i]? = some oi) (hQ : ∀ c a w, Q (.panic c) (a.put oi.dst v) w -> Q (.panic c) a w) (hS : S w) (hy : YieldsIf P ops S oi v a) (h : AnyX P md ops Q S off k (listed.setIfInBounds i true) (a.put oi.dst v) w)
    (hs : Region.noSelect ops = true := by kernel_rfl) (hf : Region.free md ops listed i = true := by kernel_rfl) (hr : (Region.ready md ops listed).contains i = true := by kernel_rfl) (hw : allWaitB md ops off i = true := by kernel_rfl) (hsh : shutsB md ops listed = true := by kernel_rfl) : AnyX P md ops Q S off (k + 1) listed a w := AnyX.take hi hs hf hr hw hsh hQ hS hy h
theorem AnyX.go (i : Nat) {o : Oper} {k : Nat} {listed : Array Bool} {a : Act} {w : World} (hr : Region.ready md ops listed = [i]) (ho : ops[i]? = some o) (hg : o.guard = none)
    (h : ∀ K : Act -> World -> Prop, Hid (∀ a' w', (off i = false -> S w -> S w') -> AnyX P md ops Q S off k (listed.setIfInBounds i true) a' w' -> K a' w') -> Oper.wp P o a w K Q) : AnyX P md ops Q S off (k + 1) listed a w :=
  ⟨fun h0 => (by rw [hr] at h0; cases h0), fun j hj => by
    rw [hr] at hj;obtain rfl := List.mem_singleton.1 hj;refine wpOp_step ho fun K hK => ?_
    rw [if_pos (by simp [Region.wanted, hg])];exact h K (zH fun a w hS hW => hK a w ⟨hS, hW⟩)⟩
theorem AnyX.done {listed : Array Bool} {a : Act} {w : World} (hr : Region.ready md ops listed = []) (h : Q .normal a w) : ∀ k, AnyX P md ops Q S off k listed a w
  | 0 => ⟨hr, h⟩
  | _ + 1 => ⟨fun _ => h, fun i hi => by rw [hr] at hi; cases hi⟩
theorem AnyX.start (S : World -> Prop) (off : Nat -> Bool) {id : Nat} {a : Act} {w : World} (hm : P.follows .mixedOrders = true) (h : AnyX P .any ops Q S off ops.size (Array.replicate ops.size false) a w.drew) : (Code.region id ops true).wp P Q a w :=
  wp_region_any hm (AnyX.any _ h)
end
end Go.Proofs.YtddlmigofilejaaGreatDoor
namespace Go.Proofs.YtddlmigofilejaaGreatDoor
open Go.RowKit
open Go.Sort
open M
def CGd (q : Nat) (A : Option Addr) (n cn i : Nat) (w : World) : Prop := w.heap[q]? = some (.cells #[.slice A n cn, .int .i64 i, .nilIface] 87 (0, 0))
def CBd (q : Nat) (A : Option Addr) (n cn b j : Nat) (w : World) : Prop :=
  ∃ (x : Int) (g : Nat), w.heap[q]? = some (.cells #[.slice A n cn, .int .i64 x, .iface 70 (.pointer (some ⟨g, 0, none⟩))] 87 (0, 0)) /\
    w.heap[g]? = some (.cells #[.int .i64 j, .iface 31 (.int .i64 b)] 75 (0, 0))
def CSt (q : Nat) (A : Option Addr) (n cn i b : Nat) (w : World) : Prop := (b = 0 /\ CGd q A n cn i w) \/ (b ≠ 0 /\ CBd q A n cn b i w)
theorem CGd.lt {q : Nat} {A : Option Addr} {n cn i : Nat} {w : World} (h : CGd q A n cn i w) : q < w.heap.size := (Array.getElem?_eq_some_iff.1 h).1
theorem CBd.lt {q : Nat} {A : Option Addr} {n cn b j : Nat} {w : World} (h : CBd q A n cn b j w) : q < w.heap.size := by
  obtain ⟨x, g, h, -⟩ := h;exact (Array.getElem?_eq_some_iff.1 h).1
theorem CSt.lt {q : Nat} {A : Option Addr} {n cn i b : Nat} {w : World} (h : CSt q A n cn i b w) : q < w.heap.size := by
  rcases h with ⟨-, h⟩ | ⟨-, h⟩
  · exact h.lt
  · exact h.lt
theorem CSt.typ {q : Nat} {A : Option Addr} {n cn i b : Nat} {w : World} (h : CSt q A n cn i b w) : ∃ vs : Array Value, w.heap[q]? = some (.cells vs 87 (0, 0)) := by
  rcases h with ⟨-, h⟩ | ⟨-, x, g, h, -⟩
  · exact ⟨_, h⟩
  · exact ⟨_, h⟩
theorem two_types {w : World} {a b : Nat} {va vb : Array Value} {Ta Tb : TypeId} {fa fb : Nat × Nat} (ha : w.heap[a]? = some (.cells va Ta fa)) (hb : w.heap[b]? = some (.cells vb Tb fb)) (hT : Ta ≠ Tb) : a ≠ b := fun e => by
  subst e;rw [ha] at hb;simp only [Option.some.injEq, Obj.cells.injEq] at hb;exact hT hb.2.1
theorem CSt.keep {q : Nat} {A : Option Addr} {n cn i b : Nat} {w w' : World} (h : CSt q A n cn i b w) (e : w'.heap[q]? = w.heap[q]?) (eg : ∀ (g : Nat) (vs : Array Value) (fr : Nat × Nat), w.heap[g]? = some (Obj.cells vs 75 fr) -> w'.heap[g]? = w.heap[g]?) : CSt q A n cn i b w' := by
  rcases h with ⟨h0, h⟩ | ⟨h0, x, g, h1, h2⟩
  · exact .inl ⟨h0, e.trans h⟩
  · exact .inr ⟨h0, x, g, e.trans h1, (eg g _ _ h2).trans h2⟩
theorem CSt.below {q : Nat} {A : Option Addr} {n cn i b : Nat} {w w' : World} (h : CSt q A n cn i b w) (hb : Below w.heap.size w w') : CSt q A n cn i b w' := h.keep (hb.block q h.lt) fun g _ _ hg => hb.block g (Array.getElem?_eq_some_iff.1 hg).1
theorem CSt.good {q : Nat} {A : Option Addr} {n cn i : Nat} {w : World} (h : CSt q A n cn i 0 w) : CGd q A n cn i w := by
  rcases h with ⟨-, h⟩ | ⟨h, -⟩
  · exact h
  · exact absurd rfl h
theorem CSt.bad {q : Nat} {A : Option Addr} {n cn i b : Nat} {w : World} (h : CSt q A n cn i b w) (hb : b ≠ 0) : CBd q A n cn b i w := by
  rcases h with ⟨h0, -⟩ | ⟨-, h⟩
  · exact absurd h0 hb
  · exact h
def tokV (k y : Int) (s : ByteArray) : Value := .agg #[.int .i64 k, .int .i64 y, .string s]
def smallK (k : Int) (s : ByteArray) : Bool := (k == 1) && smallB s.data.toList
def greatK (k : Int) (s : ByteArray) : Bool := (k == 2) && greatB s.data.toList
theorem isSmall_any (k y : Int) (s : ByteArray) (w : World) (hs : s.size <= 9223372036854775807) : Calls Tryz.prog 75 #[tokV k y s] w fun e w' => e = .returned (.bool (smallK k s)) /\ Below w.heap.size w w' := by
  unfold tokV
  have SM := zH (fun w => small_any s w hs);rcases hid_or (k == 1) with a1 | a1
  · have b1 := a1.out
    have R : Hid (smallK k s = false) := zH (by unfold smallK; rw [b1]; rfl);rw [R.out];go_enter Tryz.func75, Tryz.ntmps75
    go_wp2_with fail
    go_ret;exact ⟨rfl, below_new (Below.refl _ _) _⟩
  · have b1 := a1.out
    have R : Hid (smallK k s = smallB s.data.toList) := zH (by unfold smallK; rw [b1]; rfl);rw [R.out];go_enter Tryz.func75, Tryz.ntmps75
    go_wp2_with fail
    refine (SM.out _).mono ?_; rintro e w1 ⟨rfl, rfl⟩
    go_wp2_with fail
    go_ret;exact ⟨rfl, below_new (Below.refl _ _) _⟩
theorem isGreat_any (k y : Int) (s : ByteArray) (w : World) (hs : s.size <= 9223372036854775807) : Calls Tryz.prog 77 #[tokV k y s] w fun e w' => e = .returned (.bool (greatK k s)) /\ Below w.heap.size w w' := by
  unfold tokV
  have SM := zH (fun w => great_any s w hs);rcases hid_or (k == 2) with a1 | a1
  · have b1 := a1.out
    have R : Hid (greatK k s = false) := zH (by unfold greatK; rw [b1]; rfl);rw [R.out];go_enter Tryz.func77, Tryz.ntmps77
    go_wp2_with fail
    go_ret;exact ⟨rfl, below_new (Below.refl _ _) _⟩
  · have b1 := a1.out
    have R : Hid (greatK k s = greatB s.data.toList) := zH (by unfold greatK; rw [b1]; rfl);rw [R.out];go_enter Tryz.func77, Tryz.ntmps77
    go_wp2_with fail
    refine (SM.out _).mono ?_; rintro e w1 ⟨rfl, rfl⟩
    go_wp2_with fail
    go_ret;exact ⟨rfl, below_new (Below.refl _ _) _⟩
def signK (l : List UInt8) : Int := if l = [123] then 5 else if l = [91] then 6 else if l = [40] then 7 else if l = [60] then 9 else 0
def begunK (k : Int) (s : ByteArray) : Int := if smallK k s = true \/ greatK k s = true then 8 else if k = 2 then baseT s.data.toList else if k = 4 then signK s.data.toList else 0
theorem ofWord_any (s : ByteArray) (w : World) : Calls Tryz.prog 200 #[.string s] w fun e w' => e = .returned (.int .i64 (baseT s.data.toList)) /\ w = w' := by
  have E := zH (show s.toList = s.data.toList from Lib.toList_data s);go_enter Tryz.func200, Tryz.ntmps200
  go_wp2
  all_goals go_ret
  all_goals refine ⟨ret_int' ?_, rfl⟩
  all_goals (rw [<- E.out]; clear E; simp_all [baseT])
theorem ofSign_any (s : ByteArray) (w : World) : Calls Tryz.prog 201 #[.string s] w fun e w' => e = .returned (.int .i64 (signK s.data.toList)) /\ w = w' := by
  have E := zH (show s.toList = s.data.toList from Lib.toList_data s);go_enter Tryz.func201, Tryz.ntmps201
  go_wp2
  all_goals go_ret
  all_goals refine ⟨ret_int' ?_, rfl⟩
  all_goals (rw [<- E.out]; clear E; simp_all [signK])
theorem begun_any (k y : Int) (s : ByteArray) (w : World) (hs : s.size <= 9223372036854775807) : Calls Tryz.prog 166 #[tokV k y s] w fun e w' => e = .returned (.int .i64 (begunK k s)) /\ Below w.heap.size w w' := by
  obtain ⟨W1, hW1⟩ : ∃ W1, W1 = w.alloc (.cells #[.int .i64 k, .int .i64 y, .string s] 92) := ⟨_, rfl⟩;have B1 : Below w.heap.size w W1 := by rw [hW1]; exact below_new (Below.refl _ _) _
  have T1 : TokBox w.heap.size k y s W1 := by rw [hW1]; exact heap_alloc_new w _
  have SM := zH (isSmall_any k y s W1 hs);have HW1 := zH hW1;have t0 : W1.cell? ⟨w.heap.size, 0, none⟩ = some (.int .i64 k) := cZ T1 0;have t1 : W1.cell? ⟨w.heap.size, 1, none⟩ = some (.int .i64 y) := cZ T1 1;have t2 : W1.cell? ⟨w.heap.size, 2, none⟩ = some (.string s) := cZ T1 2;have HT1 := zH T1;have HB1 := zH B1;have hl1 : w.heap.size < W1.heap.size := (Array.getElem?_eq_some_iff.1 T1).1;clear hW1 B1 T1;unfold tokV
  unfold tokV at SM
  go_enter Tryz.func166, Tryz.ntmps166
  go_upto_region 1 with fail
  rw [<- HW1.out];go_wp2_with fail
  refine SM.out.mono ?_; rintro e w2 ⟨rfl, hb2⟩
  obtain ⟨q1, hq1⟩ : ∃ q1, smallK k s = q1 := ⟨_, rfl⟩;rw [hq1];have HQ1 := zH hq1;have HB2 := zH (below_over HB1.out hb2);have HT2 := zH (HT1.out.on hb2);clear hq1 hb2 SM t0 t1 t2 HT1;cases q1 with
  | true =>
    have R : Hid (begunK k s = 8) := zH (by unfold begunK; rw [if_pos (.inl HQ1.out)]);go_wp2_with fail
    go_ret;exact ⟨by rw [R.out]; rfl, HB2.out⟩
  | false =>
    have GM := zH (isGreat_any k y s w2 hs);have t0 : w2.cell? ⟨w.heap.size, 0, none⟩ = some (.int .i64 k) := cZ HT2.out 0;have t1 : w2.cell? ⟨w.heap.size, 1, none⟩ = some (.int .i64 y) := cZ HT2.out 1;have t2 : w2.cell? ⟨w.heap.size, 2, none⟩ = some (.string s) := cZ HT2.out 2;unfold tokV at GM
    go_wp2_with fail
    refine GM.out.mono ?_; rintro e w3 ⟨rfl, hb3⟩
    obtain ⟨q2, hq2⟩ : ∃ q2, greatK k s = q2 := ⟨_, rfl⟩;rw [hq2];have HQ2 := zH hq2;have HB3 := zH (below_over HB2.out hb3);have HT3 := zH (HT2.out.on hb3);clear hq2 hb3 GM t0 t1 t2 HT2
    have R0 : Hid (q2 = false -> begunK k s = if k = 2 then baseT s.data.toList else if k = 4 then signK s.data.toList else 0) := zH (fun e => by
      unfold begunK
      rw [if_neg (by rw [HQ1.out, HQ2.out, e]; decide)])
    cases q2 with
    | true =>
      have R : Hid (begunK k s = 8) := zH (by unfold begunK; rw [if_pos (.inr HQ2.out)]);go_wp2_with fail
      go_ret;exact ⟨by rw [R.out]; rfl, HB3.out⟩
    | false =>
      have t0 : w3.cell? ⟨w.heap.size, 0, none⟩ = some (.int .i64 k) := cZ HT3.out 0;have t2 : w3.cell? ⟨w.heap.size, 2, none⟩ = some (.string s) := cZ HT3.out 2;rcases hid_or (k == 2) with a2 | a2
      rotate_left
      · have b2 := a2.out
        have R : Hid (begunK k s = baseT s.data.toList) := zH (by rw [R0.out rfl, if_pos (by simpa using b2)]);go_wp2_with fail
        refine (ofWord_any _ _).mono ?_; rintro e w4 ⟨rfl, rfl⟩
        go_wp2_with fail
        go_ret;exact ⟨by rw [R.out]; rfl, HB3.out⟩
      have b2 := a2.out;rcases hid_or (k == 4) with a4 | a4
      rotate_left
      · have b4 := a4.out
        have R : Hid (begunK k s = signK s.data.toList) := zH (by rw [R0.out rfl, if_neg (by simpa using b2), if_pos (by simpa using b4)]);go_wp2_with fail
        refine (ofSign_any _ _).mono ?_; rintro e w4 ⟨rfl, rfl⟩
        go_wp2_with fail
        go_ret;exact ⟨by rw [R.out]; rfl, HB3.out⟩
      · have b4 := a4.out
        have R : Hid (begunK k s = 0) := zH (by rw [R0.out rfl, if_neg (by simpa using b2), if_neg (by simpa using b4)]);go_wp2_with fail
        go_ret;exact ⟨by rw [R.out]; rfl, HB3.out⟩
end Go.Proofs.YtddlmigofilejaaGreatDoor
