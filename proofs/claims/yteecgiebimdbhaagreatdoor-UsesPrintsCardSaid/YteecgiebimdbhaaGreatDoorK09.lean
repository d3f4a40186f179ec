/-
  Several texts in one.
-/
import Derived.Test.YteecgiebimdbhaaGreatDoorK08
set_option maxRecDepth 100000
set_option maxHeartbeats 8000000
namespace Go.Proofs.YteecgiebimdbhaaGreatDoor
open Go.RowKit
open Go.Sort
open M
theorem RowIn.im {w : World} {A : Option Addr} {xs : List Im} (h : RowIn imR w A xs) {i : Nat} {x : Im} (hx : xs[i]? = some x) : ∃ g o, A = some ⟨g, o, none⟩ /\ g < w.heap.size /\
    w.cell? ⟨g, o + i * 4, none⟩ = some (.string x.pkg) /\ w.cell? ⟨g, o + i * 4 + 1, none⟩ = some (.int .i64 x.major) /\ w.cell? ⟨g, o + i * 4 + 2, none⟩ = some (.string x.mod) /\ w.cell? ⟨g, o + i * 4 + 3, none⟩ = some (.string x.asn) /\
    x.pkg.size <= 9223372036854775807 /\ x.mod.size <= 9223372036854775807 /\ x.asn.size <= 9223372036854775807 := by
  obtain ⟨g, o, l, hA, hg, hc, rfl, z1, z2, z3⟩ := h i x hx;exact ⟨g, o, hA, hg, hc 0 _ rfl, hc 1 _ rfl, hc 2 _ rfl, hc 3 _ rfl, z1, z2, z3⟩
theorem RowIn.de {w : World} {A : Option Addr} {xs : List De} (h : RowIn deR w A xs) {i : Nat} {x : De} (hx : xs[i]? = some x) : ∃ (g o : Nat) (v0 v1 v2 v3 v4 v5 v6 : Value), A = some ⟨g, o, none⟩ /\ g < w.heap.size /\
    w.cell? ⟨g, o + i * 9, none⟩ = some (.int .i64 x.kind) /\ w.cell? ⟨g, o + i * 9 + 1, none⟩ = some (.string x.name) /\ w.cell? ⟨g, o + i * 9 + 2, none⟩ = some v0 /\ w.cell? ⟨g, o + i * 9 + 2 + 1, none⟩ = some v1 /\ w.cell? ⟨g, o + i * 9 + 2 + 2, none⟩ = some v2 /\
    w.cell? ⟨g, o + i * 9 + 2 + 3, none⟩ = some v3 /\ w.cell? ⟨g, o + i * 9 + 2 + 4, none⟩ = some v4 /\ w.cell? ⟨g, o + i * 9 + 2 + 5, none⟩ = some v5 /\ w.cell? ⟨g, o + i * 9 + 2 + 6, none⟩ = some v6 /\ TyAt w [v0, v1, v2, v3, v4, v5, v6] x.typ /\ x.name.size <= 9223372036854775807 := by
  obtain ⟨g, o, l, hA, hg, hc, hs, l7, rfl, hT⟩ := h i x hx;obtain ⟨v0, v1, v2, v3, v4, v5, v6, rfl⟩ := list7 l7 hT.len;exact ⟨g, o, v0, v1, v2, v3, v4, v5, v6, hA, hg, hc 0 _ rfl, hc 1 _ rfl, hc 2 _ rfl, hc 3 _ rfl, hc 4 _ rfl, hc 5 _ rfl, hc 6 _ rfl, hc 7 _ rfl, hc 8 _ rfl, hT, hs⟩
end Go.Proofs.YteecgiebimdbhaaGreatDoor
namespace Go.Proofs.YteecgiebimdbhaaGreatDoor
open Go.RowKit
open M
theorem nameAt_of {l : List ByteArray} {i : Nat} {s : ByteArray} (h : l[i]? = some s) : nameAt l i = s := by
 unfold nameAt; rw [List.getD_eq_getElem?_getD, h]; rfl
theorem own_any (t : Ty) (v : Value) (w : World) (hv : TyV w v t) :
  Calls Tryz.prog 94 #[v] w fun e w' => e = .returned (.bool (ownOk t)) /\ Below w.heap.size w w' := by
 obtain ⟨l, rfl, hT⟩ := hv
 obtain ⟨An, cn, As, cs, rfl, zp, zm, za, hzn, hz, hN, -⟩ := hT.parts
 have HNM := hZ hN
 clear hT hN
 generalize hn : t.subs.length = n at hz
 have HN := hZ hn
 generalize hq : t.names.length = q at hzn
 have HQ := hZ hq
 clear hn hq
 by_cases h20 : 20 < n
 ·have R : Hid (ownOk t = false) := hZ (own_long (by rw [HN.out]; exact h20))
  have h20' : (20 : Int) < n := by omega
  rw [R.out];go_enter Tryz.func94, Tryz.ntmps94
  go_wp2_with fail
  go_ret;exact ⟨rfl, below_new (Below.refl _ _) _⟩
 have h20' : ¬ (20 : Int) < n := by omega
 go_enter Tryz.func94, Tryz.ntmps94
 go_wp2_with fail
 go_loopw [5] (fun i wr => ∃ k : Nat, k <= q /\ i = .int .i64 k /\ Hid (∀ j, j < k -> badName t.kind t.names j = false) /\ Below (boxed w #[.int .i64 t.kind, .string t.pkg, .int .i64 t.major, .string t.mod, .string t.name, .slice An q cn, .slice As n cs]).heap.size (boxed w #[.int .i64 t.kind, .string t.pkg, .int .i64 t.major, .string t.mod, .string t.name, .slice An q cn, .slice As n cs]) wr) (fun i _ => q - (intOf i).toNat)
 case atStart => exact ⟨0, by omega, rfl, hZ (fun j h => by omega), Below.refl _ _⟩
 case round =>
  obtain ⟨k, hk, rfl, HP, hb⟩ := hrel;obtain ⟨wo, rfl⟩ : ∃ wo : World, wo = wr := ⟨_, rfl⟩;by_cases hlt : k < q
  ·obtain ⟨s, hs⟩ : ∃ s, t.names[k]? = some s := ⟨_, List.getElem?_eq_getElem (by rw [HQ.out]; exact hlt)⟩
   have HB := hZ (box_below hb);obtain ⟨g, o, rfl, hgo, hcs, hzs⟩ := HNM.out.below HB.out k s hs;have b5 := box_cell hb 5;simp at b5;go_wp2_with fail
   refine (refSmall_any s _ hzs).mono ?_; rintro e w1 ⟨rfl, hb1⟩
   have hb2 := below_over hb hb1;have HB2 := hZ (box_below hb2);have b5' := box_cell hb2 5
   simp at b5';have hcs' : w1.cell? ⟨g, o + k, none⟩ = some (.string s) := (hb1.cell (p := ⟨g, _, none⟩) hgo).trans hcs
   clear b5 hcs hb hb1;go_wp2_with fail
   refine (refGreat_any s _ hzs).mono ?_; rintro e w' ⟨rfl, rfl⟩
   have b0 := box_cell hb2 0;simp at b0;have BAD : ∃ b, badName t.kind t.names k = b := ⟨_, rfl⟩;obtain ⟨bad, hbad⟩ := BAD;go_upto_region 10 with fail
   go_cut [6, 7, 70] (fun _ _ s70 wx => s70 = .bool bad /\ Below (boxed w #[.int .i64 t.kind, .string t.pkg, .int .i64 t.major, .string t.mod, .string t.name, .slice (some ⟨g, o, none⟩) q cn, .slice As n cs]).heap.size (boxed w #[.int .i64 t.kind, .string t.pkg, .int .i64 t.major, .string t.mod, .string t.name, .slice (some ⟨g, o, none⟩) q cn, .slice As n cs]) wx)
   case first =>
    unfold badName at hbad
    rw [nameAt_of hs] at hbad;rcases hid_or (t.kind == 5) with h5 | h5
    rotate_left
    ·have k5 := h5.out
     have k6 : (t.kind == 6) = false := by
      have e : t.kind = 5 := by simpa using k5
      rw [e]; rfl
     rcases hid_or (smallB s.data.toList) with hs1 | hs1
     ·have a1 := hs1.out
      have hv : bad = true := by
       rw [<- hbad, k5, a1];first | done | rfl
      subst hv;clear hbad;as_aux_lemma =>
      go_quiet (fail)
      go_wp2_with fail
      go_meet
      exact ⟨rfl, below_drewN hb2 nq⟩
     ·have a1 := hs1.out
      rcases Nat.eq_zero_or_pos k with hk0 | hk0
      ·have hp : ¬ (0 : Int) < k := by omega
       have hd : decide (0 < k) = false := by simp; omega
       clear hk0
       have hv : bad = false := by
        rw [<- hbad, k5, k6, a1, hd];first | done | rfl
       subst hv;clear hbad;as_aux_lemma =>
       go_quiet (fail)
       go_wp2_with fail
       go_meet
       exact ⟨rfl, below_drewN hb2 nq⟩
      ·obtain ⟨p, hps⟩ : ∃ p, t.names[k - 1]? = some p := ⟨_, List.getElem?_eq_getElem (by rw [HQ.out]; omega)⟩
       obtain ⟨g2, o2, eg, hg2, hc2, -⟩ := HNM.out.below HB2.out (k - 1) p hps;obtain ⟨rfl, rfl⟩ : g = g2 /\ o = o2 := by simpa using eg
       rw [nameAt_of hps] at hbad;have hp : (0 : Int) < k := by omega
       have hp1 : 1 <= (k : Int) := by omega
       have hd : decide (0 < k) = true := by simp; omega
       unfold leS at hbad
       clear eg hg2 hps hk0;rcases hid_or (Op.bytesLess s.toList p.toList || s.toList == p.toList) with hL | hL
       ·have hl := hL.out
        have hv : bad = false := by
         rw [<- hbad, k5, k6, a1, hd, hl];first | done | rfl
        subst hv;clear hbad;as_aux_lemma =>
        go_quiet (fail)
        go_wp2_with fail
        go_meet
        exact ⟨rfl, below_drewN hb2 nq⟩
       ·have hl := hL.out
        have hv : bad = true := by
         rw [<- hbad, k5, k6, a1, hd, hl];first | done | rfl
        subst hv;clear hbad;as_aux_lemma =>
        go_quiet (fail)
        go_wp2_with fail
        go_meet
        exact ⟨rfl, below_drewN hb2 nq⟩
    have k5 := h5.out;rcases hid_or (t.kind == 6) with h6 | h6
    rotate_left
    ·have k6 := h6.out
     rcases hid_or (greatB s.data.toList) with hs1 | hs1
     ·have a1 := hs1.out
      have hv : bad = true := by
       rw [<- hbad, k5, k6, a1];first | done | rfl
      subst hv;clear hbad;as_aux_lemma =>
      go_quiet (fail)
      go_wp2_with fail
      go_meet
      exact ⟨rfl, below_drewN hb2 nq⟩
     ·have a1 := hs1.out
      rcases Nat.eq_zero_or_pos k with hk0 | hk0
      ·have hp : ¬ (0 : Int) < k := by omega
       have hd : decide (0 < k) = false := by simp; omega
       clear hk0
       have hv : bad = false := by
        rw [<- hbad, k5, k6, a1, hd];first | done | rfl
       subst hv;clear hbad;as_aux_lemma =>
       go_quiet (fail)
       go_wp2_with fail
       go_meet
       exact ⟨rfl, below_drewN hb2 nq⟩
      ·obtain ⟨p, hps⟩ : ∃ p, t.names[k - 1]? = some p := ⟨_, List.getElem?_eq_getElem (by rw [HQ.out]; omega)⟩
       obtain ⟨g2, o2, eg, hg2, hc2, -⟩ := HNM.out.below HB2.out (k - 1) p hps;obtain ⟨rfl, rfl⟩ : g = g2 /\ o = o2 := by simpa using eg
       rw [nameAt_of hps] at hbad;have hp : (0 : Int) < k := by omega
       have hp1 : 1 <= (k : Int) := by omega
       have hd : decide (0 < k) = true := by simp; omega
       unfold leS at hbad
       clear eg hg2 hps hk0;rcases hid_or (Op.bytesLess s.toList p.toList || s.toList == p.toList) with hL | hL
       ·have hl := hL.out
        have hv : bad = false := by
         rw [<- hbad, k5, k6, a1, hd, hl];first | done | rfl
        subst hv;clear hbad;as_aux_lemma =>
        go_quiet (fail)
        go_wp2_with fail
        go_meet
        exact ⟨rfl, below_drewN hb2 nq⟩
       ·have hl := hL.out
        have hv : bad = true := by
         rw [<- hbad, k5, k6, a1, hd, hl];first | done | rfl
        subst hv;clear hbad;as_aux_lemma =>
        go_quiet (fail)
        go_wp2_with fail
        go_meet
        exact ⟨rfl, below_drewN hb2 nq⟩
    have k6 := h6.out;rcases Nat.eq_zero_or_pos k with hk0 | hk0
    ·have hp : ¬ (0 : Int) < k := by omega
     have hd : decide (0 < k) = false := by simp; omega
     clear hk0
     have hv : bad = false := by
      rw [<- hbad, k5, k6, hd];first | done | rfl
     subst hv;clear hbad;as_aux_lemma =>
     go_quiet (fail)
     go_wp2_with fail
     go_meet
     exact ⟨rfl, below_drewN hb2 nq⟩
    ·obtain ⟨p, hps⟩ : ∃ p, t.names[k - 1]? = some p := ⟨_, List.getElem?_eq_getElem (by rw [HQ.out]; omega)⟩
     obtain ⟨g2, o2, eg, hg2, hc2, -⟩ := HNM.out.below HB2.out (k - 1) p hps;obtain ⟨rfl, rfl⟩ : g = g2 /\ o = o2 := by simpa using eg
     rw [nameAt_of hps] at hbad;have hp : (0 : Int) < k := by omega
     have hp1 : 1 <= (k : Int) := by omega
     have hd : decide (0 < k) = true := by simp; omega
     unfold leS at hbad
     clear eg hg2 hps hk0;rcases hid_or (Op.bytesLess s.toList p.toList || s.toList == p.toList) with hL | hL
     ·have hl := hL.out
      have hv : bad = false := by
       rw [<- hbad, k5, k6, hd, hl];first | done | rfl
      subst hv;clear hbad;as_aux_lemma =>
      go_quiet (fail)
      go_wp2_with fail
      go_meet
      exact ⟨rfl, below_drewN hb2 nq⟩
     ·have hl := hL.out
      have hv : bad = true := by
       rw [<- hbad, k5, k6, hd, hl];first | done | rfl
      subst hv;clear hbad;as_aux_lemma =>
      go_quiet (fail)
      go_wp2_with fail
      go_meet
      exact ⟨rfl, below_drewN hb2 nq⟩
   case rest =>
    obtain ⟨rfl, hb3⟩ := hcut;clear b0 b5' hcs' hb2 HB2;have HBD := hZ hbad;clear hbad;rcases hid_or bad with hbb | hbb
    ·obtain rfl := hbb.out
     go_wp2_with fail
     go_roundw
     case rel => exact ⟨k + 1, by omega, by go_num, hZ (fun j hj => by
      rcases Nat.lt_or_ge j k with a | a
      ·exact HP.out j a
      ·rw [show j = k by omega]; exact HBD.out), hb3⟩
     case measure => simp [intOf]; omega
    ·obtain rfl := hbb.out
     have R : Hid (ownOk t = false) := hZ (own_bad (by rw [HQ.out]; exact hlt) HBD.out);go_wp2_with fail
     go_ret;exact ⟨ret_bool R.out, box_below hb3⟩
  ·have hkq : k = q := by omega
   have HB := hZ (box_below hb);have R0 : Hid (ownOk t = shapeOk t) := hZ (own_good (by rw [HN.out]; omega) (fun i hi => HP.out i (by rw [HQ.out] at hi; omega)));have c1 := box_cell hb 1;have c2 := box_cell hb 2;have c3 := box_cell hb 3;have c4 := box_cell hb 4;simp at c1 c2 c3 c4;go_upto_region 12 with fail
   obtain ⟨em, hem⟩ : ∃ b, noMore t = b := ⟨_, rfl⟩;go_cut [8] (fun s8 wx => s8 = .bool em /\ wo = wx)
   case first =>
    unfold noMore emptyB at hem
    by_cases e1 : t.pkg.size = 0
    ·obtain ⟨x1, y1⟩ := empty_facts _ e1
     have d1 : decide (t.pkg.size = 0) = true := by simpa using e1
     rcases hid_or (t.major == 0) with e2 | e2
     ·have d2 := e2.out
      have hv : em = false := by
       rw [<- hem, d1, d2];first | done | rfl
      subst hv;clear hem;clear e1 d1;as_aux_lemma =>
      go_wp2_with fail
      go_meet
      exact ⟨rfl, rfl⟩
     ·have d2 := e2.out
      by_cases e3 : t.mod.size = 0
      ·obtain ⟨x3, y3⟩ := empty_facts _ e3
       have d3 : decide (t.mod.size = 0) = true := by simpa using e3
       by_cases e4 : t.name.size = 0
       ·obtain ⟨x4, y4⟩ := empty_facts _ e4
        have d4 : decide (t.name.size = 0) = true := by simpa using e4
        have hv : em = true := by
         rw [<- hem, d1, d2, d3, d4];first | done | rfl
        subst hv;clear hem;clear e1 e3 e4 d1 d3 d4;as_aux_lemma =>
        go_wp2_with fail
        go_meet
        exact ⟨rfl, rfl⟩
       ·obtain ⟨x4, y4⟩ := full_facts _ e4
        have d4 : decide (t.name.size = 0) = false := by simpa using e4
        have hv : em = false := by
         rw [<- hem, d1, d2, d3, d4];first | done | rfl
        subst hv;clear hem;clear e1 e3 e4 d1 d3 d4;as_aux_lemma =>
        go_wp2_with fail
        go_meet
        exact ⟨rfl, rfl⟩
      ·obtain ⟨x3, y3⟩ := full_facts _ e3
       have d3 : decide (t.mod.size = 0) = false := by simpa using e3
       have hv : em = false := by
        rw [<- hem, d1, d2, d3];first | done | rfl
       subst hv;clear hem;clear e1 e3 d1 d3;as_aux_lemma =>
       go_wp2_with fail
       go_meet
       exact ⟨rfl, rfl⟩
    ·obtain ⟨x1, y1⟩ := full_facts _ e1
     have d1 : decide (t.pkg.size = 0) = false := by simpa using e1
     have hv : em = false := by
      rw [<- hem, d1];first | done | rfl
     subst hv;clear hem;clear e1 d1;as_aux_lemma =>
     go_wp2_with fail
     go_meet
     exact ⟨rfl, rfl⟩
   case rest =>
    obtain ⟨rfl, rfl⟩ := hcut;unfold shapeOk at R0
    rw [hem] at R0;have HNQ : t.subs.length = n /\ t.names.length = q := ⟨HN.out, HQ.out⟩;rw [HNQ.1, HNQ.2] at R0;clear HNQ;clear hem;go_wp2_with fail
    refine (refGreat_any _ _ za).mono ?_; rintro e w' ⟨rfl, rfl⟩
    generalize greatB t.name.data.toList = gr at R0
    go_wp2_with fail
    refine (refSmall_any _ _ zm).mono ?_; rintro e w1 ⟨rfl, hb1⟩
    generalize smallB t.mod.data.toList = sm at R0
    have hb2 := below_over hb hb1;have d1 := box_cell hb2 1;simp at d1;clear c1 c2 c3 c4 hb hb1;go_wp2_with fail
    refine (refSmall_any _ _ zp).mono ?_; rintro e w2 ⟨rfl, hb3⟩
    generalize smallB t.pkg.data.toList = sp at R0
    have hb4 := below_over hb2 hb3;have f0 := box_cell hb4 0;have f1 := box_cell hb4 1;have f2 := box_cell hb4 2;have f3 := box_cell hb4 3;simp at f0 f1 f2 f3;have HB4 := hZ (box_below hb4);clear hb2 hb3 hb4 d1;by_cases hx1 : t.kind = 1
    ·as_aux_lemma =>
     have R : Hid (ownOk t = (em && decide (n = 0) && decide (q = 0))) := hZ (by rw [R0.out, hx1]; rfl);clear R0;have b1 : (t.kind == 1) = true := by rw [hx1]; rfl
     clear hx1;go_wp2
     all_goals go_ret
     all_goals exact ⟨ret_bool (by rw [R.out]; clear f0 f1 f2 f3 hlt hkq hk h20 hz hzn HB HB4 HNM HN HQ HP zp zm za R; rw [Bool.eq_iff_iff]; simp_all <;> omega), HB4.out⟩
    by_cases hx2 : t.kind = 2
    ·as_aux_lemma =>
     have R : Hid (ownOk t = (em && decide (n = 0) && decide (q = 0))) := hZ (by rw [R0.out, hx2]; rfl);clear R0;have b1 : (t.kind == 1) = false := by rw [hx2]; rfl
     have b2 : (t.kind == 2) = true := by rw [hx2]; rfl
     clear hx2;go_wp2
     all_goals go_ret
     all_goals exact ⟨ret_bool (by rw [R.out]; clear f0 f1 f2 f3 hlt hkq hk h20 hz hzn HB HB4 HNM HN HQ HP zp zm za R; rw [Bool.eq_iff_iff]; simp_all <;> omega), HB4.out⟩
    by_cases hx3 : t.kind = 3
    ·as_aux_lemma =>
     have R : Hid (ownOk t = (em && decide (n = 0) && decide (q = 0))) := hZ (by rw [R0.out, hx3]; rfl);clear R0;have b1 : (t.kind == 1) = false := by rw [hx3]; rfl
     have b2 : (t.kind == 2) = false := by rw [hx3]; rfl
     have b3 : (t.kind == 3) = true := by rw [hx3]; rfl
     clear hx3;go_wp2
     all_goals go_ret
     all_goals exact ⟨ret_bool (by rw [R.out]; clear f0 f1 f2 f3 hlt hkq hk h20 hz hzn HB HB4 HNM HN HQ HP zp zm za R; rw [Bool.eq_iff_iff]; simp_all <;> omega), HB4.out⟩
    by_cases hx4 : t.kind = 4
    ·as_aux_lemma =>
     have R : Hid (ownOk t = (em && decide (n = 1) && decide (q = 0))) := hZ (by rw [R0.out, hx4]; rfl);clear R0;have b1 : (t.kind == 1) = false := by rw [hx4]; rfl
     have b2 : (t.kind == 2) = false := by rw [hx4]; rfl
     have b3 : (t.kind == 3) = false := by rw [hx4]; rfl
     have b4 : (t.kind == 4) = true := by rw [hx4]; rfl
     clear hx4;go_wp2
     all_goals go_ret
     all_goals exact ⟨ret_bool (by rw [R.out]; clear f0 f1 f2 f3 hlt hkq hk h20 hz hzn HB HB4 HNM HN HQ HP zp zm za R; rw [Bool.eq_iff_iff]; simp_all <;> omega), HB4.out⟩
    by_cases hx5 : t.kind = 5
    ·as_aux_lemma =>
     have R : Hid (ownOk t = (em && decide (n = q))) := hZ (by rw [R0.out, hx5]; rfl);clear R0;have b1 : (t.kind == 1) = false := by rw [hx5]; rfl
     have b2 : (t.kind == 2) = false := by rw [hx5]; rfl
     have b3 : (t.kind == 3) = false := by rw [hx5]; rfl
     have b4 : (t.kind == 4) = false := by rw [hx5]; rfl
     have b5 : (t.kind == 5) = true := by rw [hx5]; rfl
     clear hx5;go_wp2
     all_goals go_ret
     all_goals exact ⟨ret_bool (by rw [R.out]; clear f0 f1 f2 f3 hlt hkq hk h20 hz hzn HB HB4 HNM HN HQ HP zp zm za R; rw [Bool.eq_iff_iff]; simp_all <;> omega), HB4.out⟩
    by_cases hx6 : t.kind = 6
    ·as_aux_lemma =>
     have R : Hid (ownOk t = (em && decide (n = q) && decide (0 < n))) := hZ (by rw [R0.out, hx6]; rfl);clear R0;have b1 : (t.kind == 1) = false := by rw [hx6]; rfl
     have b2 : (t.kind == 2) = false := by rw [hx6]; rfl
     have b3 : (t.kind == 3) = false := by rw [hx6]; rfl
     have b4 : (t.kind == 4) = false := by rw [hx6]; rfl
     have b5 : (t.kind == 5) = false := by rw [hx6]; rfl
     have b6 : (t.kind == 6) = true := by rw [hx6]; rfl
     clear hx6;go_wp2
     all_goals go_ret
     all_goals exact ⟨ret_bool (by rw [R.out]; clear f0 f1 f2 f3 hlt hkq hk h20 hz hzn HB HB4 HNM HN HQ HP zp zm za R; rw [Bool.eq_iff_iff]; simp_all <;> omega), HB4.out⟩
    by_cases hx7 : t.kind = 7
    ·as_aux_lemma =>
     have R : Hid (ownOk t = (em && decide (0 < n) && decide (q = 0))) := hZ (by rw [R0.out, hx7]; rfl);clear R0;have b1 : (t.kind == 1) = false := by rw [hx7]; rfl
     have b2 : (t.kind == 2) = false := by rw [hx7]; rfl
     have b3 : (t.kind == 3) = false := by rw [hx7]; rfl
     have b4 : (t.kind == 4) = false := by rw [hx7]; rfl
     have b5 : (t.kind == 5) = false := by rw [hx7]; rfl
     have b6 : (t.kind == 6) = false := by rw [hx7]; rfl
     have b7 : (t.kind == 7) = true := by rw [hx7]; rfl
     clear hx7;go_wp2
     all_goals go_ret
     all_goals exact ⟨ret_bool (by rw [R.out]; clear f0 f1 f2 f3 hlt hkq hk h20 hz hzn HB HB4 HNM HN HQ HP zp zm za R; rw [Bool.eq_iff_iff]; simp_all <;> omega), HB4.out⟩
    by_cases hx8 : t.kind = 8
    ·have R : Hid (ownOk t = (decide (n = 0) && decide (q = 0) && emptyB t.pkg && (t.major == 0) && gr && (sm || emptyB t.mod))) := hZ (by rw [R0.out, hx8]; rfl)
     clear R0;have b1 : (t.kind == 1) = false := by rw [hx8]; rfl
     have b2 : (t.kind == 2) = false := by rw [hx8]; rfl
     have b3 : (t.kind == 3) = false := by rw [hx8]; rfl
     have b4 : (t.kind == 4) = false := by rw [hx8]; rfl
     have b5 : (t.kind == 5) = false := by rw [hx8]; rfl
     have b6 : (t.kind == 6) = false := by rw [hx8]; rfl
     have b7 : (t.kind == 7) = false := by rw [hx8]; rfl
     have b8 : (t.kind == 8) = true := by rw [hx8]; rfl
     clear hx8;unfold emptyB at R
     by_cases e1 : t.pkg.size = 0
     ·obtain ⟨x1, y1⟩ := empty_facts _ e1
      by_cases e3 : t.mod.size = 0
      ·obtain ⟨x3, y3⟩ := empty_facts _ e3
       as_aux_lemma =>
       go_wp2
       all_goals go_ret
       all_goals exact ⟨ret_bool (by rw [R.out]; clear f0 f1 f2 f3 hlt hkq hk h20 hz hzn HB HB4 HNM HN HQ HP zp zm za R; rw [Bool.eq_iff_iff]; simp_all <;> omega), HB4.out⟩
      ·obtain ⟨x3, y3⟩ := full_facts _ e3
       as_aux_lemma =>
       go_wp2
       all_goals go_ret
       all_goals exact ⟨ret_bool (by rw [R.out]; clear f0 f1 f2 f3 hlt hkq hk h20 hz hzn HB HB4 HNM HN HQ HP zp zm za R; rw [Bool.eq_iff_iff]; simp_all <;> omega), HB4.out⟩
     ·obtain ⟨x1, y1⟩ := full_facts _ e1
      as_aux_lemma =>
      go_wp2
      all_goals go_ret
      all_goals exact ⟨ret_bool (by rw [R.out]; clear f0 f1 f2 f3 hlt hkq hk h20 hz hzn HB HB4 HNM HN HQ HP zp zm za R; rw [Bool.eq_iff_iff]; simp_all <;> omega), HB4.out⟩
    by_cases hx9 : t.kind = 9
    ·as_aux_lemma =>
     have R : Hid (ownOk t = (decide (n = 0) && decide (q = 0) && sp && sm && gr && decide (1 <= t.major) && decide (t.major <= 999999999))) := hZ (by rw [R0.out, hx9]; rfl);clear R0;have b1 : (t.kind == 1) = false := by rw [hx9]; rfl
     have b2 : (t.kind == 2) = false := by rw [hx9]; rfl
     have b3 : (t.kind == 3) = false := by rw [hx9]; rfl
     have b4 : (t.kind == 4) = false := by rw [hx9]; rfl
     have b5 : (t.kind == 5) = false := by rw [hx9]; rfl
     have b6 : (t.kind == 6) = false := by rw [hx9]; rfl
     have b7 : (t.kind == 7) = false := by rw [hx9]; rfl
     have b8 : (t.kind == 8) = false := by rw [hx9]; rfl
     have b9 : (t.kind == 9) = true := by rw [hx9]; rfl
     clear hx9;go_wp2
     all_goals go_ret
     all_goals exact ⟨ret_bool (by rw [R.out]; clear f0 f1 f2 f3 hlt hkq hk h20 hz hzn HB HB4 HNM HN HQ HP zp zm za R; rw [Bool.eq_iff_iff]; simp_all <;> omega), HB4.out⟩
    have R : Hid (ownOk t = false) := hZ (by rw [R0.out, if_neg (by omega), if_neg hx4, if_neg hx5, if_neg hx6, if_neg hx7, if_neg hx8, if_neg hx9]);clear R0;have b1 : (t.kind == 1) = false := by simpa using hx1
    have b2 : (t.kind == 2) = false := by simpa using hx2
    have b3 : (t.kind == 3) = false := by simpa using hx3
    have b4 : (t.kind == 4) = false := by simpa using hx4
    have b5 : (t.kind == 5) = false := by simpa using hx5
    have b6 : (t.kind == 6) = false := by simpa using hx6
    have b7 : (t.kind == 7) = false := by simpa using hx7
    have b8 : (t.kind == 8) = false := by simpa using hx8
    have b9 : (t.kind == 9) = false := by simpa using hx9
    clear hx1 hx2 hx3 hx4 hx5 hx6 hx7 hx8 hx9;as_aux_lemma =>
    go_wp2
    all_goals go_ret
    all_goals exact ⟨ret_bool (by rw [R.out]), HB4.out⟩
theorem all_any (N : Nat) : ∀ (t : Ty), many t <= N -> ∀ (v : Value) (w : World), TyV w v t ->
  Calls Tryz.prog 55 #[v] w fun e w' => e = .returned (.bool (allOk t)) /\ Below w.heap.size w w' := by
 induction N with
 | zero => intro t h; have := many_pos t; omega
 | succ N ih =>
  intro t hN v w hv;have HV := hZ hv;obtain ⟨l, rfl, hT⟩ := hv;obtain ⟨An, cn, As, cs, rfl, -, -, -, hzn, hz, -, hS⟩ := hT.parts;have HS := hZ hS;clear hT hS;have HE := hZ (allOk_eq t);generalize hn : t.subs.length = n at hz HV
  have HN := hZ hn;clear hn;go_enter Tryz.func55, Tryz.ntmps55
  go_wp2_with fail
  refine (own_any t _ _ (HV.out.below (below_new (Below.refl _ _) _))).mono ?_; rintro e w1 ⟨rfl, hb1⟩
  have hb1' : Below (boxed w #[.int .i64 t.kind, .string t.pkg, .int .i64 t.major, .string t.mod, .string t.name, .slice An t.names.length cn, .slice As n cs]).heap.size (boxed w #[.int .i64 t.kind, .string t.pkg, .int .i64 t.major, .string t.mod, .string t.name, .slice An t.names.length cn, .slice As n cs]) w1 := hb1
  rcases hid_or (ownOk t) with ho | ho
  ·have R : Hid (allOk t = false) := hZ (by rw [HE.out, ho.out]; rfl)
   have HB1 := hZ (box_below hb1');rw [ho.out];clear hb1 hb1';go_wp2_with fail
   go_loopw [3, 4] (fun b i wr => b = .bool false /\ i = .int .i64 0 /\ w1 = wr) (fun _ _ _ => 0)
   case atStart => exact ⟨rfl, rfl, rfl⟩
   case round =>
    obtain ⟨rfl, rfl, rfl⟩ := hrel;go_wp2_with fail
    go_ret;exact ⟨ret_bool R.out, HB1.out⟩
  ·rw [ho.out]
   clear hb1;go_wp2_with fail
   go_loopw [3, 4] (fun b i wr => ∃ (k : Nat) (c : Bool), k <= n /\ i = .int .i64 k /\ b = .bool c /\ Hid (c = true -> ∀ j s, j < k -> t.subs[j]? = some s -> allOk s = true) /\ Hid (c = false -> allOk t = false) /\ Below (boxed w #[.int .i64 t.kind, .string t.pkg, .int .i64 t.major, .string t.mod, .string t.name, .slice An t.names.length cn, .slice As n cs]).heap.size (boxed w #[.int .i64 t.kind, .string t.pkg, .int .i64 t.major, .string t.mod, .string t.name, .slice An t.names.length cn, .slice As n cs]) wr) (fun _ i _ => n - (intOf i).toNat)
   case atStart => exact ⟨0, true, by omega, rfl, rfl, hZ (fun _ j s h => by omega), hZ (fun h => by cases h), hb1'⟩
   case round =>
    obtain ⟨k, c, hk, rfl, rfl, HC, HF, hb⟩ := hrel;obtain ⟨wo, rfl⟩ : ∃ wo : World, wo = wr := ⟨_, rfl⟩;have b6 := box_cell hb 6;simp at b6;have HB := hZ (box_below hb);rcases hid_or c with hc | hc
    ·obtain rfl := hc.out
     have R : Hid (allOk t = false) := hZ (HF.out (by trivial));go_wp2_with fail
     go_ret;exact ⟨ret_bool R.out, HB.out⟩
    ·obtain rfl := hc.out
     by_cases hlt : k < n
     ·obtain ⟨s, hs⟩ : ∃ s, t.subs[k]? = some s := ⟨_, List.getElem?_eq_getElem (by rw [HN.out]; exact hlt)⟩
      obtain ⟨g, o, v0, v1, v2, v3, v4, v5, v6, rfl, -, h0, h1, h2, h3, h4, h5, h6, hs7⟩ := HS.out.below HB.out k s hs;have hsm := sub_many hs;have IH := hZ (ih s (by omega) (.agg #[v0, v1, v2, v3, v4, v5, v6]) wo ⟨_, rfl, hs7⟩);have HSS := hZ hs;clear hs7 hs hsm;go_wp2_with fail
      refine IH.out.mono ?_; rintro e w2 ⟨rfl, hb2⟩
      have hb3 := below_over hb hb2;clear b6 h0 h1 h2 h3 h4 h5 h6 hb hb2;go_wp2_with fail
      go_roundw
      case rel => exact ⟨k + 1, allOk s, by omega, by go_num, rfl, hZ (fun hc j q hj hq => by
       rcases Nat.lt_or_ge j k with a | a
       ·exact HC.out (by trivial) j q a hq
       ·rw [show j = k by omega, HSS.out] at hq
        obtain rfl := Option.some.inj hq;exact hc), hZ (fun hc => by
       rw [HE.out, Bool.and_eq_false_iff]; right
       rw [Bool.eq_false_iff, ne_eq, allOkL_mem];intro h;have := h s (List.mem_of_getElem? HSS.out)
       rw [hc] at this; cases this), hb3⟩
      case measure => simp [intOf]; omega
     ·have R : Hid (allOk t = true) := hZ (by
       rw [HE.out, ho.out, (allOkL_mem t.subs).2 (fun s hs => ?_)]
       ·rfl
       ·obtain ⟨j, hj⟩ := List.getElem?_of_mem hs
        have hjl := (List.getElem?_eq_some_iff.1 hj).1;exact HC.out (by trivial) j s (by rw [HN.out] at hjl; omega) hj)
      go_wp2_with fail
      go_ret;exact ⟨ret_bool R.out, HB.out⟩
theorem may_any (t : Ty) (v : Value) (w : World) (hM : many t <= 9000) (hv : TyV w v t) :
  Calls Tryz.prog 28 #[v] w fun e w' => e = .returned (.bool (mayT t)) /\ Below w.heap.size w w' := by
 have HV := hZ hv
 obtain ⟨l, rfl, hT⟩ := hv
 obtain ⟨An, cn, As, cs, rfl, -, -, -, -, -, -, -⟩ := hT.parts
 clear hT
 have hD := deep_many t
 unfold mayT
 go_enter Tryz.func28, Tryz.ntmps28
 go_wp2_with fail
 refine (all_any _ t (Nat.le_refl _) _ _ (HV.out.below (below_new (Below.refl _ _) _))).mono ?_; rintro e w1 ⟨rfl, hb1⟩
 have hb1' : Below (boxed w #[.int .i64 t.kind, .string t.pkg, .int .i64 t.major, .string t.mod, .string t.name, .slice An t.names.length cn, .slice As t.subs.length cs]).heap.size (boxed w #[.int .i64 t.kind, .string t.pkg, .int .i64 t.major, .string t.mod, .string t.name, .slice An t.names.length cn, .slice As t.subs.length cs]) w1 := hb1
 clear hb1
 have V1 := hZ (HV.out.below (box_below hb1'))
 have c0 := box_cell hb1' 0; have c1 := box_cell hb1' 1; have c2 := box_cell hb1' 2; have c3 := box_cell hb1' 3; have c4 := box_cell hb1' 4; have c5 := box_cell hb1' 5; have c6 := box_cell hb1' 6
 simp at c0 c1 c2 c3 c4 c5 c6
 rcases hid_or (allOk t) with ha | ha
 ·have R : Hid ((allOk t && decide (many t <= 500) && decide (deep t <= 32)) = false) := hZ (by rw [ha.out]; rfl)
  rw [ha.out];go_wp2_with fail
  go_ret;exact ⟨ret_bool R.out, box_below hb1'⟩
 ·rw [ha.out]
  have HB1 := hZ (box_below hb1');go_wp2_with fail
  refine (many_any _ t (Nat.le_refl _) hM _ _ V1.out).mono ?_; rintro e w2 ⟨rfl, hb2⟩
  have hb3 := below_over hb1' hb2;clear hb1' hb2 c0 c1 c2 c3 c4 c5 c6;have V2 := hZ (HV.out.below (box_below hb3));have c0 := box_cell hb3 0; have c1 := box_cell hb3 1; have c2 := box_cell hb3 2; have c3 := box_cell hb3 3; have c4 := box_cell hb3 4; have c5 := box_cell hb3 5; have c6 := box_cell hb3 6
  simp at c0 c1 c2 c3 c4 c5 c6;by_cases h5 : many t <= 500
  ·have R : Hid ((allOk t && decide (many t <= 500) && decide (deep t <= 32)) = decide (deep t <= 32)) := hZ (by rw [ha.out, show decide (many t <= 500) = true by simpa using h5]; rfl)
   go_wp2_with fail
   refine (deep_any _ t (Nat.le_refl _) hM _ _ V2.out).mono ?_; rintro e w4 ⟨rfl, hb4⟩
   have HB4 := hZ (box_below (below_over hb3 hb4));clear c0 c1 c2 c3 c4 c5 c6 hb3 hb4;by_cases hd : deep t <= 32
   ·go_wp2_with fail
    go_ret;exact ⟨ret_bool (by rw [R.out, Bool.eq_iff_iff]; simp <;> omega), HB4.out⟩
   ·go_wp2_with fail
    go_ret;exact ⟨ret_bool (by rw [R.out, Bool.eq_iff_iff]; simp <;> omega), HB4.out⟩
  ·have R : Hid ((allOk t && decide (many t <= 500) && decide (deep t <= 32)) = false) := hZ (by rw [ha.out, show decide (many t <= 500) = false by simpa using h5]; rfl)
   have HB3 := hZ (box_below hb3);go_wp2_with fail
   go_ret;first | exact ⟨ret_bool R.out, HB3.out⟩ | exact ⟨rfl, HB3.out⟩
end Go.Proofs.YteecgiebimdbhaaGreatDoor
namespace Go.Proofs.YteecgiebimdbhaaGreatDoor
open Go.RowKit
open Go.Sort
open M
def mayI (x : Im) : Bool := smallB x.pkg.data.toList && (smallB x.mod.data.toList && (smallB x.asn.data.toList && (decide (1 <= x.major) && decide (x.major <= 999999999))))
def mayD (d : De) : Bool :=
  if d.kind = 1 \/ d.kind = 2 then greatB d.name.data.toList && sameT d.typ noT
  else if d.kind = 3 then greatB d.name.data.toList && mayT d.typ
  else if d.kind = 4 then smallB d.name.data.toList && mayT d.typ
  else false
end Go.Proofs.YteecgiebimdbhaaGreatDoor
