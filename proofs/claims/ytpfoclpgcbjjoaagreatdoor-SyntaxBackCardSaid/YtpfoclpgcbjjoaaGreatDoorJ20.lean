/-
  Several texts in one: The walk of the reference's own: are a type's own fields what its kind asks? · Walks of the reference's all and May: may a type be? · The reference's May of modules: imports, declarations. · The reference's May of modules: a declaration. · The reference's May of modules. · The walk of the reference's Few: what is small enough to be gone through has at most 3000 types. · The reference's Few of modules.
-/
import Derived.Test.YtpfoclpgcbjjoaaGreatDoorJ19
import Derived.Test.YtpfoclpgcbjjoaaGreatDoorJ00
import Derived.Test.YtpfoclpgcbjjoaaGreatDoorJ01
import Derived.Deep.QuietTactic
import Derived.BigQuiet
import Derived.Deep.DeepCutAuto
import Derived.Deep.CutBlock
import Derived.Test.YtpfoclpgcbjjoaaGreatDoorJ18
/- The walk of the reference's own: are a type's own fields what its kind asks? -/
namespace Go.Proofs.YtpfoclpgcbjjoaaGreatDoor
open Go.RowKit
open M

theorem nameAt_of {l : List ByteArray} {i : Nat} {s : ByteArray} (h : l[i]? = some s) : nameAt l i = s := by
  unfold nameAt; rw [List.getD_eq_getElem?_getD, h]; rfl

set_option maxRecDepth 100000 in
set_option maxHeartbeats 8000000 in
theorem own_any (t : Ty) (v : Value) (w : World) (hv : TyV w v t) :
    Calls Tryz.prog 105 #[v] w fun e w' => e = .returned (.bool (ownOk t)) ∧ Below w.heap.size w w' := by
  obtain ⟨l, rfl, hT⟩ := hv
  obtain ⟨An, cn, As, cs, rfl, zp, zm, za, hzn, hz, hN, -⟩ := hT.parts
  have HNM := Lib.hid hN
  clear hT hN
  generalize hn : t.subs.length = n at hz
  have HN := Lib.hid hn
  generalize hq : t.names.length = q at hzn
  have HQ := Lib.hid hq
  clear hn hq
  by_cases h20 : 20 < n
  · have R : Hid (ownOk t = false) := Lib.hid (own_long (by rw [HN.out]; exact h20))
    have h20' : (20 : Int) < n := by omega
    rw [R.out]
    go_enter Tryz.func105, Tryz.ntmps105
    go_wp2_with fail
    go_ret
    exact ⟨rfl, below_new (Below.refl _ _) _⟩
  have h20' : ¬ (20 : Int) < n := by omega
  go_enter Tryz.func105, Tryz.ntmps105
  go_wp2_with fail
  go_loopw [5] (fun i wr => ∃ k : Nat, k ≤ q ∧ i = .int .i64 k ∧ Hid (∀ j, j < k → badName t.kind t.names j = false) ∧ Below (boxed w #[.int .i64 t.kind, .string t.pkg, .int .i64 t.major, .string t.mod, .string t.name, .slice An q cn, .slice As n cs]).heap.size (boxed w #[.int .i64 t.kind, .string t.pkg, .int .i64 t.major, .string t.mod, .string t.name, .slice An q cn, .slice As n cs]) wr) (fun i _ => q - (intOf i).toNat)
  case atStart => exact ⟨0, by omega, rfl, Lib.hid (fun j h => by omega), Below.refl _ _⟩
  case round =>
    obtain ⟨k, hk, rfl, HP, hb⟩ := hrel
    obtain ⟨wo, rfl⟩ : ∃ wo : World, wo = wr := ⟨_, rfl⟩
    by_cases hlt : k < q
    · obtain ⟨s, hs⟩ : ∃ s, t.names[k]? = some s := ⟨_, List.getElem?_eq_getElem (by rw [HQ.out]; exact hlt)⟩
      have HB := Lib.hid (box_below hb)
      obtain ⟨g, o, rfl, hgo, hcs, hzs⟩ := HNM.out.below HB.out k s hs
      have b5 := box_cell hb 5
      simp at b5
      go_wp2_with fail
      refine (refSmall_any s _ hzs).mono ?_; rintro e w1 ⟨rfl, hb1⟩
      have hb2 := below_over hb hb1
      have HB2 := Lib.hid (box_below hb2)
      have b5' := box_cell hb2 5
      simp at b5'
      have hcs' : w1.cell? ⟨g, o + k, none⟩ = some (.string s) := (hb1.cell (p := ⟨g, _, none⟩) hgo).trans hcs
      clear b5 hcs hb hb1
      go_wp2_with fail
      refine (refGreat_any s _ hzs).mono ?_; rintro e w' ⟨rfl, rfl⟩
      have b0 := box_cell hb2 0
      simp at b0
      have BAD : ∃ b, badName t.kind t.names k = b := ⟨_, rfl⟩
      obtain ⟨bad, hbad⟩ := BAD
      go_upto_region 10 with fail
      go_cut [6, 7, 70] (fun _ _ s70 wx => s70 = .bool bad ∧ Below (boxed w #[.int .i64 t.kind, .string t.pkg, .int .i64 t.major, .string t.mod, .string t.name, .slice (some ⟨g, o, none⟩) q cn, .slice As n cs]).heap.size (boxed w #[.int .i64 t.kind, .string t.pkg, .int .i64 t.major, .string t.mod, .string t.name, .slice (some ⟨g, o, none⟩) q cn, .slice As n cs]) wx)
      case first =>
        unfold badName at hbad
        rw [nameAt_of hs] at hbad
        rcases hid_or (t.kind == 5) with h5 | h5
        rotate_left
        · have k5 := h5.out
          have k6 : (t.kind == 6) = false := by
            have e : t.kind = 5 := by simpa using k5
            rw [e]; rfl
          rcases hid_or (smallB s.data.toList) with hs1 | hs1
          · have a1 := hs1.out
            have hv : bad = true := by
              rw [← hbad, k5, a1]
              first | done | rfl
            subst hv
            clear hbad
            as_aux_lemma =>
            go_quiet (fail)
            go_wp2_with fail
            go_meet
            exact ⟨rfl, below_drewN hb2 nq⟩
          · have a1 := hs1.out
            rcases Nat.eq_zero_or_pos k with hk0 | hk0
            · have hp : ¬ (0 : Int) < k := by omega
              have hd : decide (0 < k) = false := by simp; omega
              clear hk0
              have hv : bad = false := by
                rw [← hbad, k5, k6, a1, hd]
                first | done | rfl
              subst hv
              clear hbad
              as_aux_lemma =>
              go_quiet (fail)
              go_wp2_with fail
              go_meet
              exact ⟨rfl, below_drewN hb2 nq⟩
            · obtain ⟨p, hps⟩ : ∃ p, t.names[k - 1]? = some p := ⟨_, List.getElem?_eq_getElem (by rw [HQ.out]; omega)⟩
              obtain ⟨g2, o2, eg, hg2, hc2, -⟩ := HNM.out.below HB2.out (k - 1) p hps
              obtain ⟨rfl, rfl⟩ : g = g2 ∧ o = o2 := by simpa using eg
              rw [nameAt_of hps] at hbad
              have hp : (0 : Int) < k := by omega
              have hp1 : 1 ≤ (k : Int) := by omega
              have hd : decide (0 < k) = true := by simp; omega
              unfold leS at hbad
              clear eg hg2 hps hk0
              rcases hid_or (Op.bytesLess s.toList p.toList || s.toList == p.toList) with hL | hL
              · have hl := hL.out
                have hv : bad = false := by
                  rw [← hbad, k5, k6, a1, hd, hl]
                  first | done | rfl
                subst hv
                clear hbad
                as_aux_lemma =>
                go_quiet (fail)
                go_wp2_with fail
                go_meet
                exact ⟨rfl, below_drewN hb2 nq⟩
              · have hl := hL.out
                have hv : bad = true := by
                  rw [← hbad, k5, k6, a1, hd, hl]
                  first | done | rfl
                subst hv
                clear hbad
                as_aux_lemma =>
                go_quiet (fail)
                go_wp2_with fail
                go_meet
                exact ⟨rfl, below_drewN hb2 nq⟩
        have k5 := h5.out
        rcases hid_or (t.kind == 6) with h6 | h6
        rotate_left
        · have k6 := h6.out
          rcases hid_or (greatB s.data.toList) with hs1 | hs1
          · have a1 := hs1.out
            have hv : bad = true := by
              rw [← hbad, k5, k6, a1]
              first | done | rfl
            subst hv
            clear hbad
            as_aux_lemma =>
            go_quiet (fail)
            go_wp2_with fail
            go_meet
            exact ⟨rfl, below_drewN hb2 nq⟩
          · have a1 := hs1.out
            rcases Nat.eq_zero_or_pos k with hk0 | hk0
            · have hp : ¬ (0 : Int) < k := by omega
              have hd : decide (0 < k) = false := by simp; omega
              clear hk0
              have hv : bad = false := by
                rw [← hbad, k5, k6, a1, hd]
                first | done | rfl
              subst hv
              clear hbad
              as_aux_lemma =>
              go_quiet (fail)
              go_wp2_with fail
              go_meet
              exact ⟨rfl, below_drewN hb2 nq⟩
            · obtain ⟨p, hps⟩ : ∃ p, t.names[k - 1]? = some p := ⟨_, List.getElem?_eq_getElem (by rw [HQ.out]; omega)⟩
              obtain ⟨g2, o2, eg, hg2, hc2, -⟩ := HNM.out.below HB2.out (k - 1) p hps
              obtain ⟨rfl, rfl⟩ : g = g2 ∧ o = o2 := by simpa using eg
              rw [nameAt_of hps] at hbad
              have hp : (0 : Int) < k := by omega
              have hp1 : 1 ≤ (k : Int) := by omega
              have hd : decide (0 < k) = true := by simp; omega
              unfold leS at hbad
              clear eg hg2 hps hk0
              rcases hid_or (Op.bytesLess s.toList p.toList || s.toList == p.toList) with hL | hL
              · have hl := hL.out
                have hv : bad = false := by
                  rw [← hbad, k5, k6, a1, hd, hl]
                  first | done | rfl
                subst hv
                clear hbad
                as_aux_lemma =>
                go_quiet (fail)
                go_wp2_with fail
                go_meet
                exact ⟨rfl, below_drewN hb2 nq⟩
              · have hl := hL.out
                have hv : bad = true := by
                  rw [← hbad, k5, k6, a1, hd, hl]
                  first | done | rfl
                subst hv
                clear hbad
                as_aux_lemma =>
                go_quiet (fail)
                go_wp2_with fail
                go_meet
                exact ⟨rfl, below_drewN hb2 nq⟩
        have k6 := h6.out
        rcases Nat.eq_zero_or_pos k with hk0 | hk0
        · have hp : ¬ (0 : Int) < k := by omega
          have hd : decide (0 < k) = false := by simp; omega
          clear hk0
          have hv : bad = false := by
            rw [← hbad, k5, k6, hd]
            first | done | rfl
          subst hv
          clear hbad
          as_aux_lemma =>
          go_quiet (fail)
          go_wp2_with fail
          go_meet
          exact ⟨rfl, below_drewN hb2 nq⟩
        · obtain ⟨p, hps⟩ : ∃ p, t.names[k - 1]? = some p := ⟨_, List.getElem?_eq_getElem (by rw [HQ.out]; omega)⟩
          obtain ⟨g2, o2, eg, hg2, hc2, -⟩ := HNM.out.below HB2.out (k - 1) p hps
          obtain ⟨rfl, rfl⟩ : g = g2 ∧ o = o2 := by simpa using eg
          rw [nameAt_of hps] at hbad
          have hp : (0 : Int) < k := by omega
          have hp1 : 1 ≤ (k : Int) := by omega
          have hd : decide (0 < k) = true := by simp; omega
          unfold leS at hbad
          clear eg hg2 hps hk0
          rcases hid_or (Op.bytesLess s.toList p.toList || s.toList == p.toList) with hL | hL
          · have hl := hL.out
            have hv : bad = false := by
              rw [← hbad, k5, k6, hd, hl]
              first | done | rfl
            subst hv
            clear hbad
            as_aux_lemma =>
            go_quiet (fail)
            go_wp2_with fail
            go_meet
            exact ⟨rfl, below_drewN hb2 nq⟩
          · have hl := hL.out
            have hv : bad = true := by
              rw [← hbad, k5, k6, hd, hl]
              first | done | rfl
            subst hv
            clear hbad
            as_aux_lemma =>
            go_quiet (fail)
            go_wp2_with fail
            go_meet
            exact ⟨rfl, below_drewN hb2 nq⟩
      case rest =>
        obtain ⟨rfl, hb3⟩ := hcut
        clear b0 b5' hcs' hb2 HB2
        have HBD := Lib.hid hbad
        clear hbad
        rcases hid_or bad with hbb | hbb
        · obtain rfl := hbb.out
          go_wp2_with fail
          go_roundw
          case rel => exact ⟨k + 1, by omega, by go_num, Lib.hid (fun j hj => by
            rcases Nat.lt_or_ge j k with a | a
            · exact HP.out j a
            · rw [show j = k by omega]; exact HBD.out), hb3⟩
          case measure => simp [intOf]; omega
        · obtain rfl := hbb.out
          have R : Hid (ownOk t = false) := Lib.hid (own_bad (by rw [HQ.out]; exact hlt) HBD.out)
          go_wp2_with fail
          go_ret
          exact ⟨ret_bool R.out, box_below hb3⟩
    · have hkq : k = q := by omega
      have HB := Lib.hid (box_below hb)
      have R0 : Hid (ownOk t = shapeOk t) := Lib.hid (own_good (by rw [HN.out]; omega) (fun i hi => HP.out i (by rw [HQ.out] at hi; omega)))
      have c1 := box_cell hb 1
      have c2 := box_cell hb 2
      have c3 := box_cell hb 3
      have c4 := box_cell hb 4
      simp at c1 c2 c3 c4
      go_upto_region 12 with fail
      obtain ⟨em, hem⟩ : ∃ b, noMore t = b := ⟨_, rfl⟩
      go_cut [8] (fun s8 wx => s8 = .bool em ∧ wo = wx)
      case first =>
        unfold noMore emptyB at hem
        by_cases e1 : t.pkg.size = 0
        · obtain ⟨x1, y1⟩ := empty_facts _ e1
          have d1 : decide (t.pkg.size = 0) = true := by simpa using e1
          rcases hid_or (t.major == 0) with e2 | e2
          · have d2 := e2.out
            have hv : em = false := by
              rw [← hem, d1, d2]
              first | done | rfl
            subst hv
            clear hem
            clear e1 d1
            as_aux_lemma =>
            go_wp2_with fail
            go_meet
            exact ⟨rfl, rfl⟩
          · have d2 := e2.out
            by_cases e3 : t.mod.size = 0
            · obtain ⟨x3, y3⟩ := empty_facts _ e3
              have d3 : decide (t.mod.size = 0) = true := by simpa using e3
              by_cases e4 : t.name.size = 0
              · obtain ⟨x4, y4⟩ := empty_facts _ e4
                have d4 : decide (t.name.size = 0) = true := by simpa using e4
                have hv : em = true := by
                  rw [← hem, d1, d2, d3, d4]
                  first | done | rfl
                subst hv
                clear hem
                clear e1 e3 e4 d1 d3 d4
                as_aux_lemma =>
                go_wp2_with fail
                go_meet
                exact ⟨rfl, rfl⟩
              · obtain ⟨x4, y4⟩ := full_facts _ e4
                have d4 : decide (t.name.size = 0) = false := by simpa using e4
                have hv : em = false := by
                  rw [← hem, d1, d2, d3, d4]
                  first | done | rfl
                subst hv
                clear hem
                clear e1 e3 e4 d1 d3 d4
                as_aux_lemma =>
                go_wp2_with fail
                go_meet
                exact ⟨rfl, rfl⟩
            · obtain ⟨x3, y3⟩ := full_facts _ e3
              have d3 : decide (t.mod.size = 0) = false := by simpa using e3
              have hv : em = false := by
                rw [← hem, d1, d2, d3]
                first | done | rfl
              subst hv
              clear hem
              clear e1 e3 d1 d3
              as_aux_lemma =>
              go_wp2_with fail
              go_meet
              exact ⟨rfl, rfl⟩
        · obtain ⟨x1, y1⟩ := full_facts _ e1
          have d1 : decide (t.pkg.size = 0) = false := by simpa using e1
          have hv : em = false := by
            rw [← hem, d1]
            first | done | rfl
          subst hv
          clear hem
          clear e1 d1
          as_aux_lemma =>
          go_wp2_with fail
          go_meet
          exact ⟨rfl, rfl⟩
      case rest =>
        obtain ⟨rfl, rfl⟩ := hcut
        unfold shapeOk at R0
        rw [hem] at R0
        have HNQ : t.subs.length = n ∧ t.names.length = q := ⟨HN.out, HQ.out⟩
        rw [HNQ.1, HNQ.2] at R0
        clear HNQ
        clear hem
        go_wp2_with fail
        refine (refGreat_any _ _ za).mono ?_; rintro e w' ⟨rfl, rfl⟩
        generalize greatB t.name.data.toList = gr at R0
        go_wp2_with fail
        refine (refSmall_any _ _ zm).mono ?_; rintro e w1 ⟨rfl, hb1⟩
        generalize smallB t.mod.data.toList = sm at R0
        have hb2 := below_over hb hb1
        have d1 := box_cell hb2 1
        simp at d1
        clear c1 c2 c3 c4 hb hb1
        go_wp2_with fail
        refine (refSmall_any _ _ zp).mono ?_; rintro e w2 ⟨rfl, hb3⟩
        generalize smallB t.pkg.data.toList = sp at R0
        have hb4 := below_over hb2 hb3
        have f0 := box_cell hb4 0
        have f1 := box_cell hb4 1
        have f2 := box_cell hb4 2
        have f3 := box_cell hb4 3
        simp at f0 f1 f2 f3
        have HB4 := Lib.hid (box_below hb4)
        clear hb2 hb3 hb4 d1
        by_cases hx1 : t.kind = 1
        · as_aux_lemma =>
          have R : Hid (ownOk t = (em && decide (n = 0) && decide (q = 0))) := Lib.hid (by rw [R0.out, hx1]; rfl)
          clear R0
          have b1 : (t.kind == 1) = true := by rw [hx1]; rfl
          clear hx1
          go_wp2
          all_goals go_ret
          all_goals exact ⟨ret_bool (by rw [R.out]; clear f0 f1 f2 f3 hlt hkq hk h20 hz hzn HB HB4 HNM HN HQ HP zp zm za R; rw [Bool.eq_iff_iff]; simp_all <;> omega), HB4.out⟩
        by_cases hx2 : t.kind = 2
        · as_aux_lemma =>
          have R : Hid (ownOk t = (em && decide (n = 0) && decide (q = 0))) := Lib.hid (by rw [R0.out, hx2]; rfl)
          clear R0
          have b1 : (t.kind == 1) = false := by rw [hx2]; rfl
          have b2 : (t.kind == 2) = true := by rw [hx2]; rfl
          clear hx2
          go_wp2
          all_goals go_ret
          all_goals exact ⟨ret_bool (by rw [R.out]; clear f0 f1 f2 f3 hlt hkq hk h20 hz hzn HB HB4 HNM HN HQ HP zp zm za R; rw [Bool.eq_iff_iff]; simp_all <;> omega), HB4.out⟩
        by_cases hx3 : t.kind = 3
        · as_aux_lemma =>
          have R : Hid (ownOk t = (em && decide (n = 0) && decide (q = 0))) := Lib.hid (by rw [R0.out, hx3]; rfl)
          clear R0
          have b1 : (t.kind == 1) = false := by rw [hx3]; rfl
          have b2 : (t.kind == 2) = false := by rw [hx3]; rfl
          have b3 : (t.kind == 3) = true := by rw [hx3]; rfl
          clear hx3
          go_wp2
          all_goals go_ret
          all_goals exact ⟨ret_bool (by rw [R.out]; clear f0 f1 f2 f3 hlt hkq hk h20 hz hzn HB HB4 HNM HN HQ HP zp zm za R; rw [Bool.eq_iff_iff]; simp_all <;> omega), HB4.out⟩
        by_cases hx4 : t.kind = 4
        · as_aux_lemma =>
          have R : Hid (ownOk t = (em && decide (n = 1) && decide (q = 0))) := Lib.hid (by rw [R0.out, hx4]; rfl)
          clear R0
          have b1 : (t.kind == 1) = false := by rw [hx4]; rfl
          have b2 : (t.kind == 2) = false := by rw [hx4]; rfl
          have b3 : (t.kind == 3) = false := by rw [hx4]; rfl
          have b4 : (t.kind == 4) = true := by rw [hx4]; rfl
          clear hx4
          go_wp2
          all_goals go_ret
          all_goals exact ⟨ret_bool (by rw [R.out]; clear f0 f1 f2 f3 hlt hkq hk h20 hz hzn HB HB4 HNM HN HQ HP zp zm za R; rw [Bool.eq_iff_iff]; simp_all <;> omega), HB4.out⟩
        by_cases hx5 : t.kind = 5
        · as_aux_lemma =>
          have R : Hid (ownOk t = (em && decide (n = q))) := Lib.hid (by rw [R0.out, hx5]; rfl)
          clear R0
          have b1 : (t.kind == 1) = false := by rw [hx5]; rfl
          have b2 : (t.kind == 2) = false := by rw [hx5]; rfl
          have b3 : (t.kind == 3) = false := by rw [hx5]; rfl
          have b4 : (t.kind == 4) = false := by rw [hx5]; rfl
          have b5 : (t.kind == 5) = true := by rw [hx5]; rfl
          clear hx5
          go_wp2
          all_goals go_ret
          all_goals exact ⟨ret_bool (by rw [R.out]; clear f0 f1 f2 f3 hlt hkq hk h20 hz hzn HB HB4 HNM HN HQ HP zp zm za R; rw [Bool.eq_iff_iff]; simp_all <;> omega), HB4.out⟩
        by_cases hx6 : t.kind = 6
        · as_aux_lemma =>
          have R : Hid (ownOk t = (em && decide (n = q) && decide (0 < n))) := Lib.hid (by rw [R0.out, hx6]; rfl)
          clear R0
          have b1 : (t.kind == 1) = false := by rw [hx6]; rfl
          have b2 : (t.kind == 2) = false := by rw [hx6]; rfl
          have b3 : (t.kind == 3) = false := by rw [hx6]; rfl
          have b4 : (t.kind == 4) = false := by rw [hx6]; rfl
          have b5 : (t.kind == 5) = false := by rw [hx6]; rfl
          have b6 : (t.kind == 6) = true := by rw [hx6]; rfl
          clear hx6
          go_wp2
          all_goals go_ret
          all_goals exact ⟨ret_bool (by rw [R.out]; clear f0 f1 f2 f3 hlt hkq hk h20 hz hzn HB HB4 HNM HN HQ HP zp zm za R; rw [Bool.eq_iff_iff]; simp_all <;> omega), HB4.out⟩
        by_cases hx7 : t.kind = 7
        · as_aux_lemma =>
          have R : Hid (ownOk t = (em && decide (0 < n) && decide (q = 0))) := Lib.hid (by rw [R0.out, hx7]; rfl)
          clear R0
          have b1 : (t.kind == 1) = false := by rw [hx7]; rfl
          have b2 : (t.kind == 2) = false := by rw [hx7]; rfl
          have b3 : (t.kind == 3) = false := by rw [hx7]; rfl
          have b4 : (t.kind == 4) = false := by rw [hx7]; rfl
          have b5 : (t.kind == 5) = false := by rw [hx7]; rfl
          have b6 : (t.kind == 6) = false := by rw [hx7]; rfl
          have b7 : (t.kind == 7) = true := by rw [hx7]; rfl
          clear hx7
          go_wp2
          all_goals go_ret
          all_goals exact ⟨ret_bool (by rw [R.out]; clear f0 f1 f2 f3 hlt hkq hk h20 hz hzn HB HB4 HNM HN HQ HP zp zm za R; rw [Bool.eq_iff_iff]; simp_all <;> omega), HB4.out⟩
        by_cases hx8 : t.kind = 8
        · have R : Hid (ownOk t = (decide (n = 0) && decide (q = 0) && emptyB t.pkg && (t.major == 0) && gr && (sm || emptyB t.mod))) := Lib.hid (by rw [R0.out, hx8]; rfl)
          clear R0
          have b1 : (t.kind == 1) = false := by rw [hx8]; rfl
          have b2 : (t.kind == 2) = false := by rw [hx8]; rfl
          have b3 : (t.kind == 3) = false := by rw [hx8]; rfl
          have b4 : (t.kind == 4) = false := by rw [hx8]; rfl
          have b5 : (t.kind == 5) = false := by rw [hx8]; rfl
          have b6 : (t.kind == 6) = false := by rw [hx8]; rfl
          have b7 : (t.kind == 7) = false := by rw [hx8]; rfl
          have b8 : (t.kind == 8) = true := by rw [hx8]; rfl
          clear hx8
          unfold emptyB at R
          by_cases e1 : t.pkg.size = 0
          · obtain ⟨x1, y1⟩ := empty_facts _ e1
            by_cases e3 : t.mod.size = 0
            · obtain ⟨x3, y3⟩ := empty_facts _ e3
              as_aux_lemma =>
              go_wp2
              all_goals go_ret
              all_goals exact ⟨ret_bool (by rw [R.out]; clear f0 f1 f2 f3 hlt hkq hk h20 hz hzn HB HB4 HNM HN HQ HP zp zm za R; rw [Bool.eq_iff_iff]; simp_all <;> omega), HB4.out⟩
            · obtain ⟨x3, y3⟩ := full_facts _ e3
              as_aux_lemma =>
              go_wp2
              all_goals go_ret
              all_goals exact ⟨ret_bool (by rw [R.out]; clear f0 f1 f2 f3 hlt hkq hk h20 hz hzn HB HB4 HNM HN HQ HP zp zm za R; rw [Bool.eq_iff_iff]; simp_all <;> omega), HB4.out⟩
          · obtain ⟨x1, y1⟩ := full_facts _ e1
            as_aux_lemma =>
            go_wp2
            all_goals go_ret
            all_goals exact ⟨ret_bool (by rw [R.out]; clear f0 f1 f2 f3 hlt hkq hk h20 hz hzn HB HB4 HNM HN HQ HP zp zm za R; rw [Bool.eq_iff_iff]; simp_all <;> omega), HB4.out⟩
        by_cases hx9 : t.kind = 9
        · as_aux_lemma =>
          have R : Hid (ownOk t = (decide (n = 0) && decide (q = 0) && sp && sm && gr && decide (1 ≤ t.major) && decide (t.major ≤ 999999999))) := Lib.hid (by rw [R0.out, hx9]; rfl)
          clear R0
          have b1 : (t.kind == 1) = false := by rw [hx9]; rfl
          have b2 : (t.kind == 2) = false := by rw [hx9]; rfl
          have b3 : (t.kind == 3) = false := by rw [hx9]; rfl
          have b4 : (t.kind == 4) = false := by rw [hx9]; rfl
          have b5 : (t.kind == 5) = false := by rw [hx9]; rfl
          have b6 : (t.kind == 6) = false := by rw [hx9]; rfl
          have b7 : (t.kind == 7) = false := by rw [hx9]; rfl
          have b8 : (t.kind == 8) = false := by rw [hx9]; rfl
          have b9 : (t.kind == 9) = true := by rw [hx9]; rfl
          clear hx9
          go_wp2
          all_goals go_ret
          all_goals exact ⟨ret_bool (by rw [R.out]; clear f0 f1 f2 f3 hlt hkq hk h20 hz hzn HB HB4 HNM HN HQ HP zp zm za R; rw [Bool.eq_iff_iff]; simp_all <;> omega), HB4.out⟩
        have R : Hid (ownOk t = false) := Lib.hid (by rw [R0.out, if_neg (by omega), if_neg hx4, if_neg hx5, if_neg hx6, if_neg hx7, if_neg hx8, if_neg hx9])
        clear R0
        have b1 : (t.kind == 1) = false := by simpa using hx1
        have b2 : (t.kind == 2) = false := by simpa using hx2
        have b3 : (t.kind == 3) = false := by simpa using hx3
        have b4 : (t.kind == 4) = false := by simpa using hx4
        have b5 : (t.kind == 5) = false := by simpa using hx5
        have b6 : (t.kind == 6) = false := by simpa using hx6
        have b7 : (t.kind == 7) = false := by simpa using hx7
        have b8 : (t.kind == 8) = false := by simpa using hx8
        have b9 : (t.kind == 9) = false := by simpa using hx9
        clear hx1 hx2 hx3 hx4 hx5 hx6 hx7 hx8 hx9
        as_aux_lemma =>
        go_wp2
        all_goals go_ret
        all_goals exact ⟨ret_bool (by rw [R.out]), HB4.out⟩

end Go.Proofs.YtpfoclpgcbjjoaaGreatDoor

/- Walks of the reference's all and May: may a type be? -/
namespace Go.Proofs.YtpfoclpgcbjjoaaGreatDoor
open Go.RowKit
open M

set_option maxHeartbeats 2000000 in
theorem all_any (N : Nat) : ∀ (t : Ty), many t ≤ N → ∀ (v : Value) (w : World), TyV w v t →
    Calls Tryz.prog 63 #[v] w fun e w' => e = .returned (.bool (allOk t)) ∧ Below w.heap.size w w' := by
  induction N with
  | zero => intro t h; have := many_pos t; omega
  | succ N ih =>
    intro t hN v w hv
    have HV := Lib.hid hv
    obtain ⟨l, rfl, hT⟩ := hv
    obtain ⟨An, cn, As, cs, rfl, -, -, -, hzn, hz, -, hS⟩ := hT.parts
    have HS := Lib.hid hS
    clear hT hS
    have HE := Lib.hid (allOk_eq t)
    generalize hn : t.subs.length = n at hz HV
    have HN := Lib.hid hn
    clear hn
    go_enter Tryz.func63, Tryz.ntmps63
    go_wp2_with fail
    refine (own_any t _ _ (HV.out.below (below_new (Below.refl _ _) _))).mono ?_; rintro e w1 ⟨rfl, hb1⟩
    have hb1' : Below (boxed w #[.int .i64 t.kind, .string t.pkg, .int .i64 t.major, .string t.mod, .string t.name, .slice An t.names.length cn, .slice As n cs]).heap.size (boxed w #[.int .i64 t.kind, .string t.pkg, .int .i64 t.major, .string t.mod, .string t.name, .slice An t.names.length cn, .slice As n cs]) w1 := hb1
    rcases hid_or (ownOk t) with ho | ho
    · have R : Hid (allOk t = false) := Lib.hid (by rw [HE.out, ho.out]; rfl)
      have HB1 := Lib.hid (box_below hb1')
      rw [ho.out]
      clear hb1 hb1'
      go_wp2_with fail
      go_loopw [3, 4] (fun b i wr => b = .bool false ∧ i = .int .i64 0 ∧ w1 = wr) (fun _ _ _ => 0)
      case atStart => exact ⟨rfl, rfl, rfl⟩
      case round =>
        obtain ⟨rfl, rfl, rfl⟩ := hrel
        go_wp2_with fail
        go_ret
        exact ⟨ret_bool R.out, HB1.out⟩
    · rw [ho.out]
      clear hb1
      go_wp2_with fail
      go_loopw [3, 4] (fun b i wr => ∃ (k : Nat) (c : Bool), k ≤ n ∧ i = .int .i64 k ∧ b = .bool c ∧ Hid (c = true → ∀ j s, j < k → t.subs[j]? = some s → allOk s = true) ∧ Hid (c = false → allOk t = false) ∧ Below (boxed w #[.int .i64 t.kind, .string t.pkg, .int .i64 t.major, .string t.mod, .string t.name, .slice An t.names.length cn, .slice As n cs]).heap.size (boxed w #[.int .i64 t.kind, .string t.pkg, .int .i64 t.major, .string t.mod, .string t.name, .slice An t.names.length cn, .slice As n cs]) wr) (fun _ i _ => n - (intOf i).toNat)
      case atStart => exact ⟨0, true, by omega, rfl, rfl, Lib.hid (fun _ j s h => by omega), Lib.hid (fun h => by cases h), hb1'⟩
      case round =>
        obtain ⟨k, c, hk, rfl, rfl, HC, HF, hb⟩ := hrel
        obtain ⟨wo, rfl⟩ : ∃ wo : World, wo = wr := ⟨_, rfl⟩
        have b6 := box_cell hb 6
        simp at b6
        have HB := Lib.hid (box_below hb)
        rcases hid_or c with hc | hc
        · obtain rfl := hc.out
          have R : Hid (allOk t = false) := Lib.hid (HF.out (by trivial))
          go_wp2_with fail
          go_ret
          exact ⟨ret_bool R.out, HB.out⟩
        · obtain rfl := hc.out
          by_cases hlt : k < n
          · obtain ⟨s, hs⟩ : ∃ s, t.subs[k]? = some s := ⟨_, List.getElem?_eq_getElem (by rw [HN.out]; exact hlt)⟩
            obtain ⟨g, o, v0, v1, v2, v3, v4, v5, v6, rfl, -, h0, h1, h2, h3, h4, h5, h6, hs7⟩ := HS.out.below HB.out k s hs
            have hsm := sub_many hs
            have IH := Lib.hid (ih s (by omega) (.agg #[v0, v1, v2, v3, v4, v5, v6]) wo ⟨_, rfl, hs7⟩)
            have HSS := Lib.hid hs
            clear hs7 hs hsm
            go_wp2_with fail
            refine IH.out.mono ?_; rintro e w2 ⟨rfl, hb2⟩
            have hb3 := below_over hb hb2
            clear b6 h0 h1 h2 h3 h4 h5 h6 hb hb2
            go_wp2_with fail
            go_roundw
            case rel => exact ⟨k + 1, allOk s, by omega, by go_num, rfl, Lib.hid (fun hc j q hj hq => by
              rcases Nat.lt_or_ge j k with a | a
              · exact HC.out (by trivial) j q a hq
              · rw [show j = k by omega, HSS.out] at hq
                obtain rfl := Option.some.inj hq
                exact hc), Lib.hid (fun hc => by
              rw [HE.out, Bool.and_eq_false_iff]; right
              rw [Bool.eq_false_iff, ne_eq, allOkL_mem]
              intro h
              have := h s (List.mem_of_getElem? HSS.out)
              rw [hc] at this; cases this), hb3⟩
            case measure => simp [intOf]; omega
          · have R : Hid (allOk t = true) := Lib.hid (by
              rw [HE.out, ho.out, (allOkL_mem t.subs).2 (fun s hs => ?_)]
              · rfl
              · obtain ⟨j, hj⟩ := List.getElem?_of_mem hs
                have hjl := (List.getElem?_eq_some_iff.1 hj).1
                exact HC.out (by trivial) j s (by rw [HN.out] at hjl; omega) hj)
            go_wp2_with fail
            go_ret
            exact ⟨ret_bool R.out, HB.out⟩

set_option maxHeartbeats 1000000 in
theorem may_any (t : Ty) (v : Value) (w : World) (hM : many t ≤ 9000) (hv : TyV w v t) :
    Calls Tryz.prog 23 #[v] w fun e w' => e = .returned (.bool (mayT t)) ∧ Below w.heap.size w w' := by
  have HV := Lib.hid hv
  obtain ⟨l, rfl, hT⟩ := hv
  obtain ⟨An, cn, As, cs, rfl, -, -, -, -, -, -, -⟩ := hT.parts
  clear hT
  have hD := deep_many t
  unfold mayT
  go_enter Tryz.func23, Tryz.ntmps23
  go_wp2_with fail
  refine (all_any _ t (Nat.le_refl _) _ _ (HV.out.below (below_new (Below.refl _ _) _))).mono ?_; rintro e w1 ⟨rfl, hb1⟩
  have hb1' : Below (boxed w #[.int .i64 t.kind, .string t.pkg, .int .i64 t.major, .string t.mod, .string t.name, .slice An t.names.length cn, .slice As t.subs.length cs]).heap.size (boxed w #[.int .i64 t.kind, .string t.pkg, .int .i64 t.major, .string t.mod, .string t.name, .slice An t.names.length cn, .slice As t.subs.length cs]) w1 := hb1
  clear hb1
  have V1 := Lib.hid (HV.out.below (box_below hb1'))
  have c0 := box_cell hb1' 0; have c1 := box_cell hb1' 1; have c2 := box_cell hb1' 2; have c3 := box_cell hb1' 3; have c4 := box_cell hb1' 4; have c5 := box_cell hb1' 5; have c6 := box_cell hb1' 6
  simp at c0 c1 c2 c3 c4 c5 c6
  rcases hid_or (allOk t) with ha | ha
  · have R : Hid ((allOk t && decide (many t ≤ 500) && decide (deep t ≤ 32)) = false) := Lib.hid (by rw [ha.out]; rfl)
    rw [ha.out]
    go_wp2_with fail
    go_ret
    exact ⟨ret_bool R.out, box_below hb1'⟩
  · rw [ha.out]
    have HB1 := Lib.hid (box_below hb1')
    go_wp2_with fail
    refine (many_any _ t (Nat.le_refl _) hM _ _ V1.out).mono ?_; rintro e w2 ⟨rfl, hb2⟩
    have hb3 := below_over hb1' hb2
    clear hb1' hb2 c0 c1 c2 c3 c4 c5 c6
    have V2 := Lib.hid (HV.out.below (box_below hb3))
    have c0 := box_cell hb3 0; have c1 := box_cell hb3 1; have c2 := box_cell hb3 2; have c3 := box_cell hb3 3; have c4 := box_cell hb3 4; have c5 := box_cell hb3 5; have c6 := box_cell hb3 6
    simp at c0 c1 c2 c3 c4 c5 c6
    by_cases h5 : many t ≤ 500
    · have R : Hid ((allOk t && decide (many t ≤ 500) && decide (deep t ≤ 32)) = decide (deep t ≤ 32)) := Lib.hid (by rw [ha.out, show decide (many t ≤ 500) = true by simpa using h5]; rfl)
      go_wp2_with fail
      refine (deep_any _ t (Nat.le_refl _) hM _ _ V2.out).mono ?_; rintro e w4 ⟨rfl, hb4⟩
      have HB4 := Lib.hid (box_below (below_over hb3 hb4))
      clear c0 c1 c2 c3 c4 c5 c6 hb3 hb4
      by_cases hd : deep t ≤ 32
      · go_wp2_with fail
        go_ret
        exact ⟨ret_bool (by rw [R.out, Bool.eq_iff_iff]; simp <;> omega), HB4.out⟩
      · go_wp2_with fail
        go_ret
        exact ⟨ret_bool (by rw [R.out, Bool.eq_iff_iff]; simp <;> omega), HB4.out⟩
    · have R : Hid ((allOk t && decide (many t ≤ 500) && decide (deep t ≤ 32)) = false) := Lib.hid (by rw [ha.out, show decide (many t ≤ 500) = false by simpa using h5]; rfl)
      have HB3 := Lib.hid (box_below hb3)
      go_wp2_with fail
      go_ret
      first | exact ⟨ret_bool R.out, HB3.out⟩ | exact ⟨rfl, HB3.out⟩

end Go.Proofs.YtpfoclpgcbjjoaaGreatDoor

/- The reference's May of modules: imports, declarations. -/
namespace Go.Proofs.YtpfoclpgcbjjoaaGreatDoor
open Go.RowKit
open Go.Sort
open M

def mayI (x : Im) : Bool := smallB x.pkg.data.toList && (smallB x.mod.data.toList && (smallB x.asn.data.toList && (decide (1 ≤ x.major) && decide (x.major ≤ 999999999))))
def mayD (d : De) : Bool :=
  if d.kind = 1 ∨ d.kind = 2 then greatB d.name.data.toList && sameT d.typ noT
  else if d.kind = 3 then greatB d.name.data.toList && mayT d.typ
  else if d.kind = 4 then smallB d.name.data.toList && mayT d.typ
  else false

set_option maxRecDepth 100000 in
set_option maxHeartbeats 4000000 in
theorem rimport0_any (x : Im) (w : World) (z0 : x.pkg.size ≤ 9223372036854775807) (z1 : x.mod.size ≤ 9223372036854775807) (z2 : x.asn.size ≤ 9223372036854775807) :
    Calls Tryz.prog 32 #[.agg #[.string x.pkg, .int .i64 x.major, .string x.mod, .string x.asn]] w fun e w' => e = .returned (.bool (mayI x)) ∧ Below w.heap.size w w' := by
  obtain ⟨w0, hw0⟩ : ∃ w0, w0 = w.alloc (.cells #[.string x.pkg, .int .i64 x.major, .string x.mod, .string x.asn] 67) := ⟨_, rfl⟩
  have B0 : Below w.heap.size w w0 := by rw [hw0]; exact below_new (Below.refl _ _) _
  have O0 : w0.heap[w.heap.size]? = some (.cells #[.string x.pkg, .int .i64 x.major, .string x.mod, .string x.asn] 67 (0, 0)) := by rw [hw0]; exact heap_alloc_new w _
  have hl0 : w.heap.size < w0.heap.size := by rw [hw0]; simp
  have HV : Hid (mayI x = (smallB x.pkg.data.toList && (smallB x.mod.data.toList && (smallB x.asn.data.toList && (decide (1 ≤ x.major) && decide (x.major ≤ 999999999)))))) := Lib.hid rfl
  have S0 := Lib.hid (fun w => refSmall_any x.pkg w z0)
  have S1 := Lib.hid (fun w => refSmall_any x.mod w z1)
  have S2 := Lib.hid (fun w => refSmall_any x.asn w z2)
  rw [HV.out]
  generalize smallB x.pkg.data.toList = b0 at S0
  generalize smallB x.mod.data.toList = b1 at S1
  generalize smallB x.asn.data.toList = b2 at S2
  have x0 := Lib.cell_of_heap O0 0
  simp at x0
  have HO := Lib.hid O0
  have HB := Lib.hid B0
  have HW0 := Lib.hid hw0
  clear hw0 B0 O0 HV z0 z1 z2
  go_enter Tryz.func32, Tryz.ntmps32
  go_upto_region 1 with fail
  rw [← HW0.out]
  clear HW0
  go_wp2_with fail
  refine (S0.out _).mono ?_; rintro e w1 ⟨rfl, hb1⟩
  have O1 := (hb1.block _ hl0).trans HO.out
  have x2 := Lib.cell_of_heap O1 2
  simp at x2
  clear x0
  go_wp2_with fail
  refine (S1.out _).mono ?_; rintro e w2 ⟨rfl, hb2⟩
  have hl1 := Nat.lt_of_lt_of_le hl0 hb1.size
  have O2 := (hb2.block _ hl1).trans O1
  have x3 := Lib.cell_of_heap O2 3
  simp at x3
  clear x2
  go_wp2_with fail
  refine (S2.out _).mono ?_; rintro e w3 ⟨rfl, hb3⟩
  have O3 := (hb3.block _ (Nat.lt_of_lt_of_le hl1 hb2.size)).trans O2
  have x1 := Lib.cell_of_heap O3 1
  simp at x1
  have FIN := Lib.hid (below_over (below_over (below_over HB.out hb1) hb2) hb3)
  clear hb1 hb2 hb3 O1 O2 O3 x3 HO HB S0 S1 S2 hl0 hl1
  have d1 : decide (1 ≤ x.major) = true ∨ decide (1 ≤ x.major) = false := by cases decide (1 ≤ x.major) <;> simp
  have d2 : decide (x.major ≤ 999999999) = true ∨ decide (x.major ≤ 999999999) = false := by cases decide (x.major ≤ 999999999) <;> simp
  rcases d1 with d1 | d1 <;> rcases d2 with d2 | d2 <;> cases b0 <;> cases b1 <;> cases b2
  all_goals (go_wp2_with fail; go_ret; exact ⟨by simp [d1, d2], FIN.out⟩)

end Go.Proofs.YtpfoclpgcbjjoaaGreatDoor

/- The reference's May of modules: a declaration. -/
namespace Go.Proofs.YtpfoclpgcbjjoaaGreatDoor
open Go.RowKit
open Go.Sort
open M

set_option maxRecDepth 100000 in
set_option maxHeartbeats 4000000 in
theorem rdecl0_any (k : Int) (s : ByteArray) (t : Ty) (An As : Option Addr) (cA cS : Nat) (w : World) (hT : TyAt w [.int .i64 t.kind, .string t.pkg, .int .i64 t.major, .string t.mod, .string t.name, .slice An t.names.length cA, .slice As t.subs.length cS] t) (hM : many t ≤ 9000) (z : s.size ≤ 9223372036854775807) :
    Calls Tryz.prog 33 #[.agg #[.int .i64 k, .string s, .int .i64 t.kind, .string t.pkg, .int .i64 t.major, .string t.mod, .string t.name, .slice An t.names.length cA, .slice As t.subs.length cS]] w fun e w' => e = .returned (.bool (mayD ⟨k, s, t⟩)) ∧ Below w.heap.size w w' := by
  obtain ⟨w0, hw0⟩ : ∃ w0, w0 = w.alloc (.cells #[.int .i64 k, .string s, .int .i64 t.kind, .string t.pkg, .int .i64 t.major, .string t.mod, .string t.name, .slice An t.names.length cA, .slice As t.subs.length cS] 52) := ⟨_, rfl⟩
  have B0 : Below w.heap.size w w0 := by rw [hw0]; exact below_new (Below.refl _ _) _
  have O0 : w0.heap[w.heap.size]? = some (.cells #[.int .i64 k, .string s, .int .i64 t.kind, .string t.pkg, .int .i64 t.major, .string t.mod, .string t.name, .slice An t.names.length cA, .slice As t.subs.length cS] 52 (0, 0)) := by rw [hw0]; exact heap_alloc_new w _
  have hl0 : w.heap.size < w0.heap.size := by rw [hw0]; simp
  have HV : Hid (mayD ⟨k, s, t⟩ = if k = 1 ∨ k = 2 then greatB s.data.toList && sameT t noT else if k = 3 then greatB s.data.toList && mayT t else if k = 4 then smallB s.data.toList && mayT t else false) := Lib.hid rfl
  have S0 := Lib.hid (fun w => refSmall_any s w z)
  have S1 := Lib.hid (fun w => refGreat_any s w z)
  have HT : Hid (∀ w', Below w.heap.size w w' → TyV w' (.agg #[.int .i64 t.kind, .string t.pkg, .int .i64 t.major, .string t.mod, .string t.name, .slice An t.names.length cA, .slice As t.subs.length cS]) t) := Lib.hid (fun w' hb => ⟨_, rfl, hT.keep hb⟩)
  have SM : Hid (∀ w', Below w.heap.size w w' → Calls Tryz.prog 41 #[.agg #[.int .i64 t.kind, .string t.pkg, .int .i64 t.major, .string t.mod, .string t.name, .slice An t.names.length cA, .slice As t.subs.length cS], .agg #[.int .i64 0, .string ⟨#[]⟩, .int .i64 0, .string ⟨#[]⟩, .string ⟨#[]⟩, .slice none 0 0, .slice none 0 0]] w' fun e w'' => e = .returned (.bool (sameT t noT)) ∧ Below w'.heap.size w' w'') := Lib.hid (fun w' hb => same_any _ t noT (Nat.le_refl _) _ _ w' (HT.out w' hb) (noT_at w'))
  have MY : Hid (∀ w', Below w.heap.size w w' → Calls Tryz.prog 23 #[.agg #[.int .i64 t.kind, .string t.pkg, .int .i64 t.major, .string t.mod, .string t.name, .slice An t.names.length cA, .slice As t.subs.length cS]] w' fun e w'' => e = .returned (.bool (mayT t)) ∧ Below w'.heap.size w' w'') := Lib.hid (fun w' hb => may_any t _ w' hM (HT.out w' hb))
  rw [HV.out]
  generalize smallB s.data.toList = b0 at S0
  generalize greatB s.data.toList = b1 at S1
  generalize sameT t noT = b2 at SM
  generalize mayT t = b3 at MY
  obtain ⟨V, hV⟩ : ∃ V, (if k = 1 ∨ k = 2 then b1 && b2 else if k = 3 then b1 && b3 else if k = 4 then b0 && b3 else false) = V := ⟨_, rfl⟩
  rw [hV]
  have HVV := Lib.hid hV
  clear hV
  have x1 := Lib.cell_of_heap O0 1
  simp at x1
  have HO := Lib.hid O0
  have HB := Lib.hid B0
  have HW0 := Lib.hid hw0
  clear hw0 B0 O0 HV z hT HT
  go_enter Tryz.func33, Tryz.ntmps33
  go_upto_region 1 with fail
  rw [← HW0.out]
  clear HW0
  go_wp2_with fail
  refine (S0.out _).mono ?_; rintro e w1 ⟨rfl, hb1⟩
  have O1 := (hb1.block _ hl0).trans HO.out
  have HB1 := Lib.hid (below_over HB.out hb1)
  have x1 := Lib.cell_of_heap O1 1
  simp at x1
  go_wp2_with fail
  refine (S1.out _).mono ?_; rintro e w2 ⟨rfl, rfl⟩
  have y0 := Lib.cell_of_heap O1 0
  have y1 := Lib.cell_of_heap O1 1
  have y2 := Lib.cell_of_heap O1 2
  have y3 := Lib.cell_of_heap O1 3
  have y4 := Lib.cell_of_heap O1 4
  have y5 := Lib.cell_of_heap O1 5
  have y6 := Lib.cell_of_heap O1 6
  have y7 := Lib.cell_of_heap O1 7
  have y8 := Lib.cell_of_heap O1 8
  simp at y0 y1 y2 y3 y4 y5 y6 y7 y8
  clear x1
  go_wp2_with fail
  refine (SM.out _ HB1.out).mono ?_; rintro e w3 ⟨rfl, hb3⟩
  have hl1 := Nat.lt_of_lt_of_le hl0 hb1.size
  have O3 := (hb3.block _ hl1).trans O1
  have B3 := below_over HB1.out hb3
  have HB3 := Lib.hid B3
  clear y0 y1 y2 y3 y4 y5 y6 y7 y8
  have y0 := Lib.cell_of_heap O3 0
  have y1 := Lib.cell_of_heap O3 1
  have y2 := Lib.cell_of_heap O3 2
  have y3 := Lib.cell_of_heap O3 3
  have y4 := Lib.cell_of_heap O3 4
  have y5 := Lib.cell_of_heap O3 5
  have y6 := Lib.cell_of_heap O3 6
  have y7 := Lib.cell_of_heap O3 7
  have y8 := Lib.cell_of_heap O3 8
  simp at y0 y1 y2 y3 y4 y5 y6 y7 y8
  clear O1 O3 B3 hb1 hb3 HO HB HB1 S0 S1 SM hl0 hl1
  by_cases h1 : k = 1
  · subst h1
    cases b1 <;> cases b2
    all_goals (go_wp2_with fail; go_ret; exact ⟨by rw [← HVV.out]; simp, HB3.out⟩)
  by_cases h2 : k = 2
  · subst h2
    cases b1 <;> cases b2
    all_goals (go_wp2_with fail; go_ret; exact ⟨by rw [← HVV.out]; simp, HB3.out⟩)
  have e1 : (k == 1) = false := by simpa using h1
  have e2 : (k == 2) = false := by simpa using h2
  by_cases h3 : k = 3
  · subst h3
    clear h1 h2 e1 e2
    cases b1 with
    | false => go_wp2_with fail; go_ret; exact ⟨by rw [← HVV.out]; simp, HB3.out⟩
    | true =>
      go_wp2_with fail
      refine (MY.out _ HB3.out).mono ?_; rintro e w4 ⟨rfl, hb4⟩
      have FIN := Lib.hid (below_over HB3.out hb4)
      cases b3
      all_goals (go_wp2_with fail; go_ret; exact ⟨by rw [← HVV.out]; simp, FIN.out⟩)
  have e3 : (k == 3) = false := by simpa using h3
  by_cases h4 : k = 4
  · subst h4
    clear h1 h2 h3 e1 e2 e3
    cases b0 with
    | false => go_wp2_with fail; go_ret; exact ⟨by rw [← HVV.out]; simp, HB3.out⟩
    | true =>
      go_wp2_with fail
      refine (MY.out _ HB3.out).mono ?_; rintro e w4 ⟨rfl, hb4⟩
      have FIN := Lib.hid (below_over HB3.out hb4)
      cases b3
      all_goals (go_wp2_with fail; go_ret; exact ⟨by rw [← HVV.out]; simp, FIN.out⟩)
  have e4 : (k == 4) = false := by simpa using h4
  have RV : V = false := by rw [← HVV.out, if_neg (by simp [h1, h2]), if_neg h3, if_neg h4]
  subst RV
  clear h1 h2 h3 h4
  go_wp2_with fail
  go_ret
  exact ⟨rfl, HB3.out⟩

end Go.Proofs.YtpfoclpgcbjjoaaGreatDoor

/- The reference's May of modules. -/
namespace Go.Proofs.YtpfoclpgcbjjoaaGreatDoor
open Go.RowKit
open Go.Sort
open M

def mayM (m : Mo) : Bool := smallB m.name.data.toList && (decide (m.imps.length ≤ 20) && (decide (m.decs.length ≤ 60) && (m.imps.all mayI && m.decs.all mayD)))
theorem all_snoc {α : Type} (p : α → Bool) (l : List α) (j : Nat) (x : α) (h : l[j]? = some x) : (l.take (j + 1)).all p = ((l.take j).all p && p x) := by
  rw [List.take_add_one, h, List.all_append]; simp
theorem all_part {α : Type} (p : α → Bool) (l : List α) (j : Nat) (h : (l.take j).all p = false) : l.all p = false := by
  rw [← List.take_append_drop j l, List.all_append, h]; rfl

set_option maxRecDepth 100000 in
set_option maxHeartbeats 8000000 in
theorem rmay6_any (m : Mo) (l : List Value) (w : World) (h : MoAt w l m) (hM : ∀ d ∈ m.decs, many d.typ ≤ 9000) : Calls Tryz.prog 11 #[.agg l.toArray] w fun e w' => e = .returned (.bool (mayM m)) ∧ Below w.heap.size w w' := by
  obtain ⟨Ai, ci, Ad, cd, rfl, z1, z2, z3, hI, hD⟩ := h
  obtain ⟨w0, hw0⟩ : ∃ w0, w0 = w.alloc (.cells #[.string m.name, .slice Ai m.imps.length ci, .slice Ad m.decs.length cd] 25) := ⟨_, rfl⟩
  have B0 : Below w.heap.size w w0 := by rw [hw0]; exact below_new (Below.refl _ _) _
  have O0 : w0.heap[w.heap.size]? = some (.cells #[.string m.name, .slice Ai m.imps.length ci, .slice Ad m.decs.length cd] 25 (0, 0)) := by rw [hw0]; exact heap_alloc_new w _
  have hl0 : w.heap.size < w0.heap.size := by rw [hw0]; simp
  have S0 := Lib.hid (fun w => refSmall_any m.name w z1)
  obtain ⟨V, hV⟩ : ∃ V, mayM m = V := ⟨_, rfl⟩
  rw [hV]
  have HV : Hid ((smallB m.name.data.toList && (decide (m.imps.length ≤ 20) && (decide (m.decs.length ≤ 60) && (m.imps.all mayI && m.decs.all mayD)))) = V) := Lib.hid hV
  obtain ⟨ni, hni⟩ : ∃ ni, ni = m.imps.length := ⟨_, rfl⟩
  obtain ⟨nd, hnd⟩ : ∃ nd, nd = m.decs.length := ⟨_, rfl⟩
  rw [← hni] at z2 O0 hw0 HV
  rw [← hnd] at z3 O0 hw0 HV
  rw [← hni, ← hnd]
  have HNI := Lib.hid hni
  have HND := Lib.hid hnd
  have HI := Lib.hid (hI.below B0)
  have HD := Lib.hid (hD.below B0)
  have HM := Lib.hid hM
  have x0 := Lib.cell_of_heap O0 0
  simp at x0
  have HO := Lib.hid O0
  have HB := Lib.hid B0
  have HW0 := Lib.hid hw0
  generalize smallB m.name.data.toList = b0 at S0 HV
  clear hV hI hD hM hw0 B0 O0 hni hnd z1
  go_enter Tryz.func11, Tryz.ntmps11
  go_upto_region 1 with fail
  rw [← HW0.out]
  clear HW0
  go_wp2_with fail
  refine (S0.out _).mono ?_; rintro e w1 ⟨rfl, hb1⟩
  have O1 := (hb1.block _ hl0).trans HO.out
  have HO1 := Lib.hid O1
  have x1 := Lib.cell_of_heap O1 1
  have x2 := Lib.cell_of_heap O1 2
  simp at x1 x2
  have HB1 := Lib.hid (below_over HB.out hb1)
  have HI1 := Lib.hid (HI.out.below hb1)
  have HD1 := Lib.hid (HD.out.below hb1)
  have hl1 := Nat.lt_of_lt_of_le hl0 hb1.size
  clear x0 hb1 O1 HB HI HD HO hl0 S0
  cases b0 with
  | false =>
    go_wp2_with fail
    go_ret
    exact ⟨by rw [← HV.out]; rfl, HB1.out⟩
  | true =>
  by_cases h20 : 20 < ni
  · have e1 : (20 : Int) < ni := by omega
    have e2 : decide (ni ≤ 20) = false := by simp; omega
    go_wp2_with fail
    go_ret
    exact ⟨by rw [← HV.out, e2]; rfl, HB1.out⟩
  have e20 : ¬ (20 : Int) < ni := by omega
  by_cases h60 : 60 < nd
  · have e1 : (60 : Int) < nd := by omega
    have e2 : decide (nd ≤ 60) = false := by simp; omega
    go_wp2_with fail
    go_ret
    exact ⟨by rw [← HV.out, e2]; simp, HB1.out⟩
  have e60 : ¬ (60 : Int) < nd := by omega
  have HV1 : Hid ((m.imps.all mayI && m.decs.all mayD) = V) := Lib.hid (by
    rw [← HV.out, decide_eq_true (show ni ≤ 20 by omega), decide_eq_true (show nd ≤ 60 by omega)]; rfl)
  clear HV
  go_wp2_with fail
  clear e20 e60
  go_loopw [3, 4] (fun okv iv wr => ∃ (j : Nat) (q : Bool), j ≤ ni ∧ iv = .int .i64 j ∧ okv = .bool q ∧ Hid ((m.imps.take j).all mayI = q) ∧ Below w1.heap.size w1 wr) (fun _ iv _ => ni - (intOf iv).toNat)
  case atStart => exact ⟨0, true, by omega, rfl, rfl, Lib.hid (by simp), Below.refl _ _⟩
  case round =>
    obtain ⟨j, q, hj, rfl, rfl, HQ, hb⟩ := hrel
    obtain ⟨wo, rfl⟩ : ∃ wo : World, wo = wr := ⟨_, rfl⟩
    have O := (hb.block _ hl1).trans HO1.out
    have x1 := Lib.cell_of_heap O 1
    have x2 := Lib.cell_of_heap O 2
    simp at x1 x2
    by_cases hgo : j < ni ∧ q = true
    · obtain ⟨hlt, rfl⟩ := hgo
      obtain ⟨x, hx⟩ : ∃ x, m.imps[j]? = some x := ⟨_, List.getElem?_eq_getElem (by rw [← HNI.out]; exact hlt)⟩
      obtain ⟨g, o, rfl, -, a0, a1, a2, a3, y1, y2, y3⟩ := (HI1.out.below hb).im hx
      have IM := Lib.hid (rimport0_any x wo y1 y2 y3)
      have HX := Lib.hid hx
      have HBo := Lib.hid hb
      clear hx O x2 y1 y2 y3 hb
      go_wp2_with fail
      refine IM.out.mono ?_; rintro e w3 ⟨rfl, hb3⟩
      have HB3 := Lib.hid (below_over HBo.out hb3)
      clear hb3 a0 a1 a2 a3 x1
      go_wp2_with fail
      go_roundw
      case rel => exact ⟨j + 1, mayI x, by omega, by go_num, rfl, Lib.hid (by rw [all_snoc _ _ _ _ HX.out, HQ.out]; rfl), HB3.out⟩
      case measure => simp [intOf]; omega
    · have hstop : ni ≤ j ∨ q = false := by
        rcases Nat.lt_or_ge j ni with a | a
        · cases q with
          | true => exact absurd ⟨a, rfl⟩ hgo
          | false => exact .inr rfl
        · exact .inl a
      have HQ2 : Hid (m.imps.all mayI = q) := Lib.hid (by
        rcases hstop with a | a
        · rw [← HQ.out, List.take_of_length_le (by rw [← HNI.out]; exact a)]
        · rw [a] at HQ ⊢
          exact all_part _ _ _ HQ.out)
      have hcase : ¬ j < ni ∨ (j < ni ∧ q = false) := by
        rcases Nat.lt_or_ge j ni with a | a
        · rcases hstop with b | b
          · omega
          · exact .inr ⟨a, b⟩
        · exact .inl (by omega)
      clear hgo hstop HQ O
      rcases hcase with hc | ⟨hc, rfl⟩
      all_goals
        go_wp2_with fail
        go_loopw [3, 5] (fun okv iv wr => ∃ (j : Nat) (p : Bool), j ≤ nd ∧ iv = .int .i64 j ∧ okv = .bool p ∧ Hid ((m.imps.all mayI && (m.decs.take j).all mayD) = p) ∧ Below w1.heap.size w1 wr) (fun _ iv _ => nd - (intOf iv).toNat)
        case atStart => exact ⟨0, _, by omega, rfl, rfl, Lib.hid (by rw [HQ2.out]; simp), hb⟩
        case round =>
          obtain ⟨k, p, hk, rfl, rfl, HP, hb2⟩ := hrel
          obtain ⟨wi, rfl⟩ : ∃ wi : World, wi = wr := ⟨_, rfl⟩
          have O := (hb2.block _ hl1).trans HO1.out
          have x2 := Lib.cell_of_heap O 2
          simp at x2
          clear x1
          by_cases hgo : k < nd ∧ p = true
          · obtain ⟨hlt, rfl⟩ := hgo
            obtain ⟨x, hx⟩ : ∃ x, m.decs[k]? = some x := ⟨_, List.getElem?_eq_getElem (by rw [← HND.out]; exact hlt)⟩
            obtain ⟨g, o, v0, v1, v2, v3, v4, v5, v6, rfl, -, a0, a1, u0, u1, u2, u3, u4, u5, u6, us, zs⟩ := (HD1.out.below hb2).de hx
            obtain ⟨An, cA, As, cS, ev, -⟩ := us.parts
            simp only [List.cons.injEq, and_true] at ev
            obtain ⟨rfl, rfl, rfl, rfl, rfl, rfl, rfl⟩ := ev
            have RD := Lib.hid (rdecl0_any x.kind x.name x.typ An As cA cS wi us (HM.out x (List.mem_of_getElem? hx)) zs)
            have HX := Lib.hid hx
            have HBo := Lib.hid hb2
            clear hx O us zs hb2
            go_wp2_with fail
            refine RD.out.mono ?_; rintro e w3 ⟨rfl, hb3⟩
            have HB3 := Lib.hid (below_over HBo.out hb3)
            clear hb3 a0 a1 u0 u1 u2 u3 u4 u5 u6 x2
            go_wp2_with fail
            go_roundw
            case rel => exact ⟨k + 1, mayD ⟨x.kind, x.name, x.typ⟩, by omega, by go_num, rfl, Lib.hid (by
              have hp := HP.out
              rw [Bool.and_eq_true] at hp
              rw [all_snoc _ _ _ _ HX.out, hp.1, hp.2]; rfl), HB3.out⟩
            case measure => simp [intOf]; omega
          · have hstop : nd ≤ k ∨ p = false := by
              rcases Nat.lt_or_ge k nd with a | a
              · cases p with
                | true => exact absurd ⟨a, rfl⟩ hgo
                | false => exact .inr rfl
              · exact .inl a
            have FV : Hid (p = V) := Lib.hid (by
              rw [← HV1.out, ← HP.out]
              rcases hstop with a | a
              · rw [List.take_of_length_le (by rw [← HND.out]; exact a)]
              · rw [a] at HP
                have hp := HP.out
                cases hA : m.imps.all mayI with
                | false => rfl
                | true =>
                  rw [hA, Bool.true_and] at hp
                  rw [Bool.true_and, Bool.true_and, hp, all_part _ _ _ hp])
            have hcase : ¬ k < nd ∨ (k < nd ∧ p = false) := by
              rcases Nat.lt_or_ge k nd with a | a
              · rcases hstop with b | b
                · omega
                · exact .inr ⟨a, b⟩
              · exact .inl (by omega)
            have FIN := Lib.hid (below_over HB1.out hb2)
            clear hgo hstop HP O
            rcases hcase with hc2 | ⟨hc2, rfl⟩
            all_goals
              go_wp2_with fail
              go_ret
              exact ⟨ret_bool FV.out.symm, FIN.out⟩

end Go.Proofs.YtpfoclpgcbjjoaaGreatDoor

/- The walk of the reference's Few: what is small enough to be gone through has at most 3000 types. -/
namespace Go.Proofs.YtpfoclpgcbjjoaaGreatDoor
open Go.RowKit
open M

def fewB (t : Ty) : Bool := decide (0 ≤ fewT t 3000)
theorem few_small {t : Ty} (h : fewB t = true) : many t ≤ 3000 := by
  have h0 : 0 ≤ fewT t 3000 := by simpa [fewB] using h
  have a := few_many t 3000 h0
  omega

set_option maxHeartbeats 1000000 in
theorem fewB_any (t : Ty) (v : Value) (w : World) (hv : TyV w v t) :
    Calls Tryz.prog 18 #[v] w fun e w' => e = .returned (.bool (fewB t)) ∧ Below w.heap.size w w' := by
  have HV := Lib.hid hv
  obtain ⟨l, rfl, hT⟩ := hv
  obtain ⟨An, cn, As, cs, rfl, -, -, -, -, -, -, -⟩ := hT.parts
  clear hT
  have bd := few_bd t 3000 (by omega)
  unfold fewB
  go_enter Tryz.func18, Tryz.ntmps18
  go_wp2_with fail
  refine (few_any _ t (Nat.le_refl _) 3000 (by omega) (by omega) _ _ (HV.out.below (by first | exact below_new (Below.refl _ _) _ | exact Below.refl _ _))).mono ?_; rintro e w1 ⟨rfl, hb1⟩
  go_wp2_with fail
  go_ret
  refine ⟨rfl, ?_⟩
  first | exact hb1 | exact (below_new (Below.refl _ _) _).trans (hb1.mono (by simp))

end Go.Proofs.YtpfoclpgcbjjoaaGreatDoor

/- The reference's Few of modules. -/
namespace Go.Proofs.YtpfoclpgcbjjoaaGreatDoor
open Go.RowKit
open Go.Sort
open M

def fewD (d : De) : Bool := fewB d.typ && decide (d.name.size ≤ 500)
def fewM (m : Mo) : Bool := decide (m.name.size ≤ 500) && (decide (m.imps.length ≤ 100) && (decide (m.decs.length ≤ 100) && m.decs.all fewD))
theorem all_one {α : Type} (p : α → Bool) (l : List α) (j : Nat) (x : α) (h : l[j]? = some x) (hp : p x = false) : l.all p = false := by
  rw [List.all_eq_false]
  exact ⟨x, List.mem_of_getElem? h, by rw [hp]; decide⟩

set_option maxRecDepth 100000 in
set_option maxHeartbeats 8000000 in
theorem rfew6_any (m : Mo) (l : List Value) (w : World) (h : MoAt w l m) : Calls Tryz.prog 9 #[.agg l.toArray] w fun e w' => e = .returned (.bool (fewM m)) ∧ Below w.heap.size w w' := by
  obtain ⟨Ai, ci, Ad, cd, rfl, z1, z2, z3, hI, hD⟩ := h
  obtain ⟨w0, hw0⟩ : ∃ w0, w0 = w.alloc (.cells #[.string m.name, .slice Ai m.imps.length ci, .slice Ad m.decs.length cd] 25) := ⟨_, rfl⟩
  have B0 : Below w.heap.size w w0 := by rw [hw0]; exact below_new (Below.refl _ _) _
  have O0 : w0.heap[w.heap.size]? = some (.cells #[.string m.name, .slice Ai m.imps.length ci, .slice Ad m.decs.length cd] 25 (0, 0)) := by rw [hw0]; exact heap_alloc_new w _
  have hl0 : w.heap.size < w0.heap.size := by rw [hw0]; simp
  obtain ⟨V, hV⟩ : ∃ V, fewM m = V := ⟨_, rfl⟩
  rw [hV]
  have HV : Hid ((decide (m.name.size ≤ 500) && (decide (m.imps.length ≤ 100) && (decide (m.decs.length ≤ 100) && m.decs.all fewD))) = V) := Lib.hid hV
  obtain ⟨ni, hni⟩ : ∃ ni, ni = m.imps.length := ⟨_, rfl⟩
  obtain ⟨nd, hnd⟩ : ∃ nd, nd = m.decs.length := ⟨_, rfl⟩
  rw [← hni] at z2 O0 hw0 HV
  rw [← hnd] at z3 O0 hw0 HV
  rw [← hni, ← hnd]
  have HND := Lib.hid hnd
  have HD := Lib.hid (hD.below B0)
  have x0 := Lib.cell_of_heap O0 0
  have x1 := Lib.cell_of_heap O0 1
  have x2 := Lib.cell_of_heap O0 2
  simp at x0 x1 x2
  have HO := Lib.hid O0
  have HB := Lib.hid B0
  have HW0 := Lib.hid hw0
  clear hV hI hD hw0 B0 O0 hni hnd
  by_cases h5 : 500 < m.name.size
  · have e1 : (500 : Int) < m.name.size := by omega
    have RV : V = false := by rw [← HV.out, show decide (m.name.size ≤ 500) = false by simp; omega]; rfl
    subst RV
    go_enter Tryz.func9, Tryz.ntmps9
    go_upto_region 1 with fail
    rw [← HW0.out]
    go_wp2_with fail
    go_ret
    exact ⟨rfl, HB.out⟩
  have e5 : ¬ (500 : Int) < m.name.size := by omega
  by_cases h1 : 100 < ni
  · have e1 : (100 : Int) < ni := by omega
    have RV : V = false := by rw [← HV.out, show decide (ni ≤ 100) = false by simp; omega]; simp
    subst RV
    go_enter Tryz.func9, Tryz.ntmps9
    go_upto_region 1 with fail
    rw [← HW0.out]
    go_wp2_with fail
    go_ret
    exact ⟨rfl, HB.out⟩
  have e1 : ¬ (100 : Int) < ni := by omega
  by_cases h2 : 100 < nd
  · have e2 : (100 : Int) < nd := by omega
    have RV : V = false := by rw [← HV.out, show decide (nd ≤ 100) = false by simp; omega]; simp
    subst RV
    go_enter Tryz.func9, Tryz.ntmps9
    go_upto_region 1 with fail
    rw [← HW0.out]
    go_wp2_with fail
    go_ret
    exact ⟨rfl, HB.out⟩
  have e2 : ¬ (100 : Int) < nd := by omega
  have HV1 : Hid (m.decs.all fewD = V) := Lib.hid (by
    rw [← HV.out, decide_eq_true (show m.name.size ≤ 500 by omega), decide_eq_true (show ni ≤ 100 by omega), decide_eq_true (show nd ≤ 100 by omega)]; rfl)
  clear HV h5 h1 h2
  go_enter Tryz.func9, Tryz.ntmps9
  go_upto_region 1 with fail
  rw [← HW0.out]
  clear HW0
  go_wp2_with fail
  clear e5 e1 e2
  go_loopw [3] (fun iv wr => ∃ j : Nat, j ≤ nd ∧ iv = .int .i64 j ∧ Hid ((m.decs.take j).all fewD = true) ∧ Below w0.heap.size w0 wr) (fun iv _ => nd - (intOf iv).toNat)
  case atStart => exact ⟨0, by omega, rfl, Lib.hid (by simp), Below.refl _ _⟩
  case round =>
    obtain ⟨j, hj, rfl, HQ, hb⟩ := hrel
    obtain ⟨wo, rfl⟩ : ∃ wo : World, wo = wr := ⟨_, rfl⟩
    have O := (hb.block _ hl0).trans HO.out
    have x2 := Lib.cell_of_heap O 2
    simp at x2
    by_cases hlt : j < nd
    · obtain ⟨x, hx⟩ : ∃ x, m.decs[j]? = some x := ⟨_, List.getElem?_eq_getElem (by rw [← HND.out]; exact hlt)⟩
      obtain ⟨g, o, v0, v1, v2, v3, v4, v5, v6, rfl, hg, a0, a1, u0, u1, u2, u3, u4, u5, u6, us, zs⟩ := (HD.out.below hb).de hx
      have FW := Lib.hid (fewB_any x.typ _ wo ⟨_, rfl, us⟩)
      have HX := Lib.hid hx
      have HBo := Lib.hid hb
      have HA1 := Lib.hid a1
      have HO2 := Lib.hid O
      clear hx us hb a0 a1 O
      go_wp2_with fail
      refine FW.out.mono ?_; rintro e w3 ⟨rfl, hb3⟩
      have a1 := (hb3.cell (p := ⟨g, _, none⟩) hg).trans HA1.out
      have x2 := Lib.cell_of_heap ((hb3.block _ (Array.getElem?_eq_some_iff.1 HO2.out).1).trans HO2.out) 2
      simp at x2
      have HB3 := Lib.hid (below_over HBo.out hb3)
      have FIN := Lib.hid (below_over HB.out HB3.out)
      obtain ⟨q, hq⟩ : ∃ q, fewB x.typ = q := ⟨_, rfl⟩
      rw [hq]
      have HQ2 := Lib.hid hq
      clear hb3 u0 u1 u2 u3 u4 u5 u6 hq FW HA1 HO2
      cases q with
      | false =>
        have RV : V = false := by rw [← HV1.out]; exact all_one _ _ _ _ HX.out (by unfold fewD; rw [HQ2.out]; rfl)
        subst RV
        go_wp2_with fail
        go_ret
        exact ⟨rfl, FIN.out⟩
      | true =>
        by_cases hn : 500 < x.name.size
        · have e1 : (500 : Int) < x.name.size := by omega
          have RV : V = false := by rw [← HV1.out]; exact all_one _ _ _ _ HX.out (by unfold fewD; rw [show decide (x.name.size ≤ 500) = false by simp; omega]; simp)
          subst RV
          go_wp2_with fail
          go_ret
          exact ⟨rfl, FIN.out⟩
        · have e1 : ¬ (500 : Int) < x.name.size := by omega
          have HN : Hid (x.name.size ≤ 500) := Lib.hid (by omega)
          clear hn
          go_wp2_with fail
          go_roundw
          case rel => exact ⟨j + 1, by omega, by go_num, Lib.hid (by rw [all_snoc _ _ _ _ HX.out, HQ.out]; unfold fewD; rw [HQ2.out, decide_eq_true HN.out]; rfl), HB3.out⟩
          case measure => simp [intOf]; omega
    · have RV : V = true := by rw [← HV1.out, ← HQ.out, List.take_of_length_le (by rw [← HND.out]; omega)]
      subst RV
      have FIN := Lib.hid (below_over HB.out hb)
      clear O
      go_wp2_with fail
      go_ret
      exact ⟨rfl, FIN.out⟩

end Go.Proofs.YtpfoclpgcbjjoaaGreatDoor
