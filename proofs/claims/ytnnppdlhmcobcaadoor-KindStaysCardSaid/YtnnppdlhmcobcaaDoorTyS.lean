/-
  The walk of the reference's Same: are two types alike?
-/
import Derived.Test.YtnnppdlhmcobcaaDoorTyA
import Derived.Test.YtnnppdlhmcobcaaDoorTyP
import Derived.Deep.QuietTactic
import Derived.BigQuiet
import Derived.Lib.QuietBelow
import Derived.Lib.Strings
namespace Go.Proofs.YtnnppdlhmcobcaaDoor
open Go.RowKit
open Go.Sort
open M

set_option maxRecDepth 100000 in
set_option maxHeartbeats 8000000 in
theorem same_any (N : Nat) : ∀ (a b : Ty), many a ≤ N → ∀ (v v' : Value) (w : World), TyV w v a → TyV w v' b →
    Calls Tryd.prog 16 #[v, v'] w fun e w' => e = .returned (.bool (sameT a b)) ∧ Below w.heap.size w w' := by
  induction N with
  | zero => intro a b h; have := many_pos a; omega
  | succ N ih =>
  intro a b hN v v' w hv hv'
  obtain ⟨l, rfl, hT⟩ := hv
  obtain ⟨An, cn, As, cs, rfl, -, -, -, hzn, hz, hNA, hS⟩ := hT.parts
  obtain ⟨l', rfl, hT'⟩ := hv'
  obtain ⟨Bn, cn', Bs, cs', rfl, -, -, -, hzn', hz', hNB, hS'⟩ := hT'.parts
  clear hT hT'
  have HSM := Lib.hid (fun (i : Nat) (s : Ty) (h : a.subs[i]? = some s) => sub_many h)
  obtain ⟨k, p, m, d, n, ns, ss⟩ := a
  obtain ⟨k', p', m', d', n', ns', ss'⟩ := b
  simp only [Ty.kind, Ty.pkg, Ty.major, Ty.mod, Ty.name, Ty.names, Ty.subs] at *
  have HNA := Lib.hid hNA
  have HNB := Lib.hid hNB
  have HSA := Lib.hid hS
  have HSB := Lib.hid hS'
  clear hNA hNB hS hS'
  generalize hq : ns.length = q at hzn
  generalize hq' : ns'.length = q' at hzn'
  generalize hr : ss.length = r at hz
  generalize hr' : ss'.length = r' at hz'
  have HQ := Lib.hid hq
  have HQ' := Lib.hid hq'
  have HR := Lib.hid hr
  have HR' := Lib.hid hr'
  clear hq hq' hr hr'
  by_cases h1 : k = k'
  rotate_left
  · have R : Hid (sameT (.mk k p m d n ns ss) (.mk k' p' m' d' n' ns' ss') = false) := Lib.hid (sameT_no (fun e => by injection e with e1 e2 e3 e4 e5 e6 e7; exact h1 e1))
    rw [R.out]
    have f1 : (k == k') = false := by simpa using h1
    have f2 : (k != k') = true := by simpa using h1
    clear h1
    as_aux_lemma =>
    go_enter Tryd.func16, Tryd.ntmps16
    go_wp2_with fail
    go_ret
    exact ⟨rfl, below_new (below_new (Below.refl _ _) _) _⟩
  subst h1
  by_cases h2 : p = p'
  rotate_left
  · have R : Hid (sameT (.mk k p m d n ns ss) (.mk k p' m' d' n' ns' ss') = false) := Lib.hid (sameT_no (fun e => by injection e with e1 e2 e3 e4 e5 e6 e7; exact h2 e2))
    rw [R.out]
    have f1 : (p.toList == p'.toList) = false := by
      rw [beq_eq_false_iff_ne, ne_eq, Lib.toList_data, Lib.toList_data, bytes_list]
      exact h2
    have f2 : (!(p.toList == p'.toList)) = true := by rw [f1]; rfl
    have f3 : ¬ p.toList = p'.toList := by simpa using f1
    clear h2
    as_aux_lemma =>
    go_enter Tryd.func16, Tryd.ntmps16
    go_wp2_with fail
    go_ret
    exact ⟨rfl, below_new (below_new (Below.refl _ _) _) _⟩
  subst h2
  by_cases h3 : m = m'
  rotate_left
  · have R : Hid (sameT (.mk k p m d n ns ss) (.mk k p m' d' n' ns' ss') = false) := Lib.hid (sameT_no (fun e => by injection e with e1 e2 e3 e4 e5 e6 e7; exact h3 e3))
    rw [R.out]
    have f1 : (m == m') = false := by simpa using h3
    have f2 : (m != m') = true := by simpa using h3
    clear h3
    as_aux_lemma =>
    go_enter Tryd.func16, Tryd.ntmps16
    go_wp2_with fail
    go_ret
    exact ⟨rfl, below_new (below_new (Below.refl _ _) _) _⟩
  subst h3
  by_cases h4 : d = d'
  rotate_left
  · have R : Hid (sameT (.mk k p m d n ns ss) (.mk k p m d' n' ns' ss') = false) := Lib.hid (sameT_no (fun e => by injection e with e1 e2 e3 e4 e5 e6 e7; exact h4 e4))
    rw [R.out]
    have f1 : (d.toList == d'.toList) = false := by
      rw [beq_eq_false_iff_ne, ne_eq, Lib.toList_data, Lib.toList_data, bytes_list]
      exact h4
    have f2 : (!(d.toList == d'.toList)) = true := by rw [f1]; rfl
    have f3 : ¬ d.toList = d'.toList := by simpa using f1
    clear h4
    as_aux_lemma =>
    go_enter Tryd.func16, Tryd.ntmps16
    go_wp2_with fail
    go_ret
    exact ⟨rfl, below_new (below_new (Below.refl _ _) _) _⟩
  subst h4
  by_cases h5 : n = n'
  rotate_left
  · have R : Hid (sameT (.mk k p m d n ns ss) (.mk k p m d n' ns' ss') = false) := Lib.hid (sameT_no (fun e => by injection e with e1 e2 e3 e4 e5 e6 e7; exact h5 e5))
    rw [R.out]
    have f1 : (n.toList == n'.toList) = false := by
      rw [beq_eq_false_iff_ne, ne_eq, Lib.toList_data, Lib.toList_data, bytes_list]
      exact h5
    have f2 : (!(n.toList == n'.toList)) = true := by rw [f1]; rfl
    have f3 : ¬ n.toList = n'.toList := by simpa using f1
    clear h5
    as_aux_lemma =>
    go_enter Tryd.func16, Tryd.ntmps16
    go_wp2_with fail
    go_ret
    exact ⟨rfl, below_new (below_new (Below.refl _ _) _) _⟩
  subst h5
  by_cases h6 : q = q'
  rotate_left
  · have R : Hid (sameT (.mk k p m d n ns ss) (.mk k p m d n ns' ss') = false) := Lib.hid (sameT_no (fun e => by injection e with e1 e2 e3 e4 e5 e6 e7; exact h6 (by rw [← HQ.out, ← HQ'.out, e6])))
    rw [R.out]
    have f1 : ((q : Int) == q') = false := by simp; omega
    have f2 : ((q : Int) != q') = true := by simp; omega
    have f3 : ¬ (q : Int) = q' := by omega
    have f4 : ¬ q = q' := by omega
    clear h6
    as_aux_lemma =>
    go_enter Tryd.func16, Tryd.ntmps16
    go_wp2_with fail
    go_ret
    exact ⟨rfl, below_new (below_new (Below.refl _ _) _) _⟩
  subst h6
  by_cases h7 : r = r'
  rotate_left
  · have R : Hid (sameT (.mk k p m d n ns ss) (.mk k p m d n ns' ss') = false) := Lib.hid (sameT_no (fun e => by injection e with e1 e2 e3 e4 e5 e6 e7; exact h7 (by rw [← HR.out, ← HR'.out, e7])))
    rw [R.out]
    have f1 : ((r : Int) == r') = false := by simp; omega
    have f2 : ((r : Int) != r') = true := by simp; omega
    have f3 : ¬ (r : Int) = r' := by omega
    have f4 : ¬ r = r' := by omega
    clear h7
    as_aux_lemma =>
    go_enter Tryd.func16, Tryd.ntmps16
    go_wp2_with fail
    go_ret
    exact ⟨rfl, below_new (below_new (Below.refl _ _) _) _⟩
  subst h7
  go_enter Tryd.func16, Tryd.ntmps16
  go_wp2_with fail
  go_loopw [5] (fun i wr => ∃ j : Nat, j ≤ q ∧ i = .int .i64 j ∧ Hid (∀ x (s s' : ByteArray), x < j → ns[x]? = some s → ns'[x]? = some s' → s = s') ∧ Below (boxed (boxed w #[.int .i64 k, .string p, .int .i64 m, .string d, .string n, .slice An q cn, .slice As r cs]) #[.int .i64 k, .string p, .int .i64 m, .string d, .string n, .slice Bn q cn', .slice Bs r cs']).heap.size (boxed (boxed w #[.int .i64 k, .string p, .int .i64 m, .string d, .string n, .slice An q cn, .slice As r cs]) #[.int .i64 k, .string p, .int .i64 m, .string d, .string n, .slice Bn q cn', .slice Bs r cs']) wr) (fun i _ => q - (intOf i).toNat)
  case atStart => exact ⟨0, by omega, rfl, Lib.hid (fun x s s' h => by omega), Below.refl _ _⟩
  case round =>
    obtain ⟨j, hj, rfl, HP, hb⟩ := hrel
    obtain ⟨wo, rfl⟩ : ∃ wo : World, wo = wr := ⟨_, rfl⟩
    have HB1 := Lib.hid (box_below hb)
    have HB := Lib.hid (box_below HB1.out)
    have a5 := box_cell HB1.out 5
    have b5 := box_cell hb 5
    simp [boxed] at a5 b5
    by_cases hlt : j < q
    · obtain ⟨s, hs⟩ : ∃ s, ns[j]? = some s := ⟨_, List.getElem?_eq_getElem (by rw [HQ.out]; exact hlt)⟩
      obtain ⟨s', hs'⟩ : ∃ s, ns'[j]? = some s := ⟨_, List.getElem?_eq_getElem (by rw [HQ'.out]; exact hlt)⟩
      obtain ⟨g, o, rfl, -, a0, -⟩ := HNA.out.below HB.out j s hs
      obtain ⟨g', o', rfl, -, b0, -⟩ := HNB.out.below HB.out j s' hs'
      by_cases he : s = s'
      · subst he
        have HSS := Lib.hid hs
        have HSS' := Lib.hid hs'
        clear hs hs'
        go_wp2_with fail
        go_quiet (fail)
        go_wp2_with fail
        go_roundw
        case rel => exact ⟨j + 1, by omega, by go_num, Lib.hid (fun x y y' hx hy hy' => by
          rcases Nat.lt_or_ge x j with a | a
          · exact HP.out x y y' a hy hy'
          · rw [show x = j by omega] at hy hy'
            rw [HSS.out] at hy; rw [HSS'.out] at hy'
            rw [← Option.some.inj hy, ← Option.some.inj hy']), below_drewN hb nq⟩
        case measure => simp [intOf]; omega
      · have R : Hid (sameT (.mk k p m d n ns ss) (.mk k p m d n ns' ss') = false) := Lib.hid (sameT_no (fun e => by
          injection e with e1 e2 e3 e4 e5 e6 e7
          rw [e6, hs'] at hs
          exact he (Option.some.inj hs).symm))
        have f1 : (s.toList == s'.toList) = false := by
          rw [beq_eq_false_iff_ne, ne_eq, Lib.toList_data, Lib.toList_data, bytes_list]; exact he
        have f2 : (!(s.toList == s'.toList)) = true := by rw [f1]; rfl
        have f3 : ¬ s.toList = s'.toList := by simpa using f1
        clear he hs hs'
        go_wp2_with fail
        go_quiet (fail)
        go_wp2_with fail
        go_ret
        exact ⟨ret_bool R.out, below_drewN HB.out nq⟩
    · have hjq : j = q := by omega
      have NE : Hid (ns = ns') := Lib.hid (list_ext' (by rw [HQ.out, HQ'.out]) (fun x s s' h1 h2 => HP.out x s s' (by have := (List.getElem?_eq_some_iff.1 h1).1; rw [HQ.out] at this; omega) h1 h2))
      clear HP
      have HA6 := box_cell HB1.out 6
      have HB6 := box_cell hb 6
      simp [boxed] at HA6 HB6
      go_wp2_with fail
      go_loopw [6] (fun i wr => ∃ x : Nat, x ≤ r ∧ i = .int .i64 x ∧ Hid (∀ y (s s' : Ty), y < x → ss[y]? = some s → ss'[y]? = some s' → s = s') ∧ Below (boxed (boxed w #[.int .i64 k, .string p, .int .i64 m, .string d, .string n, .slice An q cn, .slice As r cs]) #[.int .i64 k, .string p, .int .i64 m, .string d, .string n, .slice Bn q cn', .slice Bs r cs']).heap.size (boxed (boxed w #[.int .i64 k, .string p, .int .i64 m, .string d, .string n, .slice An q cn, .slice As r cs]) #[.int .i64 k, .string p, .int .i64 m, .string d, .string n, .slice Bn q cn', .slice Bs r cs']) wr) (fun i _ => r - (intOf i).toNat)
      case atStart => exact ⟨0, by omega, rfl, Lib.hid (fun x s s' h => by omega), hb⟩
      case round =>
        obtain ⟨x, hx, rfl, HP2, hb2⟩ := hrel
        obtain ⟨wi, rfl⟩ : ∃ wi : World, wi = wr := ⟨_, rfl⟩
        have HI1 := Lib.hid (box_below hb2)
        have HI := Lib.hid (box_below HI1.out)
        have a6 := box_cell HI1.out 6
        have b6 := box_cell hb2 6
        simp [boxed] at a6 b6
        clear HA6 HB6 a5 b5
        by_cases hlt2 : x < r
        · obtain ⟨s, hs⟩ : ∃ s, ss[x]? = some s := ⟨_, List.getElem?_eq_getElem (by rw [HR.out]; exact hlt2)⟩
          obtain ⟨s', hs'⟩ : ∃ s, ss'[x]? = some s := ⟨_, List.getElem?_eq_getElem (by rw [HR'.out]; exact hlt2)⟩
          obtain ⟨g, o, v0, v1, v2, v3, v4, v5, v6, rfl, -, u0, u1, u2, u3, u4, u5, u6, us⟩ := HSA.out.below HI.out x s hs
          obtain ⟨g', o', z0, z1, z2, z3, z4, z5, z6, rfl, -, t0, t1, t2, t3, t4, t5, t6, ts⟩ := HSB.out.below HI.out x s' hs'
          have hsm := HSM.out x s hs
          have cP : ∀ dd os, Calls Tryd.prog 16 #[.agg #[v0, v1, v2, v3, v4, v5, v6], .agg #[z0, z1, z2, z3, z4, z5, z6]] (Sort.grow (redrawn wi dd) os) fun e w'' => e = .returned (.bool (sameT s s')) ∧ ∃ pp : Regrown, w'' = Sort.grow (redrawn wi pp.d) pp.os := fun dd os => Calls.regrown_of (ih s s' (by omega) _ _ _ ⟨_, rfl, us.keep (below_regrown wi dd os)⟩ ⟨_, rfl, ts.keep (below_regrown wi dd os)⟩)
          have p0 := cell_regrown u0; have p1 := cell_regrown u1; have p2 := cell_regrown u2; have p3 := cell_regrown u3; have p4 := cell_regrown u4; have p5 := cell_regrown u5; have p6 := cell_regrown u6
          have r0 := cell_regrown t0; have r1 := cell_regrown t1; have r2 := cell_regrown t2; have r3 := cell_regrown t3; have r4 := cell_regrown t4; have r5 := cell_regrown t5; have r6 := cell_regrown t6
          have x6 := cell_regrown a6; have y6 := cell_regrown b6
          have HSS := Lib.hid hs
          have HSS' := Lib.hid hs'
          clear hs hs' us ts hsm
          go_wp2_with fail
          refine wp_region_quiet_below (by kernel_rfl) (by kernel_rfl) ?_
          repeat (any_goals (first | go_big_quiet_step (with_reducible exact cP _ _) | quiet_step (with_reducible exact cP _ _)))
          refine wpQuiet_nil ?_
          intro _ hw'
          obtain ⟨⟨dq, osq⟩, hw''⟩ := hw'
          subst hw''
          have hb3 := below_over hb2 (below_regrown wi dq osq)
          clear p0 p1 p2 p3 p4 p5 p6 r0 r1 r2 r3 r4 r5 r6 x6 y6 u0 u1 u2 u3 u4 u5 u6 t0 t1 t2 t3 t4 t5 t6 cP a6 b6
          rcases hid_or (sameT s s') with hS | hS
          · have R : Hid (sameT (.mk k p m d n ns ss) (.mk k p m d n ns' ss') = false) := Lib.hid (sameT_no (fun e => by
              injection e with e1 e2 e3 e4 e5 e6 e7
              have hs := HSS.out
              rw [e7, HSS'.out] at hs
              have h := hS.out
              rw [Option.some.inj hs] at h
              rw [(sameT_iff s s).2 rfl] at h
              cases h))
            rw [hS.out]
            go_wp2_with fail
            go_ret
            exact ⟨ret_bool R.out, box_below (box_below hb3)⟩
          · have e := (sameT_iff s s').1 hS.out
            have HEQ := Lib.hid e
            clear e
            rw [hS.out]
            go_wp2_with fail
            go_roundw
            case rel => exact ⟨x + 1, by omega, by go_num, Lib.hid (fun y q1 q2 hy h1 h2 => by
              rcases Nat.lt_or_ge y x with a | a
              · exact HP2.out y q1 q2 a h1 h2
              · rw [show y = x by omega] at h1 h2
                rw [HSS.out] at h1; rw [HSS'.out] at h2
                rw [← Option.some.inj h1, ← Option.some.inj h2]
                exact HEQ.out), hb3⟩
            case measure => simp [intOf]; omega
        · have SE : Hid (ss = ss') := Lib.hid (list_ext' (by rw [HR.out, HR'.out]) (fun y s s' h1 h2 => HP2.out y s s' (by have := (List.getElem?_eq_some_iff.1 h1).1; rw [HR.out] at this; omega) h1 h2))
          have R : Hid (sameT (.mk k p m d n ns ss) (.mk k p m d n ns' ss') = true) := Lib.hid (by rw [sameT_iff, NE.out, SE.out])
          go_wp2_with fail
          go_ret
          exact ⟨ret_bool R.out, HI.out⟩

end Go.Proofs.YtnnppdlhmcobcaaDoor
