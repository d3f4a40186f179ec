/-
  Several texts in one: The walk of the reference's Same: are two types alike? · The reference's Same, of two modules that are one. · The walk of the reference's Copy of modules. · Walks of the reference's gone-through types: how many, how deep, plain. · The walk of the reference's own: are a type's own fields what its kind asks?
-/
import Derived.Test.YtapjhmfbmkckaaaGreatDoorJ00
import Derived.Test.YtapjhmfbmkckaaaGreatDoorJ07
import Derived.Deep.QuietTactic
import Derived.BigQuiet
import Derived.Lib.QuietBelow
import Derived.Lib.Strings
import Derived.LoopTactic
import Derived.Test.YtapjhmfbmkckaaaGreatDoorJ06
import Derived.Test.YtapjhmfbmkckaaaGreatDoorJ01
import Derived.Deep.DeepCutAuto
import Derived.Deep.CutBlock
/- The walk of the reference's Same: are two types alike? -/
namespace Go.Proofs.YtapjhmfbmkckaaaGreatDoor
open Go.RowKit
open Go.Sort
open M

set_option maxRecDepth 100000 in
set_option maxHeartbeats 8000000 in
theorem same_any (N : Nat) : ∀ (a b : Ty), many a ≤ N → ∀ (v v' : Value) (w : World), TyV w v a → TyV w v' b →
    Calls Tryz.prog 28 #[v, v'] w fun e w' => e = .returned (.bool (sameT a b)) ∧ Below w.heap.size w w' := by
  induction N with
  | zero => intro a b h; have := many_pos a; omega
  | succ N ih =>
  intro a b hN v v' w hv hv'
  obtain ⟨l, rfl, hT⟩ := hv
  obtain ⟨An, cn, As, cs, rfl, -, -, -, hzn, hz, hNA, hS⟩ := hT.parts
  obtain ⟨l', rfl, hT'⟩ := hv'
  obtain ⟨Bn, cn', Bs, cs', rfl, -, -, -, hzn', hz', hNB, hS'⟩ := hT'.parts
  clear hT hT'
  have HSM := Lib.hid (fun (i : Nat) (s : Ty) (h : a.subs[i]? = some s) => sub_many h)
  obtain ⟨k, p, m, d, n, ns, ss⟩ := a
  obtain ⟨k', p', m', d', n', ns', ss'⟩ := b
  simp only [Ty.kind, Ty.pkg, Ty.major, Ty.mod, Ty.name, Ty.names, Ty.subs] at *
  have HNA := Lib.hid hNA
  have HNB := Lib.hid hNB
  have HSA := Lib.hid hS
  have HSB := Lib.hid hS'
  clear hNA hNB hS hS'
  generalize hq : ns.length = q at hzn
  generalize hq' : ns'.length = q' at hzn'
  generalize hr : ss.length = r at hz
  generalize hr' : ss'.length = r' at hz'
  have HQ := Lib.hid hq
  have HQ' := Lib.hid hq'
  have HR := Lib.hid hr
  have HR' := Lib.hid hr'
  clear hq hq' hr hr'
  by_cases h1 : k = k'
  rotate_left
  · have R : Hid (sameT (.mk k p m d n ns ss) (.mk k' p' m' d' n' ns' ss') = false) := Lib.hid (sameT_no (fun e => by injection e with e1 e2 e3 e4 e5 e6 e7; exact h1 e1))
    rw [R.out]
    have f1 : (k == k') = false := by simpa using h1
    have f2 : (k != k') = true := by simpa using h1
    clear h1
    as_aux_lemma =>
    go_enter Tryz.func28, Tryz.ntmps28
    go_wp2_with fail
    go_ret
    exact ⟨rfl, below_new (below_new (Below.refl _ _) _) _⟩
  subst h1
  by_cases h2 : p = p'
  rotate_left
  · have R : Hid (sameT (.mk k p m d n ns ss) (.mk k p' m' d' n' ns' ss') = false) := Lib.hid (sameT_no (fun e => by injection e with e1 e2 e3 e4 e5 e6 e7; exact h2 e2))
    rw [R.out]
    have f1 : (p.toList == p'.toList) = false := by
      rw [beq_eq_false_iff_ne, ne_eq, Lib.toList_data, Lib.toList_data, bytes_list]
      exact h2
    have f2 : (!(p.toList == p'.toList)) = true := by rw [f1]; rfl
    have f3 : ¬ p.toList = p'.toList := by simpa using f1
    clear h2
    as_aux_lemma =>
    go_enter Tryz.func28, Tryz.ntmps28
    go_wp2_with fail
    go_ret
    exact ⟨rfl, below_new (below_new (Below.refl _ _) _) _⟩
  subst h2
  by_cases h3 : m = m'
  rotate_left
  · have R : Hid (sameT (.mk k p m d n ns ss) (.mk k p m' d' n' ns' ss') = false) := Lib.hid (sameT_no (fun e => by injection e with e1 e2 e3 e4 e5 e6 e7; exact h3 e3))
    rw [R.out]
    have f1 : (m == m') = false := by simpa using h3
    have f2 : (m != m') = true := by simpa using h3
    clear h3
    as_aux_lemma =>
    go_enter Tryz.func28, Tryz.ntmps28
    go_wp2_with fail
    go_ret
    exact ⟨rfl, below_new (below_new (Below.refl _ _) _) _⟩
  subst h3
  by_cases h4 : d = d'
  rotate_left
  · have R : Hid (sameT (.mk k p m d n ns ss) (.mk k p m d' n' ns' ss') = false) := Lib.hid (sameT_no (fun e => by injection e with e1 e2 e3 e4 e5 e6 e7; exact h4 e4))
    rw [R.out]
    have f1 : (d.toList == d'.toList) = false := by
      rw [beq_eq_false_iff_ne, ne_eq, Lib.toList_data, Lib.toList_data, bytes_list]
      exact h4
    have f2 : (!(d.toList == d'.toList)) = true := by rw [f1]; rfl
    have f3 : ¬ d.toList = d'.toList := by simpa using f1
    clear h4
    as_aux_lemma =>
    go_enter Tryz.func28, Tryz.ntmps28
    go_wp2_with fail
    go_ret
    exact ⟨rfl, below_new (below_new (Below.refl _ _) _) _⟩
  subst h4
  by_cases h5 : n = n'
  rotate_left
  · have R : Hid (sameT (.mk k p m d n ns ss) (.mk k p m d n' ns' ss') = false) := Lib.hid (sameT_no (fun e => by injection e with e1 e2 e3 e4 e5 e6 e7; exact h5 e5))
    rw [R.out]
    have f1 : (n.toList == n'.toList) = false := by
      rw [beq_eq_false_iff_ne, ne_eq, Lib.toList_data, Lib.toList_data, bytes_list]
      exact h5
    have f2 : (!(n.toList == n'.toList)) = true := by rw [f1]; rfl
    have f3 : ¬ n.toList = n'.toList := by simpa using f1
    clear h5
    as_aux_lemma =>
    go_enter Tryz.func28, Tryz.ntmps28
    go_wp2_with fail
    go_ret
    exact ⟨rfl, below_new (below_new (Below.refl _ _) _) _⟩
  subst h5
  by_cases h6 : q = q'
  rotate_left
  · have R : Hid (sameT (.mk k p m d n ns ss) (.mk k p m d n ns' ss') = false) := Lib.hid (sameT_no (fun e => by injection e with e1 e2 e3 e4 e5 e6 e7; exact h6 (by rw [← HQ.out, ← HQ'.out, e6])))
    rw [R.out]
    have f1 : ((q : Int) == q') = false := by simp; omega
    have f2 : ((q : Int) != q') = true := by simp; omega
    have f3 : ¬ (q : Int) = q' := by omega
    have f4 : ¬ q = q' := by omega
    clear h6
    as_aux_lemma =>
    go_enter Tryz.func28, Tryz.ntmps28
    go_wp2_with fail
    go_ret
    exact ⟨rfl, below_new (below_new (Below.refl _ _) _) _⟩
  subst h6
  by_cases h7 : r = r'
  rotate_left
  · have R : Hid (sameT (.mk k p m d n ns ss) (.mk k p m d n ns' ss') = false) := Lib.hid (sameT_no (fun e => by injection e with e1 e2 e3 e4 e5 e6 e7; exact h7 (by rw [← HR.out, ← HR'.out, e7])))
    rw [R.out]
    have f1 : ((r : Int) == r') = false := by simp; omega
    have f2 : ((r : Int) != r') = true := by simp; omega
    have f3 : ¬ (r : Int) = r' := by omega
    have f4 : ¬ r = r' := by omega
    clear h7
    as_aux_lemma =>
    go_enter Tryz.func28, Tryz.ntmps28
    go_wp2_with fail
    go_ret
    exact ⟨rfl, below_new (below_new (Below.refl _ _) _) _⟩
  subst h7
  go_enter Tryz.func28, Tryz.ntmps28
  go_wp2_with fail
  go_loopw [5] (fun i wr => ∃ j : Nat, j ≤ q ∧ i = .int .i64 j ∧ Hid (∀ x (s s' : ByteArray), x < j → ns[x]? = some s → ns'[x]? = some s' → s = s') ∧ Below (boxed (boxed w #[.int .i64 k, .string p, .int .i64 m, .string d, .string n, .slice An q cn, .slice As r cs]) #[.int .i64 k, .string p, .int .i64 m, .string d, .string n, .slice Bn q cn', .slice Bs r cs']).heap.size (boxed (boxed w #[.int .i64 k, .string p, .int .i64 m, .string d, .string n, .slice An q cn, .slice As r cs]) #[.int .i64 k, .string p, .int .i64 m, .string d, .string n, .slice Bn q cn', .slice Bs r cs']) wr) (fun i _ => q - (intOf i).toNat)
  case atStart => exact ⟨0, by omega, rfl, Lib.hid (fun x s s' h => by omega), Below.refl _ _⟩
  case round =>
    obtain ⟨j, hj, rfl, HP, hb⟩ := hrel
    obtain ⟨wo, rfl⟩ : ∃ wo : World, wo = wr := ⟨_, rfl⟩
    have HB1 := Lib.hid (box_below hb)
    have HB := Lib.hid (box_below HB1.out)
    have a5 := box_cell HB1.out 5
    have b5 := box_cell hb 5
    simp [boxed] at a5 b5
    by_cases hlt : j < q
    · obtain ⟨s, hs⟩ : ∃ s, ns[j]? = some s := ⟨_, List.getElem?_eq_getElem (by rw [HQ.out]; exact hlt)⟩
      obtain ⟨s', hs'⟩ : ∃ s, ns'[j]? = some s := ⟨_, List.getElem?_eq_getElem (by rw [HQ'.out]; exact hlt)⟩
      obtain ⟨g, o, rfl, -, a0, -⟩ := HNA.out.below HB.out j s hs
      obtain ⟨g', o', rfl, -, b0, -⟩ := HNB.out.below HB.out j s' hs'
      by_cases he : s = s'
      · subst he
        have HSS := Lib.hid hs
        have HSS' := Lib.hid hs'
        clear hs hs'
        go_wp2_with fail
        go_quiet (fail)
        go_wp2_with fail
        go_roundw
        case rel => exact ⟨j + 1, by omega, by go_num, Lib.hid (fun x y y' hx hy hy' => by
          rcases Nat.lt_or_ge x j with a | a
          · exact HP.out x y y' a hy hy'
          · rw [show x = j by omega] at hy hy'
            rw [HSS.out] at hy; rw [HSS'.out] at hy'
            rw [← Option.some.inj hy, ← Option.some.inj hy']), below_drewN hb nq⟩
        case measure => simp [intOf]; omega
      · have R : Hid (sameT (.mk k p m d n ns ss) (.mk k p m d n ns' ss') = false) := Lib.hid (sameT_no (fun e => by
          injection e with e1 e2 e3 e4 e5 e6 e7
          rw [e6, hs'] at hs
          exact he (Option.some.inj hs).symm))
        have f1 : (s.toList == s'.toList) = false := by
          rw [beq_eq_false_iff_ne, ne_eq, Lib.toList_data, Lib.toList_data, bytes_list]; exact he
        have f2 : (!(s.toList == s'.toList)) = true := by rw [f1]; rfl
        have f3 : ¬ s.toList = s'.toList := by simpa using f1
        clear he hs hs'
        go_wp2_with fail
        go_quiet (fail)
        go_wp2_with fail
        go_ret
        exact ⟨ret_bool R.out, below_drewN HB.out nq⟩
    · have hjq : j = q := by omega
      have NE : Hid (ns = ns') := Lib.hid (list_ext' (by rw [HQ.out, HQ'.out]) (fun x s s' h1 h2 => HP.out x s s' (by have := (List.getElem?_eq_some_iff.1 h1).1; rw [HQ.out] at this; omega) h1 h2))
      clear HP
      have HA6 := box_cell HB1.out 6
      have HB6 := box_cell hb 6
      simp [boxed] at HA6 HB6
      go_wp2_with fail
      go_loopw [6] (fun i wr => ∃ x : Nat, x ≤ r ∧ i = .int .i64 x ∧ Hid (∀ y (s s' : Ty), y < x → ss[y]? = some s → ss'[y]? = some s' → s = s') ∧ Below (boxed (boxed w #[.int .i64 k, .string p, .int .i64 m, .string d, .string n, .slice An q cn, .slice As r cs]) #[.int .i64 k, .string p, .int .i64 m, .string d, .string n, .slice Bn q cn', .slice Bs r cs']).heap.size (boxed (boxed w #[.int .i64 k, .string p, .int .i64 m, .string d, .string n, .slice An q cn, .slice As r cs]) #[.int .i64 k, .string p, .int .i64 m, .string d, .string n, .slice Bn q cn', .slice Bs r cs']) wr) (fun i _ => r - (intOf i).toNat)
      case atStart => exact ⟨0, by omega, rfl, Lib.hid (fun x s s' h => by omega), hb⟩
      case round =>
        obtain ⟨x, hx, rfl, HP2, hb2⟩ := hrel
        obtain ⟨wi, rfl⟩ : ∃ wi : World, wi = wr := ⟨_, rfl⟩
        have HI1 := Lib.hid (box_below hb2)
        have HI := Lib.hid (box_below HI1.out)
        have a6 := box_cell HI1.out 6
        have b6 := box_cell hb2 6
        simp [boxed] at a6 b6
        clear HA6 HB6 a5 b5
        by_cases hlt2 : x < r
        · obtain ⟨s, hs⟩ : ∃ s, ss[x]? = some s := ⟨_, List.getElem?_eq_getElem (by rw [HR.out]; exact hlt2)⟩
          obtain ⟨s', hs'⟩ : ∃ s, ss'[x]? = some s := ⟨_, List.getElem?_eq_getElem (by rw [HR'.out]; exact hlt2)⟩
          obtain ⟨g, o, v0, v1, v2, v3, v4, v5, v6, rfl, -, u0, u1, u2, u3, u4, u5, u6, us⟩ := HSA.out.below HI.out x s hs
          obtain ⟨g', o', z0, z1, z2, z3, z4, z5, z6, rfl, -, t0, t1, t2, t3, t4, t5, t6, ts⟩ := HSB.out.below HI.out x s' hs'
          have hsm := HSM.out x s hs
          have cP : ∀ dd os, Calls Tryz.prog 28 #[.agg #[v0, v1, v2, v3, v4, v5, v6], .agg #[z0, z1, z2, z3, z4, z5, z6]] (Sort.grow (redrawn wi dd) os) fun e w'' => e = .returned (.bool (sameT s s')) ∧ ∃ pp : Regrown, w'' = Sort.grow (redrawn wi pp.d) pp.os := fun dd os => Calls.regrown_of (ih s s' (by omega) _ _ _ ⟨_, rfl, us.keep (below_regrown wi dd os)⟩ ⟨_, rfl, ts.keep (below_regrown wi dd os)⟩)
          have p0 := cell_regrown u0; have p1 := cell_regrown u1; have p2 := cell_regrown u2; have p3 := cell_regrown u3; have p4 := cell_regrown u4; have p5 := cell_regrown u5; have p6 := cell_regrown u6
          have r0 := cell_regrown t0; have r1 := cell_regrown t1; have r2 := cell_regrown t2; have r3 := cell_regrown t3; have r4 := cell_regrown t4; have r5 := cell_regrown t5; have r6 := cell_regrown t6
          have x6 := cell_regrown a6; have y6 := cell_regrown b6
          have HSS := Lib.hid hs
          have HSS' := Lib.hid hs'
          clear hs hs' us ts hsm
          go_wp2_with fail
          refine wp_region_quiet_below (by kernel_rfl) (by kernel_rfl) ?_
          repeat (any_goals (first | go_big_quiet_step (with_reducible exact cP _ _) | quiet_step (with_reducible exact cP _ _)))
          refine wpQuiet_nil ?_
          intro _ hw'
          obtain ⟨⟨dq, osq⟩, hw''⟩ := hw'
          subst hw''
          have hb3 := below_over hb2 (below_regrown wi dq osq)
          clear p0 p1 p2 p3 p4 p5 p6 r0 r1 r2 r3 r4 r5 r6 x6 y6 u0 u1 u2 u3 u4 u5 u6 t0 t1 t2 t3 t4 t5 t6 cP a6 b6
          rcases hid_or (sameT s s') with hS | hS
          · have R : Hid (sameT (.mk k p m d n ns ss) (.mk k p m d n ns' ss') = false) := Lib.hid (sameT_no (fun e => by
              injection e with e1 e2 e3 e4 e5 e6 e7
              have hs := HSS.out
              rw [e7, HSS'.out] at hs
              have h := hS.out
              rw [Option.some.inj hs] at h
              rw [(sameT_iff s s).2 rfl] at h
              cases h))
            rw [hS.out]
            go_wp2_with fail
            go_ret
            exact ⟨ret_bool R.out, box_below (box_below hb3)⟩
          · have e := (sameT_iff s s').1 hS.out
            have HEQ := Lib.hid e
            clear e
            rw [hS.out]
            go_wp2_with fail
            go_roundw
            case rel => exact ⟨x + 1, by omega, by go_num, Lib.hid (fun y q1 q2 hy h1 h2 => by
              rcases Nat.lt_or_ge y x with a | a
              · exact HP2.out y q1 q2 a h1 h2
              · rw [show y = x by omega] at h1 h2
                rw [HSS.out] at h1; rw [HSS'.out] at h2
                rw [← Option.some.inj h1, ← Option.some.inj h2]
                exact HEQ.out), hb3⟩
            case measure => simp [intOf]; omega
        · have SE : Hid (ss = ss') := Lib.hid (list_ext' (by rw [HR.out, HR'.out]) (fun y s s' h1 h2 => HP2.out y s s' (by have := (List.getElem?_eq_some_iff.1 h1).1; rw [HR.out] at this; omega) h1 h2))
          have R : Hid (sameT (.mk k p m d n ns ss) (.mk k p m d n ns' ss') = true) := Lib.hid (by rw [sameT_iff, NE.out, SE.out])
          go_wp2_with fail
          go_ret
          exact ⟨ret_bool R.out, HI.out⟩

end Go.Proofs.YtapjhmfbmkckaaaGreatDoor

/- The reference's Same, of two modules that are one. -/
namespace Go.Proofs.YtapjhmfbmkckaaaGreatDoor
open Go.RowKit
open Go.Sort
open M

/-- An import's four cells, at its place. -/
theorem RowIn.im {w : World} {A : Option Addr} {xs : List Im} (h : RowIn imR w A xs) {i : Nat} {x : Im} (hx : xs[i]? = some x) : ∃ g o, A = some ⟨g, o, none⟩ ∧ g < w.heap.size ∧
    w.cell? ⟨g, o + i * 4, none⟩ = some (.string x.pkg) ∧ w.cell? ⟨g, o + i * 4 + 1, none⟩ = some (.int .i64 x.major) ∧ w.cell? ⟨g, o + i * 4 + 2, none⟩ = some (.string x.mod) ∧ w.cell? ⟨g, o + i * 4 + 3, none⟩ = some (.string x.asn) ∧
    x.pkg.size ≤ 9223372036854775807 ∧ x.mod.size ≤ 9223372036854775807 ∧ x.asn.size ≤ 9223372036854775807 := by
  obtain ⟨g, o, l, hA, hg, hc, rfl, z1, z2, z3⟩ := h i x hx
  exact ⟨g, o, hA, hg, hc 0 _ rfl, hc 1 _ rfl, hc 2 _ rfl, hc 3 _ rfl, z1, z2, z3⟩
/-- A declaration's nine cells, at its place. -/
theorem RowIn.de {w : World} {A : Option Addr} {xs : List De} (h : RowIn deR w A xs) {i : Nat} {x : De} (hx : xs[i]? = some x) : ∃ (g o : Nat) (v0 v1 v2 v3 v4 v5 v6 : Value), A = some ⟨g, o, none⟩ ∧ g < w.heap.size ∧
    w.cell? ⟨g, o + i * 9, none⟩ = some (.int .i64 x.kind) ∧ w.cell? ⟨g, o + i * 9 + 1, none⟩ = some (.string x.name) ∧ w.cell? ⟨g, o + i * 9 + 2, none⟩ = some v0 ∧ w.cell? ⟨g, o + i * 9 + 2 + 1, none⟩ = some v1 ∧ w.cell? ⟨g, o + i * 9 + 2 + 2, none⟩ = some v2 ∧
    w.cell? ⟨g, o + i * 9 + 2 + 3, none⟩ = some v3 ∧ w.cell? ⟨g, o + i * 9 + 2 + 4, none⟩ = some v4 ∧ w.cell? ⟨g, o + i * 9 + 2 + 5, none⟩ = some v5 ∧ w.cell? ⟨g, o + i * 9 + 2 + 6, none⟩ = some v6 ∧ TyAt w [v0, v1, v2, v3, v4, v5, v6] x.typ ∧ x.name.size ≤ 9223372036854775807 := by
  obtain ⟨g, o, l, hA, hg, hc, hs, l7, rfl, hT⟩ := h i x hx
  obtain ⟨v0, v1, v2, v3, v4, v5, v6, rfl⟩ := list7 l7 hT.len
  exact ⟨g, o, v0, v1, v2, v3, v4, v5, v6, hA, hg, hc 0 _ rfl, hc 1 _ rfl, hc 2 _ rfl, hc 3 _ rfl, hc 4 _ rfl, hc 5 _ rfl, hc 6 _ rfl, hc 7 _ rfl, hc 8 _ rfl, hT, hs⟩

set_option maxRecDepth 100000 in
set_option maxHeartbeats 8000000 in
theorem same6_any (m : Mo) (l l' : List Value) (w : World) (h : MoAt w l m) (h' : MoAt w l' m) : Calls Tryz.prog 20 #[.agg l.toArray, .agg l'.toArray] w fun e w' => e = .returned (.bool true) ∧ Below w.heap.size w w' := by
  obtain ⟨Ai, ci, Ad, cd, rfl, z1, z2, z3, hI, hD⟩ := h
  obtain ⟨Bi, di, Bd, dd, rfl, -, -, -, hI', hD'⟩ := h'
  obtain ⟨w0, hw0⟩ : ∃ w0, w0 = w.alloc (.cells #[.string m.name, .slice Ai m.imps.length ci, .slice Ad m.decs.length cd] 25) := ⟨_, rfl⟩
  have B0 : Below w.heap.size w w0 := by rw [hw0]; exact below_new (Below.refl _ _) _
  have O0 : w0.heap[w.heap.size]? = some (.cells #[.string m.name, .slice Ai m.imps.length ci, .slice Ad m.decs.length cd] 25 (0, 0)) := by rw [hw0]; exact heap_alloc_new w _
  have s0 : w0.heap.size = w.heap.size + 1 := by rw [hw0]; simp
  obtain ⟨w1, hw1⟩ : ∃ w1, w1 = w0.alloc (.cells #[.string m.name, .slice Bi m.imps.length di, .slice Bd m.decs.length dd] 25) := ⟨_, rfl⟩
  have B1 : Below w0.heap.size w0 w1 := by rw [hw1]; exact below_new (Below.refl _ _) _
  have P1 : w1.heap[w0.heap.size]? = some (.cells #[.string m.name, .slice Bi m.imps.length di, .slice Bd m.decs.length dd] 25 (0, 0)) := by rw [hw1]; exact heap_alloc_new w0 _
  have s1 : w1.heap.size = w0.heap.size + 1 := by rw [hw1]; simp
  have O1 := (B1.block w.heap.size (by omega)).trans O0
  rw [s0] at P1
  have HO := Lib.hid O1
  have HP := Lib.hid P1
  have B01 := below_over B0 B1
  have HB := Lib.hid B01
  have HI := Lib.hid (hI.below B01)
  have HI' := Lib.hid (hI'.below B01)
  have HD := Lib.hid (hD.below B01)
  have HD' := Lib.hid (hD'.below B01)
  have HW0 := Lib.hid hw0
  have HW1 := Lib.hid hw1
  have ho1 : w.heap.size < w1.heap.size := by omega
  have hp1 : w.heap.size + 1 < w1.heap.size := by omega
  have x0 := Lib.cell_of_heap O1 0
  have x1 := Lib.cell_of_heap O1 1
  have x2 := Lib.cell_of_heap O1 2
  have y0 := Lib.cell_of_heap P1 0
  have y1 := Lib.cell_of_heap P1 1
  have y2 := Lib.cell_of_heap P1 2
  simp at x0 x1 x2 y0 y1 y2
  obtain ⟨ni, hni⟩ : ∃ ni, ni = m.imps.length := ⟨_, rfl⟩
  obtain ⟨nd, hnd⟩ : ∃ nd, nd = m.decs.length := ⟨_, rfl⟩
  clear hI hD hI' hD' hw0 hw1 B0 O0 s0 B1 P1 s1 O1 B01
  rw [← hni] at z2 x1 y1 HW0 HW1 HO HP
  rw [← hnd] at z3 x2 y2 HW0 HW1 HO HP
  rw [← hni, ← hnd]
  have HNI := Lib.hid hni
  have HND := Lib.hid hnd
  clear hni hnd
  go_enter Tryz.func20, Tryz.ntmps20
  go_upto_region 1 with fail
  rw [← HW0.out, ← HW1.out]
  go_upto_region 4 with fail
  clear HW0 HW1
  go_loopw [5] (fun i wr => ∃ j : Nat, j ≤ ni ∧ i = .int .i64 j ∧ Below w1.heap.size w1 wr) (fun i _ => ni - (intOf i).toNat)
  case atStart => exact ⟨0, by omega, rfl, Below.refl _ _⟩
  case round =>
    obtain ⟨j, hj, rfl, hb⟩ := hrel
    obtain ⟨wo, rfl⟩ : ∃ wo : World, wo = wr := ⟨_, rfl⟩
    have O := (hb.block _ ho1).trans HO.out
    have P := (hb.block _ hp1).trans HP.out
    have x1 := Lib.cell_of_heap O 1
    have x2 := Lib.cell_of_heap O 2
    have y1 := Lib.cell_of_heap P 1
    have y2 := Lib.cell_of_heap P 2
    simp at x1 x2 y1 y2
    by_cases hlt : j < ni
    · obtain ⟨x, hx⟩ : ∃ x, m.imps[j]? = some x := ⟨_, List.getElem?_eq_getElem (by rw [← HNI.out]; exact hlt)⟩
      obtain ⟨g, o, rfl, -, a0, a1, a2, a3, -⟩ := (HI.out.below hb).im hx
      obtain ⟨g', o', rfl, -, b0, b1, b2, b3, -⟩ := (HI'.out.below hb).im hx
      clear hx O P x2 y2
      go_wp2_with fail
      go_quiet (fail)
      go_wp2_with fail
      go_roundw
      case rel => exact ⟨j + 1, by omega, by go_num, below_drewN hb nq⟩
      case measure => simp [intOf]; omega
    · clear O P
      go_wp2_with fail
      go_loopw [6] (fun i wr => ∃ j : Nat, j ≤ nd ∧ i = .int .i64 j ∧ Below w1.heap.size w1 wr) (fun i _ => nd - (intOf i).toNat)
      case atStart => exact ⟨0, by omega, rfl, hb⟩
      case round =>
        obtain ⟨k, hk, rfl, hb2⟩ := hrel
        obtain ⟨wi, rfl⟩ : ∃ wi : World, wi = wr := ⟨_, rfl⟩
        have O := (hb2.block _ ho1).trans HO.out
        have P := (hb2.block _ hp1).trans HP.out
        have x2 := Lib.cell_of_heap O 2
        have y2 := Lib.cell_of_heap P 2
        simp at x2 y2
        by_cases hlt2 : k < nd
        · obtain ⟨x, hx⟩ : ∃ x, m.decs[k]? = some x := ⟨_, List.getElem?_eq_getElem (by rw [← HND.out]; exact hlt2)⟩
          obtain ⟨g, o, v0, v1, v2, v3, v4, v5, v6, rfl, hg, a0, a1, u0, u1, u2, u3, u4, u5, u6, us, -⟩ := (HD.out.below hb2).de hx
          obtain ⟨g', o', q0, q1, q2, q3, q4, q5, q6, rfl, hg', b0, b1, t0, t1, t2, t3, t4, t5, t6, ts, -⟩ := (HD'.out.below hb2).de hx
          have cP : ∀ dd os, Calls Tryz.prog 28 #[.agg #[v0, v1, v2, v3, v4, v5, v6], .agg #[q0, q1, q2, q3, q4, q5, q6]] (Sort.grow (redrawn wi dd) os) fun e w'' => e = .returned (.bool true) ∧ ∃ pp : Regrown, w'' = Sort.grow (redrawn wi pp.d) pp.os := fun dd os => Calls.regrown_of (by
            have := same_any _ x.typ x.typ (Nat.le_refl _) (.agg #[v0, v1, v2, v3, v4, v5, v6]) (.agg #[q0, q1, q2, q3, q4, q5, q6]) _ ⟨_, rfl, us.keep (below_regrown wi dd os)⟩ ⟨_, rfl, ts.keep (below_regrown wi dd os)⟩
            rwa [(sameT_iff x.typ x.typ).2 rfl] at this)
          have p0 := cell_regrown u0; have p1 := cell_regrown u1; have p2 := cell_regrown u2; have p3 := cell_regrown u3; have p4 := cell_regrown u4; have p5 := cell_regrown u5; have p6 := cell_regrown u6
          have r0 := cell_regrown t0; have r1 := cell_regrown t1; have r2 := cell_regrown t2; have r3 := cell_regrown t3; have r4 := cell_regrown t4; have r5 := cell_regrown t5; have r6 := cell_regrown t6
          have xx := cell_regrown x2; have yy := cell_regrown y2
          have HA0 := Lib.hid a0
          have HA1 := Lib.hid a1
          have HC0 := Lib.hid b0
          have HC1 := Lib.hid b1
          have HO2 := Lib.hid O
          have HP2 := Lib.hid P
          clear hx us ts O P a0 a1 b0 b1
          go_wp2_with fail
          refine wp_region_quiet_below (by kernel_rfl) (by kernel_rfl) ?_
          repeat (any_goals (first | go_big_quiet_step (with_reducible exact cP _ _) | quiet_step (with_reducible exact cP _ _)))
          refine wpQuiet_nil ?_
          intro _ hw'
          obtain ⟨⟨dq, osq⟩, hw''⟩ := hw'
          subst hw''
          have hb3 := below_over hb2 (below_regrown wi dq osq)
          have hbr := below_regrown wi dq osq
          obtain ⟨w5, hw5⟩ : ∃ w5, w5 = Sort.grow (redrawn wi dq) osq := ⟨_, rfl⟩
          rw [← hw5] at hb3 hbr ⊢
          have hgo : w.heap.size < wi.heap.size := (Array.getElem?_eq_some_iff.1 HO2.out).1
          have hgp : w.heap.size + 1 < wi.heap.size := (Array.getElem?_eq_some_iff.1 HP2.out).1
          have a0 := (hbr.cell (p := ⟨g, _, none⟩) hg).trans HA0.out
          have a1 := (hbr.cell (p := ⟨g, _, none⟩) hg).trans HA1.out
          have b0 := (hbr.cell (p := ⟨g', _, none⟩) hg').trans HC0.out
          have b1 := (hbr.cell (p := ⟨g', _, none⟩) hg').trans HC1.out
          have x2 := Lib.cell_of_heap ((hbr.block _ hgo).trans HO2.out) 2
          have y2 := Lib.cell_of_heap ((hbr.block _ hgp).trans HP2.out) 2
          simp at x2 y2
          have HB3 := Lib.hid hb3
          clear p0 p1 p2 p3 p4 p5 p6 r0 r1 r2 r3 r4 r5 r6 xx yy u0 u1 u2 u3 u4 u5 u6 t0 t1 t2 t3 t4 t5 t6 cP hw5 hb3 hbr HO2 HP2 HA0 HA1 HC0 HC1
          go_upto_region 12 with fail
          go_quiet (fail)
          go_wp2_with fail
          go_roundw
          case rel => exact ⟨k + 1, by omega, by go_num, below_drewN HB3.out nq⟩
          case measure => simp [intOf]; omega
        · have FIN := Lib.hid (below_over HB.out hb2)
          clear O P
          go_wp2_with fail
          go_ret
          exact ⟨rfl, FIN.out⟩

end Go.Proofs.YtapjhmfbmkckaaaGreatDoor

/- The walk of the reference's Copy of modules. -/
namespace Go.Proofs.YtapjhmfbmkckaaaGreatDoor
open Go.RowKit
open Go.Sort
open M

/-- Imports in cells of their own. -/
theorem row_imps {w : World} {lo c : Nat} {A : Option Addr} {xs : List Im} (hown : w.ownsRow lo 55 4 (.slice A xs.length c) xs.length (xs.map imL).flatten)
    (hz : ∀ x ∈ xs, x.pkg.size ≤ 9223372036854775807 ∧ x.mod.size ≤ 9223372036854775807 ∧ x.asn.size ≤ 9223372036854775807) : Row imR lo xs A c w :=
  ⟨xs.map imL, by simp, hown, fun i l x hl hx => by
    rw [List.getElem?_map, hx] at hl
    simp at hl
    exact ⟨hl.symm, hz x (List.mem_of_getElem? hx)⟩⟩
theorem imps_flat (xs : List Im) : (xs.map imL).flatten.length = xs.length * 4 := by
  induction xs with
  | nil => rfl
  | cons x xs ih => simp only [List.map_cons, List.flatten_cons, List.length_append, ih, List.length_cons]; simp [imL]; omega

/-- What stands when the imports have been copied. -/
structure Cq1 (w : World) (m : Mo) (Ai : Option Addr) (ci : Nat) (Ad : Option Addr) (nd cd : Nat) (wr : World) : Prop where
  below : Below w.heap.size w wr
  box : Mx w.heap.size m.name Ai m.imps.length ci Ad nd cd wr
  res : Mx (w.heap.size + 1) ⟨#[]⟩ none 0 0 none 0 0 wr
  row : Row imR (w.heap.size + 2) m.imps Ai ci wr
/-- What has been copied so far. -/
structure Cq (w : World) (l2 : Nat) (m : Mo) (Ai : Option Addr) (ci : Nat) (xs : List De) (Ad : Option Addr) (cd : Nat) (wr : World) : Prop where
  below : Below w.heap.size w wr
  box : Mx w.heap.size m.name Ai m.imps.length ci Ad xs.length cd wr
  res : Mx (w.heap.size + 1) ⟨#[]⟩ none 0 0 none 0 0 wr
  ims : RowIn imR (strike (fun b => b < w.heap.size + 2 ∨ l2 ≤ b) wr) Ai m.imps
  rows : Row deR l2 xs Ad cd wr
  lole : l2 ≤ wr.heap.size
theorem Cq1.made {w w4 : World} {m : Mo} {A0 Ai Ad : Option Addr} {n0 c0 ci nd cd : Nat} (hb : Below w.heap.size w w4) (hbox : Mx w.heap.size m.name A0 n0 c0 Ad nd cd w4) (hres : Mx (w.heap.size + 1) ⟨#[]⟩ none 0 0 none 0 0 w4) (hrow : Row imR (w.heap.size + 2) m.imps Ai ci w4) :
    Cq1 w m Ai ci Ad nd cd (w4.setCell ⟨w.heap.size, 1, none⟩ (.slice Ai m.imps.length ci)) := by
  have ot : ∀ b, b ≠ w.heap.size → (w4.setCell ⟨w.heap.size, 1, none⟩ (.slice Ai m.imps.length ci)).heap[b]? = w4.heap[b]? := fun b h => Below.heap_setCell _ _ _ _ (by show b ≠ w.heap.size; exact h)
  refine ⟨hb.setCell (Nat.le_refl _) _, ?_, (ot _ (by omega)).trans hres, hrow.keep (by simp) (fun b h _ => ot b (by omega))⟩
  have := Joins.block_setCell (i := 1) hbox (.slice Ai m.imps.length ci)
  simpa [Mx] using this
theorem Cq1.empty (w : World) (m : Mo) (Ad : Option Addr) (nd cd : Nat) (h0 : m.imps = []) :
    Cq1 w m (some ⟨w.heap.size + 1 + 1, 0, none⟩) 0 Ad nd cd (((w.alloc (.cells #[.string m.name, .slice (some ⟨w.heap.size + 1 + 1, 0, none⟩) 0 0, .slice Ad nd cd] 25)).alloc (.cells #[.string ⟨#[]⟩, .slice none 0 0, .slice none 0 0] 25)).alloc (.cells #[] 55)) := by
  have e1 : (w.alloc (.cells #[.string m.name, .slice (some ⟨w.heap.size + 1 + 1, 0, none⟩) 0 0, .slice Ad nd cd] 25)).heap.size = w.heap.size + 1 := by simp
  have e2 : ((w.alloc (.cells #[.string m.name, .slice (some ⟨w.heap.size + 1 + 1, 0, none⟩) 0 0, .slice Ad nd cd] 25)).alloc (.cells #[.string ⟨#[]⟩, .slice none 0 0, .slice none 0 0] 25)).heap.size = w.heap.size + 1 + 1 := by simp
  have hl : m.imps.length = 0 := by rw [h0]; rfl
  refine ⟨below_new (below_new (below_new (Below.refl _ _) _) _) _, ?_, ?_, row_imps ?_ (by rw [h0]; intro x hx; cases hx)⟩
  · unfold Mx
    rw [hl, Lib.alloc_old _ _ _ (by rw [e2]; omega), Lib.alloc_old _ _ _ (by rw [e1]; omega)]; exact heap_alloc_new w _
  · unfold Mx
    rw [Lib.alloc_old _ _ _ (by rw [e2]; omega)]
    have := heap_alloc_new (w.alloc (.cells #[.string m.name, .slice (some ⟨w.heap.size + 1 + 1, 0, none⟩) 0 0, .slice Ad nd cd] 25)) (.cells #[.string ⟨#[]⟩, .slice none 0 0, .slice none 0 0] 25)
    rw [e1] at this
    exact this
  · have := World.ownsRow_lit (base := w.heap.size + 2) (e := 55) (size := 4) ((w.alloc (.cells #[.string m.name, .slice (some ⟨w.heap.size + 1 + 1, 0, none⟩) 0 0, .slice Ad nd cd] 25)).alloc (.cells #[.string ⟨#[]⟩, .slice none 0 0, .slice none 0 0] 25)) #[] 0 (by rw [e2]; omega) (by decide) rfl
    rw [e2] at this
    rw [h0]
    exact this
theorem Cq1.start {w wr : World} {m : Mo} {Ai Ad : Option Addr} {ci nd cd : Nat} (h : Cq1 w m Ai ci Ad nd cd wr) : Cq w wr.heap.size m Ai ci [] none 0 (wr.setCell ⟨w.heap.size, 2, none⟩ (.slice none 0 0)) := by
  have ot : ∀ b, b ≠ w.heap.size → (wr.setCell ⟨w.heap.size, 2, none⟩ (.slice none 0 0)).heap[b]? = wr.heap[b]? := fun b h => Below.heap_setCell _ _ _ _ (by show b ≠ w.heap.size; exact h)
  refine ⟨h.below.setCell (Nat.le_refl _) _, ?_, (ot _ (by omega)).trans h.res, (h.row.done (Nat.le_refl _)).move (by simp) (fun b hb hS => ⟨by omega, ot b (by omega)⟩), Row.start _ _ _, by simp⟩
  have := Joins.block_setCell (i := 2) h.box (.slice none 0 0)
  simpa [Mx] using this

theorem Cq1.start' {w wr : World} {m : Mo} {Ai Ad : Option Addr} {ci nd cd : Nat} (h : Cq1 w m Ai ci Ad nd cd wr) : ∃ l2, w.heap.size + 2 ≤ l2 ∧ Hid (Cq w l2 m Ai ci [] none 0 (wr.setCell ⟨w.heap.size, 2, none⟩ (.slice none 0 0))) :=
  ⟨_, (Array.getElem?_eq_some_iff.1 h.res).1, Lib.hid h.start⟩
theorem own_slice {w : World} {base : Nat} {e : TypeId} {z : Nat} {v : Value} {n : Nat} {xs : List Value} (h : w.ownsRow base e z v n xs) : ∃ A c, v = .slice A n c := by
  rcases h.2 with ⟨rfl, h0⟩ | ⟨g, cap, cur, rfl, -⟩
  · exact ⟨none, 0, by rw [h0]⟩
  · exact ⟨_, _, rfl⟩
theorem below_cells7 {w a : World} {n : Nat} (h : Below n w a) {l : List Value} (hl : l.length = 7) {g : Nat} (hg : n ≤ g) : Below n w (a.setCells g 2 l) := by
  obtain ⟨v0, v1, v2, v3, v4, v5, v6, rfl⟩ := list7 l hl
  rw [setCells7]
  exact ((((((h.setCell hg _).setCell hg _).setCell hg _).setCell hg _).setCell hg _).setCell hg _).setCell hg _
/-- A world that has what lay. -/
theorem Cq.keep {w wo wa : World} {l2 : Nat} {m : Mo} {Ai : Option Addr} {ci : Nat} {xs : List De} {Ad : Option Addr} {cd : Nat} (h : Cq w l2 m Ai ci xs Ad cd wo) (hb : Below wo.heap.size wo wa) : Cq w l2 m Ai ci xs Ad cd wa := by
  have h0 := (Array.getElem?_eq_some_iff.1 h.box).1
  have h1 := (Array.getElem?_eq_some_iff.1 h.res).1
  exact ⟨below_over h.below hb, (hb.block _ h0).trans h.box, (hb.block _ h1).trans h.res, h.ims.move hb.size (fun b hlt hS => ⟨hS, hb.block b hlt⟩), h.rows.keep hb.size (fun b _ hlt => hb.block b hlt), Nat.le_trans h.lole hb.size⟩

set_option maxRecDepth 100000 in
set_option maxHeartbeats 8000000 in
theorem copy6_any (m : Mo) (l : List Value) (w : World) (h : MoAt w l m) (hI : m.imps.length ≤ 100000) (hN : m.decs.length ≤ 100000) (hM : ∀ d ∈ m.decs, many d.typ ≤ 9000 ∧ shortT d.typ) :
    Calls Tryz.prog 19 #[.agg l.toArray] w fun e w' => ∃ l' : List Value, e = .returned (.agg l'.toArray) ∧ MoAt w' l' m ∧ Below w.heap.size w w' := by
  obtain ⟨An, cn, Ad, cd, rfl, z1, z2, z3, hIm, hDe⟩ := h
  have HZ : Hid (∀ x ∈ m.imps, x.pkg.size ≤ 9223372036854775807 ∧ x.mod.size ≤ 9223372036854775807 ∧ x.asn.size ≤ 9223372036854775807) := Lib.hid (fun x hx => by
    obtain ⟨i, hi⟩ := List.getElem?_of_mem hx
    obtain ⟨g, o, l, -, -, -, hE⟩ := hIm i x hi
    exact hE.2)
  obtain ⟨W3, hW3⟩ : ∃ W3, W3 = ((w.alloc (.cells #[.string m.name, .slice An m.imps.length cn, .slice Ad m.decs.length cd] 25)).alloc (.cells #[.string ⟨#[]⟩, .slice none 0 0, .slice none 0 0] 25)).alloc (.cells #[] 55) := ⟨_, rfl⟩
  have e1 : (w.alloc (.cells #[.string m.name, .slice An m.imps.length cn, .slice Ad m.decs.length cd] 25)).heap.size = w.heap.size + 1 := by simp
  have e2 : ((w.alloc (.cells #[.string m.name, .slice An m.imps.length cn, .slice Ad m.decs.length cd] 25)).alloc (.cells #[.string ⟨#[]⟩, .slice none 0 0, .slice none 0 0] 25)).heap.size = w.heap.size + 1 + 1 := by simp
  have B3 : Hid (Below w.heap.size w W3) := Lib.hid (by rw [hW3]; exact below_new (below_new (below_new (Below.refl _ _) _) _) _)
  have X3 : Hid (Mx w.heap.size m.name An m.imps.length cn Ad m.decs.length cd W3) := Lib.hid (by
    show W3.heap[w.heap.size]? = _
    rw [hW3, Lib.alloc_old _ _ _ (by rw [e2]; omega), Lib.alloc_old _ _ _ (by rw [e1]; omega)]; exact heap_alloc_new w _)
  have R3 : Hid (Mx (w.heap.size + 1) ⟨#[]⟩ none 0 0 none 0 0 W3) := Lib.hid (by
    show W3.heap[w.heap.size + 1]? = _
    rw [hW3, Lib.alloc_old _ _ _ (by rw [e2]; omega), ← e1]; exact heap_alloc_new _ _)
  have O3 : Hid (W3.ownsRow (w.heap.size + 2) 55 4 (.slice (some ⟨w.heap.size + 1 + 1, 0, none⟩) 0 0) 0 []) := Lib.hid (by
    rw [hW3]
    have := World.ownsRow_lit (base := w.heap.size + 2) (e := 55) (size := 4) ((w.alloc (.cells #[.string m.name, .slice An m.imps.length cn, .slice Ad m.decs.length cd] 25)).alloc (.cells #[.string ⟨#[]⟩, .slice none 0 0, .slice none 0 0] 25)) #[] 0 (by rw [e2]; omega) (by decide) rfl
    rw [e2] at this
    exact this)
  have s3 : w.heap.size + 2 ≤ W3.heap.size := by rw [hW3]; simp
  have HIM := Lib.hid (hIm.below B3.out)
  have HDE := Lib.hid hDe
  have HB3 := B3
  have HW3 := Lib.hid hW3
  have HM := Lib.hid hM
  clear hW3 hIm hDe e1 e2 hM
  obtain ⟨nd, hnd⟩ : ∃ nd, nd = m.decs.length := ⟨_, rfl⟩
  rw [← hnd] at HW3 X3 hN z3
  have HND := Lib.hid hnd
  rw [← hnd]
  clear hnd
  obtain ⟨i0, hi, hz0, hz1, hz2⟩ := info_parts imp_info
  go_enter Tryz.func19, Tryz.ntmps19
  go_upto_region 1 with fail
  go_cut [9] (fun s9 wx => ∃ (Ai : Option Addr) (ci : Nat), Cq1 w m Ai ci Ad nd cd wx)
  case first =>
    cases An with
    | none =>
      have hn0 : m.imps = [] := by
        cases hm : m.imps with
        | nil => rfl
        | cons x r =>
          obtain ⟨g, o, l, e, -⟩ := HIM.out 0 x (by rw [hm]; rfl)
          cases e
      have MADE := Lib.hid (Cq1.empty w m Ad nd cd hn0)
      have hlen0 : m.imps.length = 0 := by rw [hn0]; rfl
      clear hn0
      go_wp2_with fail
      go_meet
      exact ⟨_, _, MADE.out⟩
    | some ad =>
      have own0 := O3.out
      have hnews : ∀ j u, (m.imps.map imL).flatten[j]? = some u → W3.cell? (ad.add j) = some u := by
        intro j u hj
        have hlt := (List.getElem?_eq_some_iff.1 hj).1
        rw [imps_flat] at hlt
        have hx : m.imps[j / 4]? = some m.imps[j / 4] := List.getElem?_eq_getElem (by omega)
        obtain ⟨g, o, l, e, hg, hc, hE⟩ := HIM.out _ _ hx
        obtain rfl := Option.some.inj e
        rw [WideShapes.add_plain]
        have hl : (m.imps.map imL)[j / 4]? = some (imL m.imps[j / 4]) := by rw [List.getElem?_map, hx]; rfl
        have hf := flatk_at (k := 4) (m.imps.map imL) (fun l hl => by obtain ⟨x, -, rfl⟩ := List.mem_map.1 hl; rfl) (j / 4) (j % 4) _ hl (by omega)
        rw [show j / 4 * 4 + j % 4 = j by omega, hj] at hf
        have := hc (j % 4) u (by rw [hE.1]; exact hf.symm)
        rw [show o + j / 4 * imR.k + j % 4 = o + j by show o + j / 4 * 4 + j % 4 = o + j; omega] at this
        exact this
      have hone : ∀ u ∈ (m.imps.map imL).flatten, u.oneCell' = true := by
        intro u hu
        obtain ⟨l, hl, hu⟩ := List.mem_flatten.1 hu
        obtain ⟨x, -, rfl⟩ := List.mem_map.1 hl
        simp [imL] at hu
        rcases hu with rfl | rfl | rfl | rfl <;> rfl
      have hbase := s3
      rw [HW3.out] at own0 hnews hbase
      have hfl := imps_flat m.imps
      go_wp2_with (at_builtin; refine wpList_append_own_at _ rfl _ _ 22 rfl (w.heap.size + 2) 55 i0 _ 4 56 Tryz.underlying22 hi hz0 hz1 hz2 rfl (by decide) _ 0 [] rfl own0 ad m.imps.length cn (m.imps.map imL).flatten rfl ?c0 hnews hone ?c3 ?c4 hbase ?_)
      case c0 => exact hfl
      case c3 => unfold maxLen; omega
      case c4 => omega
      intro v5 w4 hown hgrow _ hat
      rw [← HW3.out] at hgrow
      have hown2 : w4.ownsRow (w.heap.size + 2) 55 4 v5 m.imps.length (m.imps.map imL).flatten := by first | exact hown | simpa using hown
      clear hown
      obtain ⟨A5, c5, rfl⟩ := own_slice hown2
      have b4 : Mx w.heap.size m.name (some ad) m.imps.length cn Ad nd cd w4 := (hgrow.block w.heap.size (by omega) (by simp [Value.ownBlock]; omega)).trans X3.out
      have r4 : Mx (w.heap.size + 1) ⟨#[]⟩ none 0 0 none 0 0 w4 := (hgrow.block (w.heap.size + 1) (by omega) (by simp [Value.ownBlock])).trans R3.out
      have B4 : Below w.heap.size w w4 := B3.out.trans ⟨hgrow.os, hgrow.tape, hgrow.output, hgrow.size, fun b hb => hgrow.block b (by omega) (by simp [Value.ownBlock]; omega)⟩
      have MD := Lib.hid (Cq1.made B4 b4 r4 (row_imps hown2 HZ.out))
      have x1 := Lib.cell_of_heap b4 1
      have f1 := Lib.frozen_of_heap b4 1
      simp at x1
      clear hgrow hown2 hat b4 r4 B4 hnews hbase own0
      go_wp2_with fail
      go_meet
      exact ⟨_, _, MD.out⟩
  case rest =>
    obtain ⟨Ai, ci, h1⟩ := hcut
    have x2 := Lib.cell_of_heap h1.box 2
    have f2 := Lib.frozen_of_heap h1.box 2
    simp at x2
    obtain ⟨l2, hl2, START⟩ := h1.start'
    clear h1 B3 X3 R3 O3 HW3 HIM
    go_wp2_with fail
    clear x2 f2
    go_loopw [4] (fun iv wr => ∃ (xs : List De) (A6 : Option Addr) (c6 : Nat), xs.length ≤ nd ∧ iv = .int .i64 xs.length ∧ Hid (xs = m.decs.take xs.length) ∧ Hid (Cq w l2 m Ai ci xs A6 c6 wr)) (fun iv _ => nd - (intOf iv).toNat)
    case atStart => exact ⟨[], none, 0, by simp, rfl, Lib.hid rfl, START⟩
    case round =>
      obtain ⟨xs, A6, c6, hj, rfl, HXS, HC⟩ := hrel
      obtain ⟨wo, rfl⟩ : ∃ wo : World, wo = wr := ⟨_, rfl⟩
      have hkl : w.heap.size + 1 < wo.heap.size := (Array.getElem?_eq_some_iff.1 HC.out.res).1
      clear START
      by_cases hlt : xs.length < nd
      · obtain ⟨x, hx⟩ : ∃ x, m.decs[xs.length]? = some x := ⟨_, List.getElem?_eq_getElem (by rw [← HND.out]; exact hlt)⟩
        obtain ⟨g, o, v0, v1, v2, v3, v4, v5, v6, rfl, hg, a0, a1, u0, u1, u2, u3, u4, u5, u6, us, zs⟩ := RowIn.de (HDE.out.below HC.out.below) hx
        obtain ⟨Bn, cB, Bs, dB, ev, -⟩ := us.parts
        simp only [List.cons.injEq, and_true] at ev
        obtain ⟨rfl, rfl, rfl, rfl, rfl, rfl, rfl⟩ := ev
        obtain ⟨w8, hw8⟩ : ∃ w8, w8 = wo.alloc (.cells #[.int .i64 x.kind, .string x.name, .int .i64 x.typ.kind, .string x.typ.pkg, .int .i64 x.typ.major, .string x.typ.mod, .string x.typ.name, .slice Bn x.typ.names.length cB, .slice Bs x.typ.subs.length dB] 45) := ⟨_, rfl⟩
        have B8 : Below wo.heap.size wo w8 := by rw [hw8]; exact below_new (Below.refl _ _) _
        have Y8 : Dx wo.heap.size x.kind x.name [.int .i64 x.typ.kind, .string x.typ.pkg, .int .i64 x.typ.major, .string x.typ.mod, .string x.typ.name, .slice Bn x.typ.names.length cB, .slice Bs x.typ.subs.length dB] w8 := by rw [hw8]; exact heap_alloc_new wo _
        have s8 : w8.heap.size = wo.heap.size + 1 := by rw [hw8]; simp
        have CPY := Lib.hid (copy_any _ x.typ (Nat.le_refl _) (HM.out x (List.mem_of_getElem? hx)).1 (HM.out x (List.mem_of_getElem? hx)).2 (.agg #[.int .i64 x.typ.kind, .string x.typ.pkg, .int .i64 x.typ.major, .string x.typ.mod, .string x.typ.name, .slice Bn x.typ.names.length cB, .slice Bs x.typ.subs.length dB]) w8 (TyV.below ⟨_, rfl, us⟩ B8))
        have HU : Hid (w8.cell? ⟨g, o + xs.length * 9 + 2, none⟩ = some (.int .i64 x.typ.kind) ∧ w8.cell? ⟨g, o + xs.length * 9 + 2 + 1, none⟩ = some (.string x.typ.pkg) ∧ w8.cell? ⟨g, o + xs.length * 9 + 2 + 2, none⟩ = some (.int .i64 x.typ.major) ∧ w8.cell? ⟨g, o + xs.length * 9 + 2 + 3, none⟩ = some (.string x.typ.mod) ∧ w8.cell? ⟨g, o + xs.length * 9 + 2 + 4, none⟩ = some (.string x.typ.name) ∧ w8.cell? ⟨g, o + xs.length * 9 + 2 + 5, none⟩ = some (.slice Bn x.typ.names.length cB) ∧ w8.cell? ⟨g, o + xs.length * 9 + 2 + 6, none⟩ = some (.slice Bs x.typ.subs.length dB)) := Lib.hid
          ⟨(B8.cell (p := ⟨g, _, none⟩) hg).trans u0, (B8.cell (p := ⟨g, _, none⟩) hg).trans u1, (B8.cell (p := ⟨g, _, none⟩) hg).trans u2, (B8.cell (p := ⟨g, _, none⟩) hg).trans u3, (B8.cell (p := ⟨g, _, none⟩) hg).trans u4, (B8.cell (p := ⟨g, _, none⟩) hg).trans u5, (B8.cell (p := ⟨g, _, none⟩) hg).trans u6⟩
        have HY8 := Lib.hid Y8
        have HB8 := Lib.hid B8
        have HW8 := Lib.hid hw8
        have HX := Lib.hid hx
        clear hx us B8 Y8 hw8
        go_upto_region 8 with fail
        rw [← HW8.out]
        clear a0 a1 u0 u1 u2 u3 u4 u5 u6
        obtain ⟨u0, u1, u2, u3, u4, u5, u6⟩ := HU.out
        go_wp2_with fail
        refine CPY.out.mono ?_; rintro e w9 ⟨l1, rfl, hT9, hb9⟩
        obtain ⟨Cn, cC, Cs, dC, rfl, -⟩ := hT9.parts
        have hs9 := hb9.size
        have Y9 : Dx wo.heap.size x.kind x.name [.int .i64 x.typ.kind, .string x.typ.pkg, .int .i64 x.typ.major, .string x.typ.mod, .string x.typ.name, .slice Bn x.typ.names.length cB, .slice Bs x.typ.subs.length dB] w9 := (hb9.block _ (by omega)).trans HY8.out
        obtain ⟨wa, hwa⟩ : ∃ wa, wa = w9.setCells wo.heap.size 2 [.int .i64 x.typ.kind, .string x.typ.pkg, .int .i64 x.typ.major, .string x.typ.mod, .string x.typ.name, .slice Cn x.typ.names.length cC, .slice Cs x.typ.subs.length dC] := ⟨_, rfl⟩
        have Ya : Dx wo.heap.size x.kind x.name [.int .i64 x.typ.kind, .string x.typ.pkg, .int .i64 x.typ.major, .string x.typ.mod, .string x.typ.name, .slice Cn x.typ.names.length cC, .slice Cs x.typ.subs.length dC] wa := by rw [hwa]; exact Y9.put
        have oa : ∀ b, b ≠ wo.heap.size → wa.heap[b]? = w9.heap[b]? := fun b hb => by rw [hwa]; exact setCells7_other rfl hb
        have sa : wa.heap.size = w9.heap.size := by rw [hwa]; exact setCells7_size rfl
        have Ba : Below wo.heap.size wo wa := by rw [hwa]; exact below_cells7 (below_over HB8.out hb9) rfl (Nat.le_refl _)
        have Ca := Lib.hid (HC.out.keep Ba)
        have Ta : Hid (TyAt (strike (· < wo.heap.size + 1) wa) [.int .i64 x.typ.kind, .string x.typ.pkg, .int .i64 x.typ.major, .string x.typ.mod, .string x.typ.name, .slice Cn x.typ.names.length cC, .slice Cs x.typ.subs.length dC] x.typ) := Lib.hid (hT9.move (by omega) fun b hb hS => ⟨by omega, oa b (by omega)⟩)
        have TH := Y9.there
        have HWA := Lib.hid hwa
        have HYa := Lib.hid Ya
        have hsa : wo.heap.size + 1 ≤ wa.heap.size := by omega
        clear hwa Y9 Ya oa sa Ba hT9 hb9 CPY HY8 HB8 HW8 HU u0 u1 u2 u3 u4 u5 u6 hs9 s8
        go_upto_region 9 with (first | ((with_reducible refine wpList_putMid 29 wo.heap.size 2 #[.int .i64 x.typ.kind, .string x.typ.pkg, .int .i64 x.typ.major, .string x.typ.mod, .string x.typ.name, .slice Cn x.typ.names.length cC, .slice Cs x.typ.subs.length dC] ?_ ?_ ?_ ?_ ?_ ?_); exact TH; exact tySize; exact tyOne; rfl; rfl))
        rw [← HWA.out]
        clear TH HWA
        have Ya := HYa.out
        have x0 := Lib.cell_of_heap Ya 0
        have x1 := Lib.cell_of_heap Ya 1
        have x2 := Lib.cell_of_heap Ya 2
        have x3 := Lib.cell_of_heap Ya 3
        have x4 := Lib.cell_of_heap Ya 4
        have x5 := Lib.cell_of_heap Ya 5
        have x6 := Lib.cell_of_heap Ya 6
        have x7 := Lib.cell_of_heap Ya 7
        have x8 := Lib.cell_of_heap Ya 8
        simp at x0 x1 x2 x3 x4 x5 x6 x7 x8
        have y2 := Lib.cell_of_heap Ca.out.box 2
        simp at y2
        obtain ⟨C, hC1, hown, hC4⟩ := Ca.out.rows.cells
        obtain ⟨inf, hi1', hy0, hy1, hy2⟩ := info_parts dec_info
        have hMX : xs.length + 1 ≤ maxLen := by unfold maxLen; omega
        have hwo : ∀ b, (Value.slice A6 xs.length c6).ownBlock = some b → b < wo.heap.size + 1 := fun b e => by have := (HC.out.rows.lt e).2; omega
        have hl2' := HC.out.lole
        have hAL : ∀ oo, l2 ≤ (wa.alloc oo).heap.size := fun oo => by have e1 : (wa.alloc oo).heap.size = wa.heap.size + 1 := (by simp); omega
        clear Ya
        go_wp2_with (first | (refine wpList_append_lies _ rfl (.tmp 32) (.tmp 34) 23 rfl l2 45 inf _ 9 136 Tryz.underlying23 hi1' hy0 hy1 hy2 (by rfl) (Nat.zero_lt_succ 8) (.slice A6 xs.length c6) xs.length _ rfl (hown.alloc _) ⟨wa.heap.size, 0, none⟩ 1 1 [.int .i64 x.kind, .string x.name, .int .i64 x.typ.kind, .string x.typ.pkg, .int .i64 x.typ.major, .string x.typ.mod, .string x.typ.name, .slice Cn x.typ.names.length cC, .slice Cs x.typ.subs.length dC] rfl rfl (fun q u hq => by rw [WideShapes.add_plain, Nat.zero_add, Lib.cell_of_heap (heap_alloc_new wa _), ← hq, ← List.getElem?_toArray]) (fun u hu => by simp at hu; rcases hu with rfl | rfl | rfl | rfl | rfl | rfl | rfl | rfl | rfl <;> rfl) Nat.one_pos hMX (by omega) (hAL _) _ rfl ?_; intro gb cap w5 hown5 hgrow hat hlt5; obtain ⟨ROW9, Y9, old9, bel9, z9, e9, hs9⟩ := row_more (R := deR) (x := x) (k := 2) Ca.out.rows (B := wo.heap.size + 1) (by omega) hsa hwo hC1 hC4 ⟨zs, _, rfl, Ta.out⟩ hown5 hgrow hat (by omega) Ca.out.box rfl; clear hown5 hgrow hat hlt5))
        have hlen9 : (xs ++ [x]).length = xs.length + 1 := by simp
        have INV9 : Hid (Cq w l2 m Ai ci (xs ++ [x]) (some ⟨gb, 0, none⟩) cap (w5.setCell ⟨w.heap.size, 2, none⟩ (.slice (some ⟨gb, 0, none⟩) (xs.length + 1) cap))) := Lib.hid
          ⟨Ca.out.below.trans (bel9 _ (Nat.le_refl _)), by rw [hlen9]; exact Y9, (old9 _ (by omega) (by omega)).trans Ca.out.res, Ca.out.ims.move hs9 (fun b hb hS => ⟨hS, old9 b (by omega) (by omega)⟩), ROW9, by have := Ca.out.lole; omega⟩
        have XS9 : Hid (xs ++ [x] = m.decs.take (xs ++ [x]).length) := Lib.hid (by rw [hlen9, List.take_add_one, HX.out, ← HXS.out]; rfl)
        clear ROW9 Y9 old9 bel9 z9 e9 hs9 hC1 hown hC4 hi1' hy0 hy1 hy2 hMX hwo hAL
        go_wp2_with fail
        go_roundw
        case rel => exact ⟨xs ++ [x], some ⟨gb, 0, none⟩, cap, by omega, by rw [hlen9]; go_num, XS9, INV9⟩
        case measure => simp [intOf]; omega
      · have hxs : xs = m.decs := by
          have h := HXS.out
          rw [h, List.take_of_length_le (by rw [← HND.out]; omega)]
        obtain ⟨R, hR⟩ : ∃ R, R = m.decs := ⟨_, rfl⟩
        have y0 := Lib.cell_of_heap HC.out.box 0
        have y1 := Lib.cell_of_heap HC.out.box 1
        have y2 := Lib.cell_of_heap HC.out.box 2
        simp at y0 y1 y2
        have X9 : wo.heap[w.heap.size + 1]? = some (.cells #[.string ⟨#[]⟩, .slice none 0 0, .slice none 0 0] 25 (0, 0)) := HC.out.res
        have mv : ∀ b, b ≠ w.heap.size + 1 → (wo.setRow (w.heap.size + 1) #[.string m.name, .slice Ai m.imps.length ci, .slice A6 xs.length c6]).heap[b]? = wo.heap[b]? := fun b hb => setRow_other wo (w.heap.size + 1) b _ hb
        have FIN : Hid (MoAt (wo.setRow (w.heap.size + 1) #[.string m.name, .slice Ai m.imps.length ci, .slice A6 xs.length c6]) [.string m.name, .slice Ai m.imps.length ci, .slice A6 xs.length c6] m) := Lib.hid
          ⟨Ai, ci, A6, c6, by rw [← hxs], z1, by omega, by rw [← hxs]; omega,
            (HC.out.ims.move (S' := fun b => b < w.heap.size + 2) (by simp) fun b hb hS => ⟨fun e => hS (.inl e), mv b (fun e => hS (.inl (by omega)))⟩).free,
            by rw [← hxs]; exact ((HC.out.rows.done (Nat.le_refl _)).move (S' := fun b => b < l2) (by simp) fun b hb hS => ⟨hS, mv b (by omega)⟩).free⟩
        have FB : Hid (Below w.heap.size w (wo.setRow (w.heap.size + 1) #[.string m.name, .slice Ai m.imps.length ci, .slice A6 xs.length c6])) := Lib.hid (setRow_below HC.out.below (by omega) _)
        have HX9 := Lib.hid X9
        clear mv HC hxs
        go_upto_region 10 with fail
        go_wp2_with (first | ((with_reducible refine wpList_putRow 25 (w.heap.size + 1) #[.string m.name, .slice Ai m.imps.length ci, .slice A6 xs.length c6] _ _ X9 ?_ ?_ ?_ ?_ ?_ ?_); exact modSize; rfl; exact modOne; (focus (first | (go_simp; done) | rfl)); (focus (first | (go_simp; done) | rfl))))
        exact ret_agg1 (fn := Tryz.f19) (vs := [.string m.name, .slice Ai m.imps.length ci, .slice A6 xs.length c6]) (b := w.heap.size + 1) rfl rfl Tryz.underlying25 (by kernel_rfl) (cell3 (setRow_heap _ (w.heap.size + 1) _ _ _ _ HX9.out)) rfl ⟨_, rfl, FIN.out, FB.out⟩

end Go.Proofs.YtapjhmfbmkckaaaGreatDoor

/- Walks of the reference's gone-through types: how many, how deep, plain. -/
namespace Go.Proofs.YtapjhmfbmkckaaaGreatDoor
open Go.RowKit
open M

set_option maxHeartbeats 2000000 in
theorem many_any (N : Nat) : ∀ (t : Ty), many t ≤ N → many t ≤ 9000 → ∀ (v : Value) (w : World), TyV w v t →
    Calls Tryz.prog 56 #[v] w fun e w' => e = .returned (.int .i64 (many t : Nat)) ∧ Below w.heap.size w w' := by
  induction N with
  | zero => intro t h; have := many_pos t; omega
  | succ N ih =>
    intro t hN hM v w hv
    obtain ⟨l, rfl, hT⟩ := hv
    obtain ⟨An, cn, As, cs, rfl, -, -, -, -, hz, -, hS⟩ := hT.parts
    have HS := Lib.hid hS
    have HE := Lib.hid (manyL_eq t)
    have HL := manyL_len t.subs
    have hM' : manyL t.subs ≤ 9000 := by have := HE.out; omega
    clear hT hS
    generalize hn : t.subs.length = n at hz HL
    have HN := Lib.hid hn
    clear hn
    go_enter Tryz.func56, Tryz.ntmps56
    go_wp2_with fail
    go_loopw [3, 4] (fun m i wr => ∃ k : Nat, k ≤ n ∧ i = .int .i64 k ∧ m = .int .i64 ((1 + manyL (t.subs.take k) : Nat) : Int) ∧ Below (boxed w #[.int .i64 t.kind, .string t.pkg, .int .i64 t.major, .string t.mod, .string t.name, .slice An t.names.length cn, .slice As n cs]).heap.size (boxed w #[.int .i64 t.kind, .string t.pkg, .int .i64 t.major, .string t.mod, .string t.name, .slice An t.names.length cn, .slice As n cs]) wr) (fun _ i _ => n - (intOf i).toNat)
    case atStart => exact ⟨0, by omega, rfl, by simp [manyL], Below.refl _ _⟩
    case round =>
      obtain ⟨k, hk, rfl, rfl, hb⟩ := hrel
      obtain ⟨wo, rfl⟩ : ∃ wo : World, wo = wr := ⟨_, rfl⟩
      have b6 := box_cell hb 6
      simp at b6
      have HB := Lib.hid (box_below hb)
      have htk := manyL_take_le t.subs k
      by_cases hlt : k < n
      · obtain ⟨s, hs⟩ : ∃ s, t.subs[k]? = some s := ⟨_, List.getElem?_eq_getElem (by rw [HN.out]; exact hlt)⟩
        obtain ⟨g, o, v0, v1, v2, v3, v4, v5, v6, rfl, -, h0, h1, h2, h3, h4, h5, h6, hs7⟩ := HS.out.below HB.out k s hs
        have hsm := sub_many hs
        have T1 := Lib.hid (manyL_take t.subs k s hs)
        have htk1 := manyL_take_le t.subs (k + 1)
        have IH := Lib.hid (ih s (by omega) (by omega) (.agg #[v0, v1, v2, v3, v4, v5, v6]) wo ⟨_, rfl, hs7⟩)
        have hsz : many s ≤ 9000 := by omega
        clear hs7 hs hsm
        go_wp2_with fail
        refine IH.out.mono ?_; rintro e w2 ⟨rfl, hb2⟩
        have hb3 := below_over hb hb2
        clear b6 h0 h1 h2 h3 h4 h5 h6 hb hb2
        go_wp2_with fail
        go_roundw
        case rel => exact ⟨k + 1, by omega, by go_num, by rw [T1.out]; go_num, hb3⟩
        case measure => simp [intOf]; omega
      · have hkn : k = n := by omega
        have T0 : Hid (many t = 1 + manyL (t.subs.take k)) := Lib.hid (by rw [HE.out, List.take_of_length_le (by rw [HN.out]; omega)])
        go_wp2_with fail
        go_ret
        exact ⟨ret_int' (by rw [T0.out]), HB.out⟩

set_option maxHeartbeats 2000000 in
theorem deep_any (N : Nat) : ∀ (t : Ty), many t ≤ N → many t ≤ 9000 → ∀ (v : Value) (w : World), TyV w v t →
    Calls Tryz.prog 57 #[v] w fun e w' => e = .returned (.int .i64 (deep t : Nat)) ∧ Below w.heap.size w w' := by
  induction N with
  | zero => intro t h; have := many_pos t; omega
  | succ N ih =>
    intro t hN hM v w hv
    obtain ⟨l, rfl, hT⟩ := hv
    obtain ⟨An, cn, As, cs, rfl, -, -, -, hzn, hz, -, hS⟩ := hT.parts
    have HS := Lib.hid hS
    clear hT hS
    generalize hn : t.subs.length = n at hz
    have HN := Lib.hid hn
    clear hn
    have HE := Lib.hid (deep_eq t)
    have hdm : deepL t.subs ≤ 9000 := by have := deep_many t; have := HE.out; omega
    have htk : ∀ k, deepL (t.subs.take k) ≤ deepL t.subs := fun k => by
      conv => rhs; rw [← List.take_append_drop k t.subs, deepL_append]
      omega
    have HK := Lib.hid htk
    clear htk
    go_enter Tryz.func57, Tryz.ntmps57
    go_wp2_with fail
    go_loopw [3, 4] (fun m i wr => ∃ k : Nat, k ≤ n ∧ i = .int .i64 k ∧ m = .int .i64 ((deepL (t.subs.take k) : Nat) : Int) ∧ Below (boxed w #[.int .i64 t.kind, .string t.pkg, .int .i64 t.major, .string t.mod, .string t.name, .slice An t.names.length cn, .slice As n cs]).heap.size (boxed w #[.int .i64 t.kind, .string t.pkg, .int .i64 t.major, .string t.mod, .string t.name, .slice An t.names.length cn, .slice As n cs]) wr) (fun _ i _ => n - (intOf i).toNat)
    case atStart => exact ⟨0, by omega, rfl, by simp [deepL], Below.refl _ _⟩
    case round =>
      obtain ⟨k, hk, rfl, rfl, hb⟩ := hrel
      obtain ⟨wo, rfl⟩ : ∃ wo : World, wo = wr := ⟨_, rfl⟩
      have b6 := box_cell hb 6
      simp at b6
      have HB := Lib.hid (box_below hb)
      have htk := HK.out k
      by_cases hlt : k < n
      · skip
        obtain ⟨s, hs⟩ : ∃ s, t.subs[k]? = some s := ⟨_, List.getElem?_eq_getElem (by rw [HN.out]; exact hlt)⟩
        obtain ⟨g, o, v0, v1, v2, v3, v4, v5, v6, rfl, -, h0, h1, h2, h3, h4, h5, h6, hs7⟩ := HS.out.below HB.out k s hs
        have hsm := sub_many hs
        have T1 := Lib.hid (deepL_take t.subs k s hs)
        have htk1 := HK.out (k + 1)
        have hds := deep_many s
        have hsz : deep s ≤ 9000 := by omega
        have IH := Lib.hid (ih s (by omega) (by omega) (.agg #[v0, v1, v2, v3, v4, v5, v6]) wo ⟨_, rfl, hs7⟩)
        clear hs7 hs hsm hds
        by_cases hgt : deepL (t.subs.take k) < deep s
        · have T2 : Hid (deepL (t.subs.take (k + 1)) = deep s) := Lib.hid (by rw [T1.out]; omega)
          go_wp2_with fail
          refine IH.out.mono ?_; rintro e w2 ⟨rfl, hb2⟩
          have hb3 := below_over hb hb2
          clear b6 h0 h1 h2 h3 h4 h5 h6 hb hb2
          go_wp2_with fail
          go_roundw
          case rel => exact ⟨k + 1, by omega, by go_num, by rw [T2.out], hb3⟩
          case measure => simp [intOf]; omega
        · have T2 : Hid (deepL (t.subs.take (k + 1)) = deepL (t.subs.take k)) := Lib.hid (by rw [T1.out]; omega)
          go_wp2_with fail
          refine IH.out.mono ?_; rintro e w2 ⟨rfl, hb2⟩
          have hb3 := below_over hb hb2
          clear b6 h0 h1 h2 h3 h4 h5 h6 hb hb2
          go_wp2_with fail
          go_roundw
          case rel => exact ⟨k + 1, by omega, by go_num, by rw [T2.out], hb3⟩
          case measure => simp [intOf]; omega
      · have T0 : Hid (deep t = deepL (t.subs.take k) + 1) := Lib.hid (by rw [HE.out, List.take_of_length_le (by rw [HN.out]; omega)])
        go_wp2_with fail
        go_ret
        exact ⟨ret_int' (by rw [T0.out]; go_num), HB.out⟩

theorem few_eq (t : Ty) (most : Int) : fewT t most = if most - 1 < 0 ∨ 200 < t.names.length then -1 else fewL t.subs (most - 1) := by cases t; rfl
/-- What stands behind k of them: the rest may still be asked. -/
theorem fewL_take : ∀ (l : List Ty) (k : Nat) (most : Int), fewL l most = fewL (l.drop k) (fewL (l.take k) most)
  | [], k, most => by simp [fewL]
  | t :: r, 0, most => rfl
  | t :: r, k + 1, most => by
    show (if 0 ≤ most then fewL r (fewT t most) else most) = fewL (r.drop k) (if 0 ≤ most then fewL (r.take k) (fewT t most) else most)
    split
    · exact fewL_take r k _
    · rw [fewL_neg _ _ (by omega)]
theorem fewL_snoc (l : List Ty) (k : Nat) (t : Ty) (most : Int) (h : l[k]? = some t) (h0 : 0 ≤ fewL (l.take k) most) : fewL (l.take (k + 1)) most = fewT t (fewL (l.take k) most) := by
  have hk := (List.getElem?_eq_some_iff.1 h).1
  have e := fewL_take (l.take (k + 1)) k most
  rw [List.take_take, Nat.min_eq_left (by omega)] at e
  have d : (l.take (k + 1)).drop k = [t] := by
    rw [List.take_add_one, h, List.drop_append_of_le_length (by simp; omega), List.drop_eq_nil_of_le (List.length_take_le _ _)]
    rfl
  rw [e, d]
  show (if 0 ≤ _ then fewL [] _ else _) = _
  rw [if_pos h0]; rfl

set_option maxHeartbeats 2000000 in
theorem few_any (N : Nat) : ∀ (t : Ty), many t ≤ N → ∀ (most : Int), -1 ≤ most → most ≤ 3000 → ∀ (v : Value) (w : World), TyV w v t →
    Calls Tryz.prog 35 #[v, .int .i64 most] w fun e w' => e = .returned (.int .i64 (fewT t most)) ∧ Below w.heap.size w w' := by
  induction N with
  | zero => intro t h; have := many_pos t; omega
  | succ N ih =>
    intro t hN most hlo hhi v w hv
    obtain ⟨l, rfl, hT⟩ := hv
    obtain ⟨An, cn, As, cs, rfl, -, -, -, hzn, hz, -, hS⟩ := hT.parts
    have HS := Lib.hid hS
    clear hT hS
    generalize hn : t.subs.length = n at hz
    have HN := Lib.hid hn
    clear hn
    have HE := Lib.hid (few_eq t most)
    by_cases hm : most - 1 < 0
    · have R : Hid (fewT t most = -1) := Lib.hid (by rw [HE.out, if_pos (.inl hm)])
      rw [R.out]
      go_enter Tryz.func35, Tryz.ntmps35
      go_wp2_with fail
      go_ret
      exact ⟨rfl, below_new (Below.refl _ _) _⟩
    generalize hq : t.names.length = q at hzn HE
    by_cases hl : 200 < q
    · have R : Hid (fewT t most = -1) := Lib.hid (by rw [HE.out, if_pos (.inr hl)])
      have hl' : (200 : Int) < q := by omega
      rw [R.out]
      clear hq
      go_enter Tryz.func35, Tryz.ntmps35
      go_wp2_with fail
      go_ret
      exact ⟨rfl, below_new (Below.refl _ _) _⟩
    have HR : Hid (fewT t most = fewL t.subs (most - 1)) := Lib.hid (by rw [HE.out, if_neg (by omega)])
    have hl' : ¬ (200 : Int) < q := by omega
    clear HE hq
    go_enter Tryz.func35, Tryz.ntmps35
    go_wp2_with fail
    go_loopw [1, 5] (fun m i wr => ∃ k : Nat, k ≤ n ∧ i = .int .i64 k ∧ m = .int .i64 (fewL (t.subs.take k) (most - 1)) ∧ Below (boxed w #[.int .i64 t.kind, .string t.pkg, .int .i64 t.major, .string t.mod, .string t.name, .slice An q cn, .slice As n cs]).heap.size (boxed w #[.int .i64 t.kind, .string t.pkg, .int .i64 t.major, .string t.mod, .string t.name, .slice An q cn, .slice As n cs]) wr) (fun _ i _ => n - (intOf i).toNat)
    case atStart => exact ⟨0, by omega, rfl, by simp [fewL], Below.refl _ _⟩
    case round =>
      obtain ⟨k, hk, rfl, rfl, hb⟩ := hrel
      obtain ⟨wo, rfl⟩ : ∃ wo : World, wo = wr := ⟨_, rfl⟩
      have b6 := box_cell hb 6
      simp at b6
      have HB := Lib.hid (box_below hb)
      have bd := fewL_bd (t.subs.take k) (most - 1) (by omega)
      by_cases hlt : k < n
      · by_cases h0 : 0 ≤ fewL (t.subs.take k) (most - 1)
        · obtain ⟨s, hs⟩ : ∃ s, t.subs[k]? = some s := ⟨_, List.getElem?_eq_getElem (by rw [HN.out]; exact hlt)⟩
          obtain ⟨g, o, v0, v1, v2, v3, v4, v5, v6, rfl, -, h0', h1, h2, h3, h4, h5, h6, hs7⟩ := HS.out.below HB.out k s hs
          have hsm := sub_many hs
          have T1 := Lib.hid (fewL_snoc t.subs k s (most - 1) hs h0)
          have IH := Lib.hid (ih s (by omega) (fewL (t.subs.take k) (most - 1)) (by omega) (by omega) (.agg #[v0, v1, v2, v3, v4, v5, v6]) wo ⟨_, rfl, hs7⟩)
          clear hs7 hs hsm
          generalize fewL (t.subs.take k) (most - 1) = z at h0 IH T1 bd
          go_wp2_with fail
          refine IH.out.mono ?_; rintro e w2 ⟨rfl, hb2⟩
          have hb3 := below_over hb hb2
          clear b6 h0' h1 h2 h3 h4 h5 h6 hb hb2
          go_wp2_with fail
          go_roundw
          case rel => exact ⟨k + 1, by omega, by go_num, by rw [T1.out], hb3⟩
          case measure => simp [intOf]; omega
        · have T0 : Hid (fewT t most = fewL (t.subs.take k) (most - 1)) := Lib.hid (by rw [HR.out, fewL_take t.subs k, fewL_neg _ _ (by omega)])
          generalize fewL (t.subs.take k) (most - 1) = z at h0 T0 bd
          go_wp2_with fail
          go_ret
          exact ⟨ret_int' T0.out, HB.out⟩
      · have T0 : Hid (fewT t most = fewL (t.subs.take k) (most - 1)) := Lib.hid (by rw [HR.out, List.take_of_length_le (by rw [HN.out]; omega)])
        generalize fewL (t.subs.take k) (most - 1) = z at T0 bd
        go_wp2_with fail
        go_ret
        exact ⟨ret_int' T0.out, HB.out⟩

end Go.Proofs.YtapjhmfbmkckaaaGreatDoor

/- The walk of the reference's own: are a type's own fields what its kind asks? -/
namespace Go.Proofs.YtapjhmfbmkckaaaGreatDoor
open Go.RowKit
open M

theorem nameAt_of {l : List ByteArray} {i : Nat} {s : ByteArray} (h : l[i]? = some s) : nameAt l i = s := by
  unfold nameAt; rw [List.getD_eq_getElem?_getD, h]; rfl

set_option maxRecDepth 100000 in
set_option maxHeartbeats 8000000 in
theorem own_any (t : Ty) (v : Value) (w : World) (hv : TyV w v t) :
    Calls Tryz.prog 95 #[v] w fun e w' => e = .returned (.bool (ownOk t)) ∧ Below w.heap.size w w' := by
  obtain ⟨l, rfl, hT⟩ := hv
  obtain ⟨An, cn, As, cs, rfl, zp, zm, za, hzn, hz, hN, -⟩ := hT.parts
  have HNM := Lib.hid hN
  clear hT hN
  generalize hn : t.subs.length = n at hz
  have HN := Lib.hid hn
  generalize hq : t.names.length = q at hzn
  have HQ := Lib.hid hq
  clear hn hq
  by_cases h20 : 20 < n
  · have R : Hid (ownOk t = false) := Lib.hid (own_long (by rw [HN.out]; exact h20))
    have h20' : (20 : Int) < n := by omega
    rw [R.out]
    go_enter Tryz.func95, Tryz.ntmps95
    go_wp2_with fail
    go_ret
    exact ⟨rfl, below_new (Below.refl _ _) _⟩
  have h20' : ¬ (20 : Int) < n := by omega
  go_enter Tryz.func95, Tryz.ntmps95
  go_wp2_with fail
  go_loopw [5] (fun i wr => ∃ k : Nat, k ≤ q ∧ i = .int .i64 k ∧ Hid (∀ j, j < k → badName t.kind t.names j = false) ∧ Below (boxed w #[.int .i64 t.kind, .string t.pkg, .int .i64 t.major, .string t.mod, .string t.name, .slice An q cn, .slice As n cs]).heap.size (boxed w #[.int .i64 t.kind, .string t.pkg, .int .i64 t.major, .string t.mod, .string t.name, .slice An q cn, .slice As n cs]) wr) (fun i _ => q - (intOf i).toNat)
  case atStart => exact ⟨0, by omega, rfl, Lib.hid (fun j h => by omega), Below.refl _ _⟩
  case round =>
    obtain ⟨k, hk, rfl, HP, hb⟩ := hrel
    obtain ⟨wo, rfl⟩ : ∃ wo : World, wo = wr := ⟨_, rfl⟩
    by_cases hlt : k < q
    · obtain ⟨s, hs⟩ : ∃ s, t.names[k]? = some s := ⟨_, List.getElem?_eq_getElem (by rw [HQ.out]; exact hlt)⟩
      have HB := Lib.hid (box_below hb)
      obtain ⟨g, o, rfl, hgo, hcs, hzs⟩ := HNM.out.below HB.out k s hs
      have b5 := box_cell hb 5
      simp at b5
      go_wp2_with fail
      refine (refSmall_any s _ hzs).mono ?_; rintro e w1 ⟨rfl, hb1⟩
      have hb2 := below_over hb hb1
      have HB2 := Lib.hid (box_below hb2)
      have b5' := box_cell hb2 5
      simp at b5'
      have hcs' : w1.cell? ⟨g, o + k, none⟩ = some (.string s) := (hb1.cell (p := ⟨g, _, none⟩) hgo).trans hcs
      clear b5 hcs hb hb1
      go_wp2_with fail
      refine (refGreat_any s _ hzs).mono ?_; rintro e w' ⟨rfl, rfl⟩
      have b0 := box_cell hb2 0
      simp at b0
      have BAD : ∃ b, badName t.kind t.names k = b := ⟨_, rfl⟩
      obtain ⟨bad, hbad⟩ := BAD
      go_upto_region 10 with fail
      go_cut [6, 7, 70] (fun _ _ s70 wx => s70 = .bool bad ∧ Below (boxed w #[.int .i64 t.kind, .string t.pkg, .int .i64 t.major, .string t.mod, .string t.name, .slice (some ⟨g, o, none⟩) q cn, .slice As n cs]).heap.size (boxed w #[.int .i64 t.kind, .string t.pkg, .int .i64 t.major, .string t.mod, .string t.name, .slice (some ⟨g, o, none⟩) q cn, .slice As n cs]) wx)
      case first =>
        unfold badName at hbad
        rw [nameAt_of hs] at hbad
        rcases hid_or (t.kind == 5) with h5 | h5
        rotate_left
        · have k5 := h5.out
          have k6 : (t.kind == 6) = false := by
            have e : t.kind = 5 := by simpa using k5
            rw [e]; rfl
          rcases hid_or (smallB s.data.toList) with hs1 | hs1
          · have a1 := hs1.out
            have hv : bad = true := by
              rw [← hbad, k5, a1]
              first | done | rfl
            subst hv
            clear hbad
            as_aux_lemma =>
            go_quiet (fail)
            go_wp2_with fail
            go_meet
            exact ⟨rfl, below_drewN hb2 nq⟩
          · have a1 := hs1.out
            rcases Nat.eq_zero_or_pos k with hk0 | hk0
            · have hp : ¬ (0 : Int) < k := by omega
              have hd : decide (0 < k) = false := by simp; omega
              clear hk0
              have hv : bad = false := by
                rw [← hbad, k5, k6, a1, hd]
                first | done | rfl
              subst hv
              clear hbad
              as_aux_lemma =>
              go_quiet (fail)
              go_wp2_with fail
              go_meet
              exact ⟨rfl, below_drewN hb2 nq⟩
            · obtain ⟨p, hps⟩ : ∃ p, t.names[k - 1]? = some p := ⟨_, List.getElem?_eq_getElem (by rw [HQ.out]; omega)⟩
              obtain ⟨g2, o2, eg, hg2, hc2, -⟩ := HNM.out.below HB2.out (k - 1) p hps
              obtain ⟨rfl, rfl⟩ : g = g2 ∧ o = o2 := by simpa using eg
              rw [nameAt_of hps] at hbad
              have hp : (0 : Int) < k := by omega
              have hp1 : 1 ≤ (k : Int) := by omega
              have hd : decide (0 < k) = true := by simp; omega
              unfold leS at hbad
              clear eg hg2 hps hk0
              rcases hid_or (Op.bytesLess s.toList p.toList || s.toList == p.toList) with hL | hL
              · have hl := hL.out
                have hv : bad = false := by
                  rw [← hbad, k5, k6, a1, hd, hl]
                  first | done | rfl
                subst hv
                clear hbad
                as_aux_lemma =>
                go_quiet (fail)
                go_wp2_with fail
                go_meet
                exact ⟨rfl, below_drewN hb2 nq⟩
              · have hl := hL.out
                have hv : bad = true := by
                  rw [← hbad, k5, k6, a1, hd, hl]
                  first | done | rfl
                subst hv
                clear hbad
                as_aux_lemma =>
                go_quiet (fail)
                go_wp2_with fail
                go_meet
                exact ⟨rfl, below_drewN hb2 nq⟩
        have k5 := h5.out
        rcases hid_or (t.kind == 6) with h6 | h6
        rotate_left
        · have k6 := h6.out
          rcases hid_or (greatB s.data.toList) with hs1 | hs1
          · have a1 := hs1.out
            have hv : bad = true := by
              rw [← hbad, k5, k6, a1]
              first | done | rfl
            subst hv
            clear hbad
            as_aux_lemma =>
            go_quiet (fail)
            go_wp2_with fail
            go_meet
            exact ⟨rfl, below_drewN hb2 nq⟩
          · have a1 := hs1.out
            rcases Nat.eq_zero_or_pos k with hk0 | hk0
            · have hp : ¬ (0 : Int) < k := by omega
              have hd : decide (0 < k) = false := by simp; omega
              clear hk0
              have hv : bad = false := by
                rw [← hbad, k5, k6, a1, hd]
                first | done | rfl
              subst hv
              clear hbad
              as_aux_lemma =>
              go_quiet (fail)
              go_wp2_with fail
              go_meet
              exact ⟨rfl, below_drewN hb2 nq⟩
            · obtain ⟨p, hps⟩ : ∃ p, t.names[k - 1]? = some p := ⟨_, List.getElem?_eq_getElem (by rw [HQ.out]; omega)⟩
              obtain ⟨g2, o2, eg, hg2, hc2, -⟩ := HNM.out.below HB2.out (k - 1) p hps
              obtain ⟨rfl, rfl⟩ : g = g2 ∧ o = o2 := by simpa using eg
              rw [nameAt_of hps] at hbad
              have hp : (0 : Int) < k := by omega
              have hp1 : 1 ≤ (k : Int) := by omega
              have hd : decide (0 < k) = true := by simp; omega
              unfold leS at hbad
              clear eg hg2 hps hk0
              rcases hid_or (Op.bytesLess s.toList p.toList || s.toList == p.toList) with hL | hL
              · have hl := hL.out
                have hv : bad = false := by
                  rw [← hbad, k5, k6, a1, hd, hl]
                  first | done | rfl
                subst hv
                clear hbad
                as_aux_lemma =>
                go_quiet (fail)
                go_wp2_with fail
                go_meet
                exact ⟨rfl, below_drewN hb2 nq⟩
              · have hl := hL.out
                have hv : bad = true := by
                  rw [← hbad, k5, k6, a1, hd, hl]
                  first | done | rfl
                subst hv
                clear hbad
                as_aux_lemma =>
                go_quiet (fail)
                go_wp2_with fail
                go_meet
                exact ⟨rfl, below_drewN hb2 nq⟩
        have k6 := h6.out
        rcases Nat.eq_zero_or_pos k with hk0 | hk0
        · have hp : ¬ (0 : Int) < k := by omega
          have hd : decide (0 < k) = false := by simp; omega
          clear hk0
          have hv : bad = false := by
            rw [← hbad, k5, k6, hd]
            first | done | rfl
          subst hv
          clear hbad
          as_aux_lemma =>
          go_quiet (fail)
          go_wp2_with fail
          go_meet
          exact ⟨rfl, below_drewN hb2 nq⟩
        · obtain ⟨p, hps⟩ : ∃ p, t.names[k - 1]? = some p := ⟨_, List.getElem?_eq_getElem (by rw [HQ.out]; omega)⟩
          obtain ⟨g2, o2, eg, hg2, hc2, -⟩ := HNM.out.below HB2.out (k - 1) p hps
          obtain ⟨rfl, rfl⟩ : g = g2 ∧ o = o2 := by simpa using eg
          rw [nameAt_of hps] at hbad
          have hp : (0 : Int) < k := by omega
          have hp1 : 1 ≤ (k : Int) := by omega
          have hd : decide (0 < k) = true := by simp; omega
          unfold leS at hbad
          clear eg hg2 hps hk0
          rcases hid_or (Op.bytesLess s.toList p.toList || s.toList == p.toList) with hL | hL
          · have hl := hL.out
            have hv : bad = false := by
              rw [← hbad, k5, k6, hd, hl]
              first | done | rfl
            subst hv
            clear hbad
            as_aux_lemma =>
            go_quiet (fail)
            go_wp2_with fail
            go_meet
            exact ⟨rfl, below_drewN hb2 nq⟩
          · have hl := hL.out
            have hv : bad = true := by
              rw [← hbad, k5, k6, hd, hl]
              first | done | rfl
            subst hv
            clear hbad
            as_aux_lemma =>
            go_quiet (fail)
            go_wp2_with fail
            go_meet
            exact ⟨rfl, below_drewN hb2 nq⟩
      case rest =>
        obtain ⟨rfl, hb3⟩ := hcut
        clear b0 b5' hcs' hb2 HB2
        have HBD := Lib.hid hbad
        clear hbad
        rcases hid_or bad with hbb | hbb
        · obtain rfl := hbb.out
          go_wp2_with fail
          go_roundw
          case rel => exact ⟨k + 1, by omega, by go_num, Lib.hid (fun j hj => by
            rcases Nat.lt_or_ge j k with a | a
            · exact HP.out j a
            · rw [show j = k by omega]; exact HBD.out), hb3⟩
          case measure => simp [intOf]; omega
        · obtain rfl := hbb.out
          have R : Hid (ownOk t = false) := Lib.hid (own_bad (by rw [HQ.out]; exact hlt) HBD.out)
          go_wp2_with fail
          go_ret
          exact ⟨ret_bool R.out, box_below hb3⟩
    · have hkq : k = q := by omega
      have HB := Lib.hid (box_below hb)
      have R0 : Hid (ownOk t = shapeOk t) := Lib.hid (own_good (by rw [HN.out]; omega) (fun i hi => HP.out i (by rw [HQ.out] at hi; omega)))
      have c1 := box_cell hb 1
      have c2 := box_cell hb 2
      have c3 := box_cell hb 3
      have c4 := box_cell hb 4
      simp at c1 c2 c3 c4
      go_upto_region 12 with fail
      obtain ⟨em, hem⟩ : ∃ b, noMore t = b := ⟨_, rfl⟩
      go_cut [8] (fun s8 wx => s8 = .bool em ∧ wo = wx)
      case first =>
        unfold noMore emptyB at hem
        by_cases e1 : t.pkg.size = 0
        · obtain ⟨x1, y1⟩ := empty_facts _ e1
          have d1 : decide (t.pkg.size = 0) = true := by simpa using e1
          rcases hid_or (t.major == 0) with e2 | e2
          · have d2 := e2.out
            have hv : em = false := by
              rw [← hem, d1, d2]
              first | done | rfl
            subst hv
            clear hem
            clear e1 d1
            as_aux_lemma =>
            go_wp2_with fail
            go_meet
            exact ⟨rfl, rfl⟩
          · have d2 := e2.out
            by_cases e3 : t.mod.size = 0
            · obtain ⟨x3, y3⟩ := empty_facts _ e3
              have d3 : decide (t.mod.size = 0) = true := by simpa using e3
              by_cases e4 : t.name.size = 0
              · obtain ⟨x4, y4⟩ := empty_facts _ e4
                have d4 : decide (t.name.size = 0) = true := by simpa using e4
                have hv : em = true := by
                  rw [← hem, d1, d2, d3, d4]
                  first | done | rfl
                subst hv
                clear hem
                clear e1 e3 e4 d1 d3 d4
                as_aux_lemma =>
                go_wp2_with fail
                go_meet
                exact ⟨rfl, rfl⟩
              · obtain ⟨x4, y4⟩ := full_facts _ e4
                have d4 : decide (t.name.size = 0) = false := by simpa using e4
                have hv : em = false := by
                  rw [← hem, d1, d2, d3, d4]
                  first | done | rfl
                subst hv
                clear hem
                clear e1 e3 e4 d1 d3 d4
                as_aux_lemma =>
                go_wp2_with fail
                go_meet
                exact ⟨rfl, rfl⟩
            · obtain ⟨x3, y3⟩ := full_facts _ e3
              have d3 : decide (t.mod.size = 0) = false := by simpa using e3
              have hv : em = false := by
                rw [← hem, d1, d2, d3]
                first | done | rfl
              subst hv
              clear hem
              clear e1 e3 d1 d3
              as_aux_lemma =>
              go_wp2_with fail
              go_meet
              exact ⟨rfl, rfl⟩
        · obtain ⟨x1, y1⟩ := full_facts _ e1
          have d1 : decide (t.pkg.size = 0) = false := by simpa using e1
          have hv : em = false := by
            rw [← hem, d1]
            first | done | rfl
          subst hv
          clear hem
          clear e1 d1
          as_aux_lemma =>
          go_wp2_with fail
          go_meet
          exact ⟨rfl, rfl⟩
      case rest =>
        obtain ⟨rfl, rfl⟩ := hcut
        unfold shapeOk at R0
        rw [hem] at R0
        have HNQ : t.subs.length = n ∧ t.names.length = q := ⟨HN.out, HQ.out⟩
        rw [HNQ.1, HNQ.2] at R0
        clear HNQ
        clear hem
        go_wp2_with fail
        refine (refGreat_any _ _ za).mono ?_; rintro e w' ⟨rfl, rfl⟩
        generalize greatB t.name.data.toList = gr at R0
        go_wp2_with fail
        refine (refSmall_any _ _ zm).mono ?_; rintro e w1 ⟨rfl, hb1⟩
        generalize smallB t.mod.data.toList = sm at R0
        have hb2 := below_over hb hb1
        have d1 := box_cell hb2 1
        simp at d1
        clear c1 c2 c3 c4 hb hb1
        go_wp2_with fail
        refine (refSmall_any _ _ zp).mono ?_; rintro e w2 ⟨rfl, hb3⟩
        generalize smallB t.pkg.data.toList = sp at R0
        have hb4 := below_over hb2 hb3
        have f0 := box_cell hb4 0
        have f1 := box_cell hb4 1
        have f2 := box_cell hb4 2
        have f3 := box_cell hb4 3
        simp at f0 f1 f2 f3
        have HB4 := Lib.hid (box_below hb4)
        clear hb2 hb3 hb4 d1
        by_cases hx1 : t.kind = 1
        · as_aux_lemma =>
          have R : Hid (ownOk t = (em && decide (n = 0) && decide (q = 0))) := Lib.hid (by rw [R0.out, hx1]; rfl)
          clear R0
          have b1 : (t.kind == 1) = true := by rw [hx1]; rfl
          clear hx1
          go_wp2
          all_goals go_ret
          all_goals exact ⟨ret_bool (by rw [R.out]; clear f0 f1 f2 f3 hlt hkq hk h20 hz hzn HB HB4 HNM HN HQ HP zp zm za R; rw [Bool.eq_iff_iff]; simp_all <;> omega), HB4.out⟩
        by_cases hx2 : t.kind = 2
        · as_aux_lemma =>
          have R : Hid (ownOk t = (em && decide (n = 0) && decide (q = 0))) := Lib.hid (by rw [R0.out, hx2]; rfl)
          clear R0
          have b1 : (t.kind == 1) = false := by rw [hx2]; rfl
          have b2 : (t.kind == 2) = true := by rw [hx2]; rfl
          clear hx2
          go_wp2
          all_goals go_ret
          all_goals exact ⟨ret_bool (by rw [R.out]; clear f0 f1 f2 f3 hlt hkq hk h20 hz hzn HB HB4 HNM HN HQ HP zp zm za R; rw [Bool.eq_iff_iff]; simp_all <;> omega), HB4.out⟩
        by_cases hx3 : t.kind = 3
        · as_aux_lemma =>
          have R : Hid (ownOk t = (em && decide (n = 0) && decide (q = 0))) := Lib.hid (by rw [R0.out, hx3]; rfl)
          clear R0
          have b1 : (t.kind == 1) = false := by rw [hx3]; rfl
          have b2 : (t.kind == 2) = false := by rw [hx3]; rfl
          have b3 : (t.kind == 3) = true := by rw [hx3]; rfl
          clear hx3
          go_wp2
          all_goals go_ret
          all_goals exact ⟨ret_bool (by rw [R.out]; clear f0 f1 f2 f3 hlt hkq hk h20 hz hzn HB HB4 HNM HN HQ HP zp zm za R; rw [Bool.eq_iff_iff]; simp_all <;> omega), HB4.out⟩
        by_cases hx4 : t.kind = 4
        · as_aux_lemma =>
          have R : Hid (ownOk t = (em && decide (n = 1) && decide (q = 0))) := Lib.hid (by rw [R0.out, hx4]; rfl)
          clear R0
          have b1 : (t.kind == 1) = false := by rw [hx4]; rfl
          have b2 : (t.kind == 2) = false := by rw [hx4]; rfl
          have b3 : (t.kind == 3) = false := by rw [hx4]; rfl
          have b4 : (t.kind == 4) = true := by rw [hx4]; rfl
          clear hx4
          go_wp2
          all_goals go_ret
          all_goals exact ⟨ret_bool (by rw [R.out]; clear f0 f1 f2 f3 hlt hkq hk h20 hz hzn HB HB4 HNM HN HQ HP zp zm za R; rw [Bool.eq_iff_iff]; simp_all <;> omega), HB4.out⟩
        by_cases hx5 : t.kind = 5
        · as_aux_lemma =>
          have R : Hid (ownOk t = (em && decide (n = q))) := Lib.hid (by rw [R0.out, hx5]; rfl)
          clear R0
          have b1 : (t.kind == 1) = false := by rw [hx5]; rfl
          have b2 : (t.kind == 2) = false := by rw [hx5]; rfl
          have b3 : (t.kind == 3) = false := by rw [hx5]; rfl
          have b4 : (t.kind == 4) = false := by rw [hx5]; rfl
          have b5 : (t.kind == 5) = true := by rw [hx5]; rfl
          clear hx5
          go_wp2
          all_goals go_ret
          all_goals exact ⟨ret_bool (by rw [R.out]; clear f0 f1 f2 f3 hlt hkq hk h20 hz hzn HB HB4 HNM HN HQ HP zp zm za R; rw [Bool.eq_iff_iff]; simp_all <;> omega), HB4.out⟩
        by_cases hx6 : t.kind = 6
        · as_aux_lemma =>
          have R : Hid (ownOk t = (em && decide (n = q) && decide (0 < n))) := Lib.hid (by rw [R0.out, hx6]; rfl)
          clear R0
          have b1 : (t.kind == 1) = false := by rw [hx6]; rfl
          have b2 : (t.kind == 2) = false := by rw [hx6]; rfl
          have b3 : (t.kind == 3) = false := by rw [hx6]; rfl
          have b4 : (t.kind == 4) = false := by rw [hx6]; rfl
          have b5 : (t.kind == 5) = false := by rw [hx6]; rfl
          have b6 : (t.kind == 6) = true := by rw [hx6]; rfl
          clear hx6
          go_wp2
          all_goals go_ret
          all_goals exact ⟨ret_bool (by rw [R.out]; clear f0 f1 f2 f3 hlt hkq hk h20 hz hzn HB HB4 HNM HN HQ HP zp zm za R; rw [Bool.eq_iff_iff]; simp_all <;> omega), HB4.out⟩
        by_cases hx7 : t.kind = 7
        · as_aux_lemma =>
          have R : Hid (ownOk t = (em && decide (0 < n) && decide (q = 0))) := Lib.hid (by rw [R0.out, hx7]; rfl)
          clear R0
          have b1 : (t.kind == 1) = false := by rw [hx7]; rfl
          have b2 : (t.kind == 2) = false := by rw [hx7]; rfl
          have b3 : (t.kind == 3) = false := by rw [hx7]; rfl
          have b4 : (t.kind == 4) = false := by rw [hx7]; rfl
          have b5 : (t.kind == 5) = false := by rw [hx7]; rfl
          have b6 : (t.kind == 6) = false := by rw [hx7]; rfl
          have b7 : (t.kind == 7) = true := by rw [hx7]; rfl
          clear hx7
          go_wp2
          all_goals go_ret
          all_goals exact ⟨ret_bool (by rw [R.out]; clear f0 f1 f2 f3 hlt hkq hk h20 hz hzn HB HB4 HNM HN HQ HP zp zm za R; rw [Bool.eq_iff_iff]; simp_all <;> omega), HB4.out⟩
        by_cases hx8 : t.kind = 8
        · have R : Hid (ownOk t = (decide (n = 0) && decide (q = 0) && emptyB t.pkg && (t.major == 0) && gr && (sm || emptyB t.mod))) := Lib.hid (by rw [R0.out, hx8]; rfl)
          clear R0
          have b1 : (t.kind == 1) = false := by rw [hx8]; rfl
          have b2 : (t.kind == 2) = false := by rw [hx8]; rfl
          have b3 : (t.kind == 3) = false := by rw [hx8]; rfl
          have b4 : (t.kind == 4) = false := by rw [hx8]; rfl
          have b5 : (t.kind == 5) = false := by rw [hx8]; rfl
          have b6 : (t.kind == 6) = false := by rw [hx8]; rfl
          have b7 : (t.kind == 7) = false := by rw [hx8]; rfl
          have b8 : (t.kind == 8) = true := by rw [hx8]; rfl
          clear hx8
          unfold emptyB at R
          by_cases e1 : t.pkg.size = 0
          · obtain ⟨x1, y1⟩ := empty_facts _ e1
            by_cases e3 : t.mod.size = 0
            · obtain ⟨x3, y3⟩ := empty_facts _ e3
              as_aux_lemma =>
              go_wp2
              all_goals go_ret
              all_goals exact ⟨ret_bool (by rw [R.out]; clear f0 f1 f2 f3 hlt hkq hk h20 hz hzn HB HB4 HNM HN HQ HP zp zm za R; rw [Bool.eq_iff_iff]; simp_all <;> omega), HB4.out⟩
            · obtain ⟨x3, y3⟩ := full_facts _ e3
              as_aux_lemma =>
              go_wp2
              all_goals go_ret
              all_goals exact ⟨ret_bool (by rw [R.out]; clear f0 f1 f2 f3 hlt hkq hk h20 hz hzn HB HB4 HNM HN HQ HP zp zm za R; rw [Bool.eq_iff_iff]; simp_all <;> omega), HB4.out⟩
          · obtain ⟨x1, y1⟩ := full_facts _ e1
            as_aux_lemma =>
            go_wp2
            all_goals go_ret
            all_goals exact ⟨ret_bool (by rw [R.out]; clear f0 f1 f2 f3 hlt hkq hk h20 hz hzn HB HB4 HNM HN HQ HP zp zm za R; rw [Bool.eq_iff_iff]; simp_all <;> omega), HB4.out⟩
        by_cases hx9 : t.kind = 9
        · as_aux_lemma =>
          have R : Hid (ownOk t = (decide (n = 0) && decide (q = 0) && sp && sm && gr && decide (1 ≤ t.major) && decide (t.major ≤ 999999999))) := Lib.hid (by rw [R0.out, hx9]; rfl)
          clear R0
          have b1 : (t.kind == 1) = false := by rw [hx9]; rfl
          have b2 : (t.kind == 2) = false := by rw [hx9]; rfl
          have b3 : (t.kind == 3) = false := by rw [hx9]; rfl
          have b4 : (t.kind == 4) = false := by rw [hx9]; rfl
          have b5 : (t.kind == 5) = false := by rw [hx9]; rfl
          have b6 : (t.kind == 6) = false := by rw [hx9]; rfl
          have b7 : (t.kind == 7) = false := by rw [hx9]; rfl
          have b8 : (t.kind == 8) = false := by rw [hx9]; rfl
          have b9 : (t.kind == 9) = true := by rw [hx9]; rfl
          clear hx9
          go_wp2
          all_goals go_ret
          all_goals exact ⟨ret_bool (by rw [R.out]; clear f0 f1 f2 f3 hlt hkq hk h20 hz hzn HB HB4 HNM HN HQ HP zp zm za R; rw [Bool.eq_iff_iff]; simp_all <;> omega), HB4.out⟩
        have R : Hid (ownOk t = false) := Lib.hid (by rw [R0.out, if_neg (by omega), if_neg hx4, if_neg hx5, if_neg hx6, if_neg hx7, if_neg hx8, if_neg hx9])
        clear R0
        have b1 : (t.kind == 1) = false := by simpa using hx1
        have b2 : (t.kind == 2) = false := by simpa using hx2
        have b3 : (t.kind == 3) = false := by simpa using hx3
        have b4 : (t.kind == 4) = false := by simpa using hx4
        have b5 : (t.kind == 5) = false := by simpa using hx5
        have b6 : (t.kind == 6) = false := by simpa using hx6
        have b7 : (t.kind == 7) = false := by simpa using hx7
        have b8 : (t.kind == 8) = false := by simpa using hx8
        have b9 : (t.kind == 9) = false := by simpa using hx9
        clear hx1 hx2 hx3 hx4 hx5 hx6 hx7 hx8 hx9
        as_aux_lemma =>
        go_wp2
        all_goals go_ret
        all_goals exact ⟨ret_bool (by rw [R.out]), HB4.out⟩

end Go.Proofs.YtapjhmfbmkckaaaGreatDoor
