/-
  Several texts in one:  ·  ·  ·  ·  · 
-/
import Derived.Test.YtcdmgcgjonndpaaGreatK00
import Derived.Test.YtcdmgcgjonndpaaGreatK03
import Derived.Deep.QuietTactic
import Derived.BigQuiet
import Derived.Lib.QuietBelow
import Derived.Lib.Strings
import Derived.LoopTactic
import Derived.Deep.DeepCutAuto
import Derived.Deep.CutBlock
/-  -/
namespace Go.Proofs.YtcdmgcgjonndpaaGreat
open Go.RowKit
open Go.Sort
open M
set_option maxRecDepth 100000 in
set_option maxHeartbeats 8000000 in
theorem same_any (N : Nat) : ∀ (a b : Ty), many a ≤ N → ∀ (v v' : Value) (w : World), TyV w v a → TyV w v' b →
  Calls Tryz.prog 34 #[v, v'] w fun e w' => e = .returned (.bool (sameT a b)) ∧ Below w.heap.size w w' := by
 induction N with
 | zero => intro a b h; have := many_pos a; omega
 | succ N ih =>
 intro a b hN v v' w hv hv'
 obtain ⟨l, rfl, hT⟩ := hv
 obtain ⟨An, cn, As, cs, rfl, -, -, -, hzn, hz, hNA, hS⟩ := hT.parts
 obtain ⟨l', rfl, hT'⟩ := hv'
 obtain ⟨Bn, cn', Bs, cs', rfl, -, -, -, hzn', hz', hNB, hS'⟩ := hT'.parts
 clear hT hT'
 have HSM := Lib.hid (fun (i : Nat) (s : Ty) (h : a.subs[i]? = some s) => sub_many h)
 obtain ⟨k, p, m, d, n, ns, ss⟩ := a
 obtain ⟨k', p', m', d', n', ns', ss'⟩ := b
 simp only [Ty.kind, Ty.pkg, Ty.major, Ty.mod, Ty.name, Ty.names, Ty.subs] at *
 have HNA := Lib.hid hNA
 have HNB := Lib.hid hNB
 have HSA := Lib.hid hS
 have HSB := Lib.hid hS'
 clear hNA hNB hS hS'
 generalize hq : ns.length = q at hzn
 generalize hq' : ns'.length = q' at hzn'
 generalize hr : ss.length = r at hz
 generalize hr' : ss'.length = r' at hz'
 have HQ := Lib.hid hq
 have HQ' := Lib.hid hq'
 have HR := Lib.hid hr
 have HR' := Lib.hid hr'
 clear hq hq' hr hr'
 by_cases h1 : k = k'
 rotate_left
 ·have R : Hid (sameT (.mk k p m d n ns ss) (.mk k' p' m' d' n' ns' ss') = false) := Lib.hid (sameT_no (fun e => by injection e with e1 e2 e3 e4 e5 e6 e7; exact h1 e1))
  rw [R.out]
  have f1 : (k == k') = false := by simpa using h1
  have f2 : (k != k') = true := by simpa using h1
  clear h1
  as_aux_lemma =>
  go_enter Tryz.func34, Tryz.ntmps34
  go_wp2_with fail
  go_ret
  exact ⟨rfl, below_new (below_new (Below.refl _ _) _) _⟩
 subst h1
 by_cases h2 : p = p'
 rotate_left
 ·have R : Hid (sameT (.mk k p m d n ns ss) (.mk k p' m' d' n' ns' ss') = false) := Lib.hid (sameT_no (fun e => by injection e with e1 e2 e3 e4 e5 e6 e7; exact h2 e2))
  rw [R.out]
  have f1 : (p.toList == p'.toList) = false := by
   rw [beq_eq_false_iff_ne, ne_eq, Lib.toList_data, Lib.toList_data, bytes_list]
   exact h2
  have f2 : (!(p.toList == p'.toList)) = true := by rw [f1]; rfl
  have f3 : ¬ p.toList = p'.toList := by simpa using f1
  clear h2
  as_aux_lemma =>
  go_enter Tryz.func34, Tryz.ntmps34
  go_wp2_with fail
  go_ret
  exact ⟨rfl, below_new (below_new (Below.refl _ _) _) _⟩
 subst h2
 by_cases h3 : m = m'
 rotate_left
 ·have R : Hid (sameT (.mk k p m d n ns ss) (.mk k p m' d' n' ns' ss') = false) := Lib.hid (sameT_no (fun e => by injection e with e1 e2 e3 e4 e5 e6 e7; exact h3 e3))
  rw [R.out]
  have f1 : (m == m') = false := by simpa using h3
  have f2 : (m != m') = true := by simpa using h3
  clear h3
  as_aux_lemma =>
  go_enter Tryz.func34, Tryz.ntmps34
  go_wp2_with fail
  go_ret
  exact ⟨rfl, below_new (below_new (Below.refl _ _) _) _⟩
 subst h3
 by_cases h4 : d = d'
 rotate_left
 ·have R : Hid (sameT (.mk k p m d n ns ss) (.mk k p m d' n' ns' ss') = false) := Lib.hid (sameT_no (fun e => by injection e with e1 e2 e3 e4 e5 e6 e7; exact h4 e4))
  rw [R.out]
  have f1 : (d.toList == d'.toList) = false := by
   rw [beq_eq_false_iff_ne, ne_eq, Lib.toList_data, Lib.toList_data, bytes_list]
   exact h4
  have f2 : (!(d.toList == d'.toList)) = true := by rw [f1]; rfl
  have f3 : ¬ d.toList = d'.toList := by simpa using f1
  clear h4
  as_aux_lemma =>
  go_enter Tryz.func34, Tryz.ntmps34
  go_wp2_with fail
  go_ret
  exact ⟨rfl, below_new (below_new (Below.refl _ _) _) _⟩
 subst h4
 by_cases h5 : n = n'
 rotate_left
 ·have R : Hid (sameT (.mk k p m d n ns ss) (.mk k p m d n' ns' ss') = false) := Lib.hid (sameT_no (fun e => by injection e with e1 e2 e3 e4 e5 e6 e7; exact h5 e5))
  rw [R.out]
  have f1 : (n.toList == n'.toList) = false := by
   rw [beq_eq_false_iff_ne, ne_eq, Lib.toList_data, Lib.toList_data, bytes_list]
   exact h5
  have f2 : (!(n.toList == n'.toList)) = true := by rw [f1]; rfl
  have f3 : ¬ n.toList = n'.toList := by simpa using f1
  clear h5
  as_aux_lemma =>
  go_enter Tryz.func34, Tryz.ntmps34
  go_wp2_with fail
  go_ret
  exact ⟨rfl, below_new (below_new (Below.refl _ _) _) _⟩
 subst h5
 by_cases h6 : q = q'
 rotate_left
 ·have R : Hid (sameT (.mk k p m d n ns ss) (.mk k p m d n ns' ss') = false) := Lib.hid (sameT_no (fun e => by injection e with e1 e2 e3 e4 e5 e6 e7; exact h6 (by rw [← HQ.out, ← HQ'.out, e6])))
  rw [R.out]
  have f1 : ((q : Int) == q') = false := by simp; omega
  have f2 : ((q : Int) != q') = true := by simp; omega
  have f3 : ¬ (q : Int) = q' := by omega
  have f4 : ¬ q = q' := by omega
  clear h6
  as_aux_lemma =>
  go_enter Tryz.func34, Tryz.ntmps34
  go_wp2_with fail
  go_ret
  exact ⟨rfl, below_new (below_new (Below.refl _ _) _) _⟩
 subst h6
 by_cases h7 : r = r'
 rotate_left
 ·have R : Hid (sameT (.mk k p m d n ns ss) (.mk k p m d n ns' ss') = false) := Lib.hid (sameT_no (fun e => by injection e with e1 e2 e3 e4 e5 e6 e7; exact h7 (by rw [← HR.out, ← HR'.out, e7])))
  rw [R.out]
  have f1 : ((r : Int) == r') = false := by simp; omega
  have f2 : ((r : Int) != r') = true := by simp; omega
  have f3 : ¬ (r : Int) = r' := by omega
  have f4 : ¬ r = r' := by omega
  clear h7
  as_aux_lemma =>
  go_enter Tryz.func34, Tryz.ntmps34
  go_wp2_with fail
  go_ret
  exact ⟨rfl, below_new (below_new (Below.refl _ _) _) _⟩
 subst h7
 go_enter Tryz.func34, Tryz.ntmps34
 go_wp2_with fail
 go_loopw [5] (fun i wr => ∃ j : Nat, j ≤ q ∧ i = .int .i64 j ∧ Hid (∀ x (s s' : ByteArray), x < j → ns[x]? = some s → ns'[x]? = some s' → s = s') ∧ Below (boxed (boxed w #[.int .i64 k, .string p, .int .i64 m, .string d, .string n, .slice An q cn, .slice As r cs]) #[.int .i64 k, .string p, .int .i64 m, .string d, .string n, .slice Bn q cn', .slice Bs r cs']).heap.size (boxed (boxed w #[.int .i64 k, .string p, .int .i64 m, .string d, .string n, .slice An q cn, .slice As r cs]) #[.int .i64 k, .string p, .int .i64 m, .string d, .string n, .slice Bn q cn', .slice Bs r cs']) wr) (fun i _ => q - (intOf i).toNat)
 case atStart => exact ⟨0, by omega, rfl, Lib.hid (fun x s s' h => by omega), Below.refl _ _⟩
 case round =>
  obtain ⟨j, hj, rfl, HP, hb⟩ := hrel
  obtain ⟨wo, rfl⟩ : ∃ wo : World, wo = wr := ⟨_, rfl⟩
  have HB1 := Lib.hid (box_below hb)
  have HB := Lib.hid (box_below HB1.out)
  have a5 := box_cell HB1.out 5
  have b5 := box_cell hb 5
  simp [boxed] at a5 b5
  by_cases hlt : j < q
  ·obtain ⟨s, hs⟩ : ∃ s, ns[j]? = some s := ⟨_, List.getElem?_eq_getElem (by rw [HQ.out]; exact hlt)⟩
   obtain ⟨s', hs'⟩ : ∃ s, ns'[j]? = some s := ⟨_, List.getElem?_eq_getElem (by rw [HQ'.out]; exact hlt)⟩
   obtain ⟨g, o, rfl, -, a0, -⟩ := HNA.out.below HB.out j s hs
   obtain ⟨g', o', rfl, -, b0, -⟩ := HNB.out.below HB.out j s' hs'
   by_cases he : s = s'
   ·subst he
    have HSS := Lib.hid hs
    have HSS' := Lib.hid hs'
    clear hs hs'
    go_wp2_with fail
    go_quiet (fail)
    go_wp2_with fail
    go_roundw
    case rel => exact ⟨j + 1, by omega, by go_num, Lib.hid (fun x y y' hx hy hy' => by
     rcases Nat.lt_or_ge x j with a | a
     ·exact HP.out x y y' a hy hy'
     ·rw [show x = j by omega] at hy hy'
      rw [HSS.out] at hy; rw [HSS'.out] at hy'
      rw [← Option.some.inj hy, ← Option.some.inj hy']), below_drewN hb nq⟩
    case measure => simp [intOf]; omega
   ·have R : Hid (sameT (.mk k p m d n ns ss) (.mk k p m d n ns' ss') = false) := Lib.hid (sameT_no (fun e => by
     injection e with e1 e2 e3 e4 e5 e6 e7
     rw [e6, hs'] at hs
     exact he (Option.some.inj hs).symm))
    have f1 : (s.toList == s'.toList) = false := by
     rw [beq_eq_false_iff_ne, ne_eq, Lib.toList_data, Lib.toList_data, bytes_list]; exact he
    have f2 : (!(s.toList == s'.toList)) = true := by rw [f1]; rfl
    have f3 : ¬ s.toList = s'.toList := by simpa using f1
    clear he hs hs'
    go_wp2_with fail
    go_quiet (fail)
    go_wp2_with fail
    go_ret
    exact ⟨ret_bool R.out, below_drewN HB.out nq⟩
  ·have hjq : j = q := by omega
   have NE : Hid (ns = ns') := Lib.hid (list_ext' (by rw [HQ.out, HQ'.out]) (fun x s s' h1 h2 => HP.out x s s' (by have := (List.getElem?_eq_some_iff.1 h1).1; rw [HQ.out] at this; omega) h1 h2))
   clear HP
   have HA6 := box_cell HB1.out 6
   have HB6 := box_cell hb 6
   simp [boxed] at HA6 HB6
   go_wp2_with fail
   go_loopw [6] (fun i wr => ∃ x : Nat, x ≤ r ∧ i = .int .i64 x ∧ Hid (∀ y (s s' : Ty), y < x → ss[y]? = some s → ss'[y]? = some s' → s = s') ∧ Below (boxed (boxed w #[.int .i64 k, .string p, .int .i64 m, .string d, .string n, .slice An q cn, .slice As r cs]) #[.int .i64 k, .string p, .int .i64 m, .string d, .string n, .slice Bn q cn', .slice Bs r cs']).heap.size (boxed (boxed w #[.int .i64 k, .string p, .int .i64 m, .string d, .string n, .slice An q cn, .slice As r cs]) #[.int .i64 k, .string p, .int .i64 m, .string d, .string n, .slice Bn q cn', .slice Bs r cs']) wr) (fun i _ => r - (intOf i).toNat)
   case atStart => exact ⟨0, by omega, rfl, Lib.hid (fun x s s' h => by omega), hb⟩
   case round =>
    obtain ⟨x, hx, rfl, HP2, hb2⟩ := hrel
    obtain ⟨wi, rfl⟩ : ∃ wi : World, wi = wr := ⟨_, rfl⟩
    have HI1 := Lib.hid (box_below hb2)
    have HI := Lib.hid (box_below HI1.out)
    have a6 := box_cell HI1.out 6
    have b6 := box_cell hb2 6
    simp [boxed] at a6 b6
    clear HA6 HB6 a5 b5
    by_cases hlt2 : x < r
    ·obtain ⟨s, hs⟩ : ∃ s, ss[x]? = some s := ⟨_, List.getElem?_eq_getElem (by rw [HR.out]; exact hlt2)⟩
     obtain ⟨s', hs'⟩ : ∃ s, ss'[x]? = some s := ⟨_, List.getElem?_eq_getElem (by rw [HR'.out]; exact hlt2)⟩
     obtain ⟨g, o, v0, v1, v2, v3, v4, v5, v6, rfl, -, u0, u1, u2, u3, u4, u5, u6, us⟩ := HSA.out.below HI.out x s hs
     obtain ⟨g', o', z0, z1, z2, z3, z4, z5, z6, rfl, -, t0, t1, t2, t3, t4, t5, t6, ts⟩ := HSB.out.below HI.out x s' hs'
     have hsm := HSM.out x s hs
     have cP : ∀ dd os, Calls Tryz.prog 34 #[.agg #[v0, v1, v2, v3, v4, v5, v6], .agg #[z0, z1, z2, z3, z4, z5, z6]] (Sort.grow (redrawn wi dd) os) fun e w'' => e = .returned (.bool (sameT s s')) ∧ ∃ pp : Regrown, w'' = Sort.grow (redrawn wi pp.d) pp.os := fun dd os => Calls.regrown_of (ih s s' (by omega) _ _ _ ⟨_, rfl, us.keep (below_regrown wi dd os)⟩ ⟨_, rfl, ts.keep (below_regrown wi dd os)⟩)
     have p0 := cell_regrown u0; have p1 := cell_regrown u1; have p2 := cell_regrown u2; have p3 := cell_regrown u3; have p4 := cell_regrown u4; have p5 := cell_regrown u5; have p6 := cell_regrown u6
     have r0 := cell_regrown t0; have r1 := cell_regrown t1; have r2 := cell_regrown t2; have r3 := cell_regrown t3; have r4 := cell_regrown t4; have r5 := cell_regrown t5; have r6 := cell_regrown t6
     have x6 := cell_regrown a6; have y6 := cell_regrown b6
     have HSS := Lib.hid hs
     have HSS' := Lib.hid hs'
     clear hs hs' us ts hsm
     go_wp2_with fail
     refine wp_region_quiet_below (by kernel_rfl) (by kernel_rfl) ?_
     repeat (any_goals (first | go_big_quiet_step (with_reducible exact cP _ _) | quiet_step (with_reducible exact cP _ _)))
     refine wpQuiet_nil ?_
     intro _ hw'
     obtain ⟨⟨dq, osq⟩, hw''⟩ := hw'
     subst hw''
     have hb3 := below_over hb2 (below_regrown wi dq osq)
     clear p0 p1 p2 p3 p4 p5 p6 r0 r1 r2 r3 r4 r5 r6 x6 y6 u0 u1 u2 u3 u4 u5 u6 t0 t1 t2 t3 t4 t5 t6 cP a6 b6
     rcases hid_or (sameT s s') with hS | hS
     ·have R : Hid (sameT (.mk k p m d n ns ss) (.mk k p m d n ns' ss') = false) := Lib.hid (sameT_no (fun e => by
       injection e with e1 e2 e3 e4 e5 e6 e7
       have hs := HSS.out
       rw [e7, HSS'.out] at hs
       have h := hS.out
       rw [Option.some.inj hs] at h
       rw [(sameT_iff s s).2 rfl] at h
       cases h))
      rw [hS.out]
      go_wp2_with fail
      go_ret
      exact ⟨ret_bool R.out, box_below (box_below hb3)⟩
     ·have e := (sameT_iff s s').1 hS.out
      have HEQ := Lib.hid e
      clear e
      rw [hS.out]
      go_wp2_with fail
      go_roundw
      case rel => exact ⟨x + 1, by omega, by go_num, Lib.hid (fun y q1 q2 hy h1 h2 => by
       rcases Nat.lt_or_ge y x with a | a
       ·exact HP2.out y q1 q2 a h1 h2
       ·rw [show y = x by omega] at h1 h2
        rw [HSS.out] at h1; rw [HSS'.out] at h2
        rw [← Option.some.inj h1, ← Option.some.inj h2]
        exact HEQ.out), hb3⟩
      case measure => simp [intOf]; omega
    ·have SE : Hid (ss = ss') := Lib.hid (list_ext' (by rw [HR.out, HR'.out]) (fun y s s' h1 h2 => HP2.out y s s' (by have := (List.getElem?_eq_some_iff.1 h1).1; rw [HR.out] at this; omega) h1 h2))
     have R : Hid (sameT (.mk k p m d n ns ss) (.mk k p m d n ns' ss') = true) := Lib.hid (by rw [sameT_iff, NE.out, SE.out])
     go_wp2_with fail
     go_ret
     exact ⟨ret_bool R.out, HI.out⟩
end Go.Proofs.YtcdmgcgjonndpaaGreat

/-  -/
namespace Go.Proofs.YtcdmgcgjonndpaaGreat
open Go.RowKit
open Go.Sort
open M
theorem RowIn.im {w : World} {A : Option Addr} {xs : List Im} (h : RowIn imR w A xs) {i : Nat} {x : Im} (hx : xs[i]? = some x) : ∃ g o, A = some ⟨g, o, none⟩ ∧ g < w.heap.size ∧
  w.cell? ⟨g, o + i * 4, none⟩ = some (.string x.pkg) ∧ w.cell? ⟨g, o + i * 4 + 1, none⟩ = some (.int .i64 x.major) ∧ w.cell? ⟨g, o + i * 4 + 2, none⟩ = some (.string x.mod) ∧ w.cell? ⟨g, o + i * 4 + 3, none⟩ = some (.string x.asn) ∧
  x.pkg.size ≤ 9223372036854775807 ∧ x.mod.size ≤ 9223372036854775807 ∧ x.asn.size ≤ 9223372036854775807 := by
 obtain ⟨g, o, l, hA, hg, hc, rfl, z1, z2, z3⟩ := h i x hx
 exact ⟨g, o, hA, hg, hc 0 _ rfl, hc 1 _ rfl, hc 2 _ rfl, hc 3 _ rfl, z1, z2, z3⟩
theorem RowIn.de {w : World} {A : Option Addr} {xs : List De} (h : RowIn deR w A xs) {i : Nat} {x : De} (hx : xs[i]? = some x) : ∃ (g o : Nat) (v0 v1 v2 v3 v4 v5 v6 : Value), A = some ⟨g, o, none⟩ ∧ g < w.heap.size ∧
  w.cell? ⟨g, o + i * 9, none⟩ = some (.int .i64 x.kind) ∧ w.cell? ⟨g, o + i * 9 + 1, none⟩ = some (.string x.name) ∧ w.cell? ⟨g, o + i * 9 + 2, none⟩ = some v0 ∧ w.cell? ⟨g, o + i * 9 + 2 + 1, none⟩ = some v1 ∧ w.cell? ⟨g, o + i * 9 + 2 + 2, none⟩ = some v2 ∧
  w.cell? ⟨g, o + i * 9 + 2 + 3, none⟩ = some v3 ∧ w.cell? ⟨g, o + i * 9 + 2 + 4, none⟩ = some v4 ∧ w.cell? ⟨g, o + i * 9 + 2 + 5, none⟩ = some v5 ∧ w.cell? ⟨g, o + i * 9 + 2 + 6, none⟩ = some v6 ∧ TyAt w [v0, v1, v2, v3, v4, v5, v6] x.typ ∧ x.name.size ≤ 9223372036854775807 := by
 obtain ⟨g, o, l, hA, hg, hc, hs, l7, rfl, hT⟩ := h i x hx
 obtain ⟨v0, v1, v2, v3, v4, v5, v6, rfl⟩ := list7 l7 hT.len
 exact ⟨g, o, v0, v1, v2, v3, v4, v5, v6, hA, hg, hc 0 _ rfl, hc 1 _ rfl, hc 2 _ rfl, hc 3 _ rfl, hc 4 _ rfl, hc 5 _ rfl, hc 6 _ rfl, hc 7 _ rfl, hc 8 _ rfl, hT, hs⟩
set_option maxRecDepth 100000 in
set_option maxHeartbeats 8000000 in
theorem same6_any (m : Mo) (l l' : List Value) (w : World) (h : MoAt w l m) (h' : MoAt w l' m) : Calls Tryz.prog 14 #[.agg l.toArray, .agg l'.toArray] w fun e w' => e = .returned (.bool true) ∧ Below w.heap.size w w' := by
 obtain ⟨Ai, ci, Ad, cd, rfl, z1, z2, z3, hI, hD⟩ := h
 obtain ⟨Bi, di, Bd, dd, rfl, -, -, -, hI', hD'⟩ := h'
 obtain ⟨w0, hw0⟩ : ∃ w0, w0 = w.alloc (.cells #[.string m.name, .slice Ai m.imps.length ci, .slice Ad m.decs.length cd] 33) := ⟨_, rfl⟩
 have B0 : Below w.heap.size w w0 := by rw [hw0]; exact below_new (Below.refl _ _) _
 have O0 : w0.heap[w.heap.size]? = some (.cells #[.string m.name, .slice Ai m.imps.length ci, .slice Ad m.decs.length cd] 33 (0, 0)) := by rw [hw0]; exact heap_alloc_new w _
 have s0 : w0.heap.size = w.heap.size + 1 := by rw [hw0]; simp
 obtain ⟨w1, hw1⟩ : ∃ w1, w1 = w0.alloc (.cells #[.string m.name, .slice Bi m.imps.length di, .slice Bd m.decs.length dd] 33) := ⟨_, rfl⟩
 have B1 : Below w0.heap.size w0 w1 := by rw [hw1]; exact below_new (Below.refl _ _) _
 have P1 : w1.heap[w0.heap.size]? = some (.cells #[.string m.name, .slice Bi m.imps.length di, .slice Bd m.decs.length dd] 33 (0, 0)) := by rw [hw1]; exact heap_alloc_new w0 _
 have s1 : w1.heap.size = w0.heap.size + 1 := by rw [hw1]; simp
 have O1 := (B1.block w.heap.size (by omega)).trans O0
 rw [s0] at P1
 have HO := Lib.hid O1
 have HP := Lib.hid P1
 have B01 := below_over B0 B1
 have HB := Lib.hid B01
 have HI := Lib.hid (hI.below B01)
 have HI' := Lib.hid (hI'.below B01)
 have HD := Lib.hid (hD.below B01)
 have HD' := Lib.hid (hD'.below B01)
 have HW0 := Lib.hid hw0
 have HW1 := Lib.hid hw1
 have ho1 : w.heap.size < w1.heap.size := by omega
 have hp1 : w.heap.size + 1 < w1.heap.size := by omega
 have x0 := Lib.cell_of_heap O1 0
 have x1 := Lib.cell_of_heap O1 1
 have x2 := Lib.cell_of_heap O1 2
 have y0 := Lib.cell_of_heap P1 0
 have y1 := Lib.cell_of_heap P1 1
 have y2 := Lib.cell_of_heap P1 2
 simp at x0 x1 x2 y0 y1 y2
 obtain ⟨ni, hni⟩ : ∃ ni, ni = m.imps.length := ⟨_, rfl⟩
 obtain ⟨nd, hnd⟩ : ∃ nd, nd = m.decs.length := ⟨_, rfl⟩
 clear hI hD hI' hD' hw0 hw1 B0 O0 s0 B1 P1 s1 O1 B01
 rw [← hni] at z2 x1 y1 HW0 HW1 HO HP
 rw [← hnd] at z3 x2 y2 HW0 HW1 HO HP
 rw [← hni, ← hnd]
 have HNI := Lib.hid hni
 have HND := Lib.hid hnd
 clear hni hnd
 go_enter Tryz.func14, Tryz.ntmps14
 go_upto_region 1 with fail
 rw [← HW0.out, ← HW1.out]
 go_upto_region 4 with fail
 clear HW0 HW1
 go_loopw [5] (fun i wr => ∃ j : Nat, j ≤ ni ∧ i = .int .i64 j ∧ Below w1.heap.size w1 wr) (fun i _ => ni - (intOf i).toNat)
 case atStart => exact ⟨0, by omega, rfl, Below.refl _ _⟩
 case round =>
  obtain ⟨j, hj, rfl, hb⟩ := hrel
  obtain ⟨wo, rfl⟩ : ∃ wo : World, wo = wr := ⟨_, rfl⟩
  have O := (hb.block _ ho1).trans HO.out
  have P := (hb.block _ hp1).trans HP.out
  have x1 := Lib.cell_of_heap O 1
  have x2 := Lib.cell_of_heap O 2
  have y1 := Lib.cell_of_heap P 1
  have y2 := Lib.cell_of_heap P 2
  simp at x1 x2 y1 y2
  by_cases hlt : j < ni
  ·obtain ⟨x, hx⟩ : ∃ x, m.imps[j]? = some x := ⟨_, List.getElem?_eq_getElem (by rw [← HNI.out]; exact hlt)⟩
   obtain ⟨g, o, rfl, -, a0, a1, a2, a3, -⟩ := (HI.out.below hb).im hx
   obtain ⟨g', o', rfl, -, b0, b1, b2, b3, -⟩ := (HI'.out.below hb).im hx
   clear hx O P x2 y2
   go_wp2_with fail
   go_quiet (fail)
   go_wp2_with fail
   go_roundw
   case rel => exact ⟨j + 1, by omega, by go_num, below_drewN hb nq⟩
   case measure => simp [intOf]; omega
  ·clear O P
   go_wp2_with fail
   go_loopw [6] (fun i wr => ∃ j : Nat, j ≤ nd ∧ i = .int .i64 j ∧ Below w1.heap.size w1 wr) (fun i _ => nd - (intOf i).toNat)
   case atStart => exact ⟨0, by omega, rfl, hb⟩
   case round =>
    obtain ⟨k, hk, rfl, hb2⟩ := hrel
    obtain ⟨wi, rfl⟩ : ∃ wi : World, wi = wr := ⟨_, rfl⟩
    have O := (hb2.block _ ho1).trans HO.out
    have P := (hb2.block _ hp1).trans HP.out
    have x2 := Lib.cell_of_heap O 2
    have y2 := Lib.cell_of_heap P 2
    simp at x2 y2
    by_cases hlt2 : k < nd
    ·obtain ⟨x, hx⟩ : ∃ x, m.decs[k]? = some x := ⟨_, List.getElem?_eq_getElem (by rw [← HND.out]; exact hlt2)⟩
     obtain ⟨g, o, v0, v1, v2, v3, v4, v5, v6, rfl, hg, a0, a1, u0, u1, u2, u3, u4, u5, u6, us, -⟩ := (HD.out.below hb2).de hx
     obtain ⟨g', o', q0, q1, q2, q3, q4, q5, q6, rfl, hg', b0, b1, t0, t1, t2, t3, t4, t5, t6, ts, -⟩ := (HD'.out.below hb2).de hx
     have cP : ∀ dd os, Calls Tryz.prog 34 #[.agg #[v0, v1, v2, v3, v4, v5, v6], .agg #[q0, q1, q2, q3, q4, q5, q6]] (Sort.grow (redrawn wi dd) os) fun e w'' => e = .returned (.bool true) ∧ ∃ pp : Regrown, w'' = Sort.grow (redrawn wi pp.d) pp.os := fun dd os => Calls.regrown_of (by
      have := same_any _ x.typ x.typ (Nat.le_refl _) (.agg #[v0, v1, v2, v3, v4, v5, v6]) (.agg #[q0, q1, q2, q3, q4, q5, q6]) _ ⟨_, rfl, us.keep (below_regrown wi dd os)⟩ ⟨_, rfl, ts.keep (below_regrown wi dd os)⟩
      rwa [(sameT_iff x.typ x.typ).2 rfl] at this)
     have p0 := cell_regrown u0; have p1 := cell_regrown u1; have p2 := cell_regrown u2; have p3 := cell_regrown u3; have p4 := cell_regrown u4; have p5 := cell_regrown u5; have p6 := cell_regrown u6
     have r0 := cell_regrown t0; have r1 := cell_regrown t1; have r2 := cell_regrown t2; have r3 := cell_regrown t3; have r4 := cell_regrown t4; have r5 := cell_regrown t5; have r6 := cell_regrown t6
     have xx := cell_regrown x2; have yy := cell_regrown y2
     have HA0 := Lib.hid a0
     have HA1 := Lib.hid a1
     have HC0 := Lib.hid b0
     have HC1 := Lib.hid b1
     have HO2 := Lib.hid O
     have HP2 := Lib.hid P
     clear hx us ts O P a0 a1 b0 b1
     go_wp2_with fail
     refine wp_region_quiet_below (by kernel_rfl) (by kernel_rfl) ?_
     repeat (any_goals (first | go_big_quiet_step (with_reducible exact cP _ _) | quiet_step (with_reducible exact cP _ _)))
     refine wpQuiet_nil ?_
     intro _ hw'
     obtain ⟨⟨dq, osq⟩, hw''⟩ := hw'
     subst hw''
     have hb3 := below_over hb2 (below_regrown wi dq osq)
     have hbr := below_regrown wi dq osq
     obtain ⟨w5, hw5⟩ : ∃ w5, w5 = Sort.grow (redrawn wi dq) osq := ⟨_, rfl⟩
     rw [← hw5] at hb3 hbr ⊢
     have hgo : w.heap.size < wi.heap.size := (Array.getElem?_eq_some_iff.1 HO2.out).1
     have hgp : w.heap.size + 1 < wi.heap.size := (Array.getElem?_eq_some_iff.1 HP2.out).1
     have a0 := (hbr.cell (p := ⟨g, _, none⟩) hg).trans HA0.out
     have a1 := (hbr.cell (p := ⟨g, _, none⟩) hg).trans HA1.out
     have b0 := (hbr.cell (p := ⟨g', _, none⟩) hg').trans HC0.out
     have b1 := (hbr.cell (p := ⟨g', _, none⟩) hg').trans HC1.out
     have x2 := Lib.cell_of_heap ((hbr.block _ hgo).trans HO2.out) 2
     have y2 := Lib.cell_of_heap ((hbr.block _ hgp).trans HP2.out) 2
     simp at x2 y2
     have HB3 := Lib.hid hb3
     clear p0 p1 p2 p3 p4 p5 p6 r0 r1 r2 r3 r4 r5 r6 xx yy u0 u1 u2 u3 u4 u5 u6 t0 t1 t2 t3 t4 t5 t6 cP hw5 hb3 hbr HO2 HP2 HA0 HA1 HC0 HC1
     go_upto_region 12 with fail
     go_quiet (fail)
     go_wp2_with fail
     go_roundw
     case rel => exact ⟨k + 1, by omega, by go_num, below_drewN HB3.out nq⟩
     case measure => simp [intOf]; omega
    ·have FIN := Lib.hid (below_over HB.out hb2)
     clear O P
     go_wp2_with fail
     go_ret
     exact ⟨rfl, FIN.out⟩
end Go.Proofs.YtcdmgcgjonndpaaGreat

/-  -/
namespace Go.Proofs.YtcdmgcgjonndpaaGreat
open Go.RowKit
open M
set_option maxHeartbeats 2000000 in
theorem many_any (N : Nat) : ∀ (t : Ty), many t ≤ N → many t ≤ 9000 → ∀ (v : Value) (w : World), TyV w v t →
    Calls Tryz.prog 66 #[v] w fun e w' => e = .returned (.int .i64 (many t : Nat)) ∧ Below w.heap.size w w' := by
  induction N with
  | zero => intro t h; have := many_pos t; omega
  | succ N ih =>
    intro t hN hM v w hv
    obtain ⟨l, rfl, hT⟩ := hv
    obtain ⟨An, cn, As, cs, rfl, -, -, -, -, hz, -, hS⟩ := hT.parts
    have HS := Lib.hid hS
    have HE := Lib.hid (manyL_eq t)
    have HL := manyL_len t.subs
    have hM' : manyL t.subs ≤ 9000 := by have := HE.out; omega
    clear hT hS
    generalize hn : t.subs.length = n at hz HL
    have HN := Lib.hid hn
    clear hn
    go_enter Tryz.func66, Tryz.ntmps66
    go_wp2_with fail
    go_loopw [3, 4] (fun m i wr => ∃ k : Nat, k ≤ n ∧ i = .int .i64 k ∧ m = .int .i64 ((1 + manyL (t.subs.take k) : Nat) : Int) ∧ Below (boxed w #[.int .i64 t.kind, .string t.pkg, .int .i64 t.major, .string t.mod, .string t.name, .slice An t.names.length cn, .slice As n cs]).heap.size (boxed w #[.int .i64 t.kind, .string t.pkg, .int .i64 t.major, .string t.mod, .string t.name, .slice An t.names.length cn, .slice As n cs]) wr) (fun _ i _ => n - (intOf i).toNat)
    case atStart => exact ⟨0, by omega, rfl, by simp [manyL], Below.refl _ _⟩
    case round =>
      obtain ⟨k, hk, rfl, rfl, hb⟩ := hrel
      obtain ⟨wo, rfl⟩ : ∃ wo : World, wo = wr := ⟨_, rfl⟩
      have b6 := box_cell hb 6
      simp at b6
      have HB := Lib.hid (box_below hb)
      have htk := manyL_take_le t.subs k
      by_cases hlt : k < n
      · obtain ⟨s, hs⟩ : ∃ s, t.subs[k]? = some s := ⟨_, List.getElem?_eq_getElem (by rw [HN.out]; exact hlt)⟩
        obtain ⟨g, o, v0, v1, v2, v3, v4, v5, v6, rfl, -, h0, h1, h2, h3, h4, h5, h6, hs7⟩ := HS.out.below HB.out k s hs
        have hsm := sub_many hs
        have T1 := Lib.hid (manyL_take t.subs k s hs)
        have htk1 := manyL_take_le t.subs (k + 1)
        have IH := Lib.hid (ih s (by omega) (by omega) (.agg #[v0, v1, v2, v3, v4, v5, v6]) wo ⟨_, rfl, hs7⟩)
        have hsz : many s ≤ 9000 := by omega
        clear hs7 hs hsm
        go_wp2_with fail
        refine IH.out.mono ?_; rintro e w2 ⟨rfl, hb2⟩
        have hb3 := below_over hb hb2
        clear b6 h0 h1 h2 h3 h4 h5 h6 hb hb2
        go_wp2_with fail
        go_roundw
        case rel => exact ⟨k + 1, by omega, by go_num, by rw [T1.out]; go_num, hb3⟩
        case measure => simp [intOf]; omega
      · have hkn : k = n := by omega
        have T0 : Hid (many t = 1 + manyL (t.subs.take k)) := Lib.hid (by rw [HE.out, List.take_of_length_le (by rw [HN.out]; omega)])
        go_wp2_with fail
        go_ret
        exact ⟨ret_int' (by rw [T0.out]), HB.out⟩
theorem few_eq (t : Ty) (most : Int) : fewT t most = if most - 1 < 0 ∨ 200 < t.names.length then -1 else fewL t.subs (most - 1) := by cases t; rfl
theorem fewL_take : ∀ (l : List Ty) (k : Nat) (most : Int), fewL l most = fewL (l.drop k) (fewL (l.take k) most)
  | [], k, most => by simp [fewL]
  | t :: r, 0, most => rfl
  | t :: r, k + 1, most => by
    show (if 0 ≤ most then fewL r (fewT t most) else most) = fewL (r.drop k) (if 0 ≤ most then fewL (r.take k) (fewT t most) else most)
    split
    · exact fewL_take r k _
    · rw [fewL_neg _ _ (by omega)]
theorem fewL_snoc (l : List Ty) (k : Nat) (t : Ty) (most : Int) (h : l[k]? = some t) (h0 : 0 ≤ fewL (l.take k) most) : fewL (l.take (k + 1)) most = fewT t (fewL (l.take k) most) := by
  have hk := (List.getElem?_eq_some_iff.1 h).1
  have e := fewL_take (l.take (k + 1)) k most
  rw [List.take_take, Nat.min_eq_left (by omega)] at e
  have d : (l.take (k + 1)).drop k = [t] := by
    rw [List.take_add_one, h, List.drop_append_of_le_length (by simp; omega), List.drop_eq_nil_of_le (List.length_take_le _ _)]
    rfl
  rw [e, d]
  show (if 0 ≤ _ then fewL [] _ else _) = _
  rw [if_pos h0]; rfl
set_option maxHeartbeats 2000000 in
theorem few_any (N : Nat) : ∀ (t : Ty), many t ≤ N → ∀ (most : Int), -1 ≤ most → most ≤ 3000 → ∀ (v : Value) (w : World), TyV w v t →
    Calls Tryz.prog 35 #[v, .int .i64 most] w fun e w' => e = .returned (.int .i64 (fewT t most)) ∧ Below w.heap.size w w' := by
  induction N with
  | zero => intro t h; have := many_pos t; omega
  | succ N ih =>
    intro t hN most hlo hhi v w hv
    obtain ⟨l, rfl, hT⟩ := hv
    obtain ⟨An, cn, As, cs, rfl, -, -, -, hzn, hz, -, hS⟩ := hT.parts
    have HS := Lib.hid hS
    clear hT hS
    generalize hn : t.subs.length = n at hz
    have HN := Lib.hid hn
    clear hn
    have HE := Lib.hid (few_eq t most)
    by_cases hm : most - 1 < 0
    · have R : Hid (fewT t most = -1) := Lib.hid (by rw [HE.out, if_pos (.inl hm)])
      rw [R.out]
      go_enter Tryz.func35, Tryz.ntmps35
      go_wp2_with fail
      go_ret
      exact ⟨rfl, below_new (Below.refl _ _) _⟩
    generalize hq : t.names.length = q at hzn HE
    by_cases hl : 200 < q
    · have R : Hid (fewT t most = -1) := Lib.hid (by rw [HE.out, if_pos (.inr hl)])
      have hl' : (200 : Int) < q := by omega
      rw [R.out]
      clear hq
      go_enter Tryz.func35, Tryz.ntmps35
      go_wp2_with fail
      go_ret
      exact ⟨rfl, below_new (Below.refl _ _) _⟩
    have HR : Hid (fewT t most = fewL t.subs (most - 1)) := Lib.hid (by rw [HE.out, if_neg (by omega)])
    have hl' : ¬ (200 : Int) < q := by omega
    clear HE hq
    go_enter Tryz.func35, Tryz.ntmps35
    go_wp2_with fail
    go_loopw [1, 5] (fun m i wr => ∃ k : Nat, k ≤ n ∧ i = .int .i64 k ∧ m = .int .i64 (fewL (t.subs.take k) (most - 1)) ∧ Below (boxed w #[.int .i64 t.kind, .string t.pkg, .int .i64 t.major, .string t.mod, .string t.name, .slice An q cn, .slice As n cs]).heap.size (boxed w #[.int .i64 t.kind, .string t.pkg, .int .i64 t.major, .string t.mod, .string t.name, .slice An q cn, .slice As n cs]) wr) (fun _ i _ => n - (intOf i).toNat)
    case atStart => exact ⟨0, by omega, rfl, by simp [fewL], Below.refl _ _⟩
    case round =>
      obtain ⟨k, hk, rfl, rfl, hb⟩ := hrel
      obtain ⟨wo, rfl⟩ : ∃ wo : World, wo = wr := ⟨_, rfl⟩
      have b6 := box_cell hb 6
      simp at b6
      have HB := Lib.hid (box_below hb)
      have bd := fewL_bd (t.subs.take k) (most - 1) (by omega)
      by_cases hlt : k < n
      · by_cases h0 : 0 ≤ fewL (t.subs.take k) (most - 1)
        · obtain ⟨s, hs⟩ : ∃ s, t.subs[k]? = some s := ⟨_, List.getElem?_eq_getElem (by rw [HN.out]; exact hlt)⟩
          obtain ⟨g, o, v0, v1, v2, v3, v4, v5, v6, rfl, -, h0', h1, h2, h3, h4, h5, h6, hs7⟩ := HS.out.below HB.out k s hs
          have hsm := sub_many hs
          have T1 := Lib.hid (fewL_snoc t.subs k s (most - 1) hs h0)
          have IH := Lib.hid (ih s (by omega) (fewL (t.subs.take k) (most - 1)) (by omega) (by omega) (.agg #[v0, v1, v2, v3, v4, v5, v6]) wo ⟨_, rfl, hs7⟩)
          clear hs7 hs hsm
          generalize fewL (t.subs.take k) (most - 1) = z at h0 IH T1 bd
          go_wp2_with fail
          refine IH.out.mono ?_; rintro e w2 ⟨rfl, hb2⟩
          have hb3 := below_over hb hb2
          clear b6 h0' h1 h2 h3 h4 h5 h6 hb hb2
          go_wp2_with fail
          go_roundw
          case rel => exact ⟨k + 1, by omega, by go_num, by rw [T1.out], hb3⟩
          case measure => simp [intOf]; omega
        · have T0 : Hid (fewT t most = fewL (t.subs.take k) (most - 1)) := Lib.hid (by rw [HR.out, fewL_take t.subs k, fewL_neg _ _ (by omega)])
          generalize fewL (t.subs.take k) (most - 1) = z at h0 T0 bd
          go_wp2_with fail
          go_ret
          exact ⟨ret_int' T0.out, HB.out⟩
      · have T0 : Hid (fewT t most = fewL (t.subs.take k) (most - 1)) := Lib.hid (by rw [HR.out, List.take_of_length_le (by rw [HN.out]; omega)])
        generalize fewL (t.subs.take k) (most - 1) = z at T0 bd
        go_wp2_with fail
        go_ret
        exact ⟨ret_int' T0.out, HB.out⟩
end Go.Proofs.YtcdmgcgjonndpaaGreat

/-  -/
namespace Go.Proofs.YtcdmgcgjonndpaaGreat
open Go.RowKit
open M
end Go.Proofs.YtcdmgcgjonndpaaGreat

/-  -/
namespace Go.Proofs.YtcdmgcgjonndpaaGreat
open Go.RowKit
open M
end Go.Proofs.YtcdmgcgjonndpaaGreat

/-  -/
namespace Go.Proofs.YtcdmgcgjonndpaaGreat
open Go.RowKit
open Go.Sort
open M
def mayI (x : Im) : Bool := smallB x.pkg.data.toList && (smallB x.mod.data.toList && (smallB x.asn.data.toList && (decide (1 ≤ x.major) && decide (x.major ≤ 999999999))))
def mayD (d : De) : Bool :=
  if d.kind = 1 ∨ d.kind = 2 then greatB d.name.data.toList && sameT d.typ noT
  else if d.kind = 3 then greatB d.name.data.toList && mayT d.typ
  else if d.kind = 4 then smallB d.name.data.toList && mayT d.typ
  else false
end Go.Proofs.YtcdmgcgjonndpaaGreat
