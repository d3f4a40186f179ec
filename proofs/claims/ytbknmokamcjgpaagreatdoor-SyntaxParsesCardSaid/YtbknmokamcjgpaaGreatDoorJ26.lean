/-
  Several texts in one: The walk of the reference's Same: are two types alike? · The walk of ExprParses: whatever text is handed in. · Tokens that come in: a slice of tokens handed in is a slice whose cells hold two ints and a text each.
-/
import Derived.Test.YtbknmokamcjgpaaGreatDoorJ01
import Derived.Test.YtbknmokamcjgpaaGreatDoorJ25
import Derived.Deep.QuietTactic
import Derived.BigQuiet
import Derived.Lib.QuietBelow
import Derived.Lib.Strings
import Derived.Test.YtbknmokamcjgpaaGreatDoorJ24
import Derived.Test.YtbknmokamcjgpaaGreatDoorJ21
import Derived.Test.YtbknmokamcjgpaaGreatDoorChecked
import Derived.ProofKit
import Derived.OpenShut
import Derived.Lib.SmallJoins
import Derived.Deep.Slices
import Derived.Deep.Strs
import Derived.DataReads
import Derived.WideShapes
import Derived.Below
/- The walk of the reference's Same: are two types alike? -/
namespace Go.Proofs.YtbknmokamcjgpaaGreatDoor
open Go.RowKit
open Go.Sort
open M

set_option maxRecDepth 100000 in
set_option maxHeartbeats 8000000 in
theorem same_any (N : Nat) : ∀ (a b : Ty), many a ≤ N → ∀ (v v' : Value) (w : World), TyV w v a → TyV w v' b →
    Calls Tryz.prog 10 #[v, v'] w fun e w' => e = .returned (.bool (sameT a b)) ∧ Below w.heap.size w w' := by
  induction N with
  | zero => intro a b h; have := many_pos a; omega
  | succ N ih =>
  intro a b hN v v' w hv hv'
  obtain ⟨l, rfl, hT⟩ := hv
  obtain ⟨An, cn, As, cs, rfl, -, -, -, hzn, hz, hNA, hS⟩ := hT.parts
  obtain ⟨l', rfl, hT'⟩ := hv'
  obtain ⟨Bn, cn', Bs, cs', rfl, -, -, -, hzn', hz', hNB, hS'⟩ := hT'.parts
  clear hT hT'
  have HSM := Lib.hid (fun (i : Nat) (s : Ty) (h : a.subs[i]? = some s) => sub_many h)
  obtain ⟨k, p, m, d, n, ns, ss⟩ := a
  obtain ⟨k', p', m', d', n', ns', ss'⟩ := b
  simp only [Ty.kind, Ty.pkg, Ty.major, Ty.mod, Ty.name, Ty.names, Ty.subs] at *
  have HNA := Lib.hid hNA
  have HNB := Lib.hid hNB
  have HSA := Lib.hid hS
  have HSB := Lib.hid hS'
  clear hNA hNB hS hS'
  generalize hq : ns.length = q at hzn
  generalize hq' : ns'.length = q' at hzn'
  generalize hr : ss.length = r at hz
  generalize hr' : ss'.length = r' at hz'
  have HQ := Lib.hid hq
  have HQ' := Lib.hid hq'
  have HR := Lib.hid hr
  have HR' := Lib.hid hr'
  clear hq hq' hr hr'
  by_cases h1 : k = k'
  rotate_left
  · have R : Hid (sameT (.mk k p m d n ns ss) (.mk k' p' m' d' n' ns' ss') = false) := Lib.hid (sameT_no (fun e => by injection e with e1 e2 e3 e4 e5 e6 e7; exact h1 e1))
    rw [R.out]
    have f1 : (k == k') = false := by simpa using h1
    have f2 : (k != k') = true := by simpa using h1
    clear h1
    as_aux_lemma =>
    go_enter Tryz.func10, Tryz.ntmps10
    go_wp2_with fail
    go_ret
    exact ⟨rfl, below_new (below_new (Below.refl _ _) _) _⟩
  subst h1
  by_cases h2 : p = p'
  rotate_left
  · have R : Hid (sameT (.mk k p m d n ns ss) (.mk k p' m' d' n' ns' ss') = false) := Lib.hid (sameT_no (fun e => by injection e with e1 e2 e3 e4 e5 e6 e7; exact h2 e2))
    rw [R.out]
    have f1 : (p.toList == p'.toList) = false := by
      rw [beq_eq_false_iff_ne, ne_eq, Lib.toList_data, Lib.toList_data, bytes_list]
      exact h2
    have f2 : (!(p.toList == p'.toList)) = true := by rw [f1]; rfl
    have f3 : ¬ p.toList = p'.toList := by simpa using f1
    clear h2
    as_aux_lemma =>
    go_enter Tryz.func10, Tryz.ntmps10
    go_wp2_with fail
    go_ret
    exact ⟨rfl, below_new (below_new (Below.refl _ _) _) _⟩
  subst h2
  by_cases h3 : m = m'
  rotate_left
  · have R : Hid (sameT (.mk k p m d n ns ss) (.mk k p m' d' n' ns' ss') = false) := Lib.hid (sameT_no (fun e => by injection e with e1 e2 e3 e4 e5 e6 e7; exact h3 e3))
    rw [R.out]
    have f1 : (m == m') = false := by simpa using h3
    have f2 : (m != m') = true := by simpa using h3
    clear h3
    as_aux_lemma =>
    go_enter Tryz.func10, Tryz.ntmps10
    go_wp2_with fail
    go_ret
    exact ⟨rfl, below_new (below_new (Below.refl _ _) _) _⟩
  subst h3
  by_cases h4 : d = d'
  rotate_left
  · have R : Hid (sameT (.mk k p m d n ns ss) (.mk k p m d' n' ns' ss') = false) := Lib.hid (sameT_no (fun e => by injection e with e1 e2 e3 e4 e5 e6 e7; exact h4 e4))
    rw [R.out]
    have f1 : (d.toList == d'.toList) = false := by
      rw [beq_eq_false_iff_ne, ne_eq, Lib.toList_data, Lib.toList_data, bytes_list]
      exact h4
    have f2 : (!(d.toList == d'.toList)) = true := by rw [f1]; rfl
    have f3 : ¬ d.toList = d'.toList := by simpa using f1
    clear h4
    as_aux_lemma =>
    go_enter Tryz.func10, Tryz.ntmps10
    go_wp2_with fail
    go_ret
    exact ⟨rfl, below_new (below_new (Below.refl _ _) _) _⟩
  subst h4
  by_cases h5 : n = n'
  rotate_left
  · have R : Hid (sameT (.mk k p m d n ns ss) (.mk k p m d n' ns' ss') = false) := Lib.hid (sameT_no (fun e => by injection e with e1 e2 e3 e4 e5 e6 e7; exact h5 e5))
    rw [R.out]
    have f1 : (n.toList == n'.toList) = false := by
      rw [beq_eq_false_iff_ne, ne_eq, Lib.toList_data, Lib.toList_data, bytes_list]
      exact h5
    have f2 : (!(n.toList == n'.toList)) = true := by rw [f1]; rfl
    have f3 : ¬ n.toList = n'.toList := by simpa using f1
    clear h5
    as_aux_lemma =>
    go_enter Tryz.func10, Tryz.ntmps10
    go_wp2_with fail
    go_ret
    exact ⟨rfl, below_new (below_new (Below.refl _ _) _) _⟩
  subst h5
  by_cases h6 : q = q'
  rotate_left
  · have R : Hid (sameT (.mk k p m d n ns ss) (.mk k p m d n ns' ss') = false) := Lib.hid (sameT_no (fun e => by injection e with e1 e2 e3 e4 e5 e6 e7; exact h6 (by rw [← HQ.out, ← HQ'.out, e6])))
    rw [R.out]
    have f1 : ((q : Int) == q') = false := by simp; omega
    have f2 : ((q : Int) != q') = true := by simp; omega
    have f3 : ¬ (q : Int) = q' := by omega
    have f4 : ¬ q = q' := by omega
    clear h6
    as_aux_lemma =>
    go_enter Tryz.func10, Tryz.ntmps10
    go_wp2_with fail
    go_ret
    exact ⟨rfl, below_new (below_new (Below.refl _ _) _) _⟩
  subst h6
  by_cases h7 : r = r'
  rotate_left
  · have R : Hid (sameT (.mk k p m d n ns ss) (.mk k p m d n ns' ss') = false) := Lib.hid (sameT_no (fun e => by injection e with e1 e2 e3 e4 e5 e6 e7; exact h7 (by rw [← HR.out, ← HR'.out, e7])))
    rw [R.out]
    have f1 : ((r : Int) == r') = false := by simp; omega
    have f2 : ((r : Int) != r') = true := by simp; omega
    have f3 : ¬ (r : Int) = r' := by omega
    have f4 : ¬ r = r' := by omega
    clear h7
    as_aux_lemma =>
    go_enter Tryz.func10, Tryz.ntmps10
    go_wp2_with fail
    go_ret
    exact ⟨rfl, below_new (below_new (Below.refl _ _) _) _⟩
  subst h7
  go_enter Tryz.func10, Tryz.ntmps10
  go_wp2_with fail
  go_loopw [5] (fun i wr => ∃ j : Nat, j ≤ q ∧ i = .int .i64 j ∧ Hid (∀ x (s s' : ByteArray), x < j → ns[x]? = some s → ns'[x]? = some s' → s = s') ∧ Below (boxed (boxed w #[.int .i64 k, .string p, .int .i64 m, .string d, .string n, .slice An q cn, .slice As r cs]) #[.int .i64 k, .string p, .int .i64 m, .string d, .string n, .slice Bn q cn', .slice Bs r cs']).heap.size (boxed (boxed w #[.int .i64 k, .string p, .int .i64 m, .string d, .string n, .slice An q cn, .slice As r cs]) #[.int .i64 k, .string p, .int .i64 m, .string d, .string n, .slice Bn q cn', .slice Bs r cs']) wr) (fun i _ => q - (intOf i).toNat)
  case atStart => exact ⟨0, by omega, rfl, Lib.hid (fun x s s' h => by omega), Below.refl _ _⟩
  case round =>
    obtain ⟨j, hj, rfl, HP, hb⟩ := hrel
    obtain ⟨wo, rfl⟩ : ∃ wo : World, wo = wr := ⟨_, rfl⟩
    have HB1 := Lib.hid (box_below hb)
    have HB := Lib.hid (box_below HB1.out)
    have a5 := box_cell HB1.out 5
    have b5 := box_cell hb 5
    simp [boxed] at a5 b5
    by_cases hlt : j < q
    · obtain ⟨s, hs⟩ : ∃ s, ns[j]? = some s := ⟨_, List.getElem?_eq_getElem (by rw [HQ.out]; exact hlt)⟩
      obtain ⟨s', hs'⟩ : ∃ s, ns'[j]? = some s := ⟨_, List.getElem?_eq_getElem (by rw [HQ'.out]; exact hlt)⟩
      obtain ⟨g, o, rfl, -, a0, -⟩ := HNA.out.below HB.out j s hs
      obtain ⟨g', o', rfl, -, b0, -⟩ := HNB.out.below HB.out j s' hs'
      by_cases he : s = s'
      · subst he
        have HSS := Lib.hid hs
        have HSS' := Lib.hid hs'
        clear hs hs'
        go_wp2_with fail
        go_quiet (fail)
        go_wp2_with fail
        go_roundw
        case rel => exact ⟨j + 1, by omega, by go_num, Lib.hid (fun x y y' hx hy hy' => by
          rcases Nat.lt_or_ge x j with a | a
          · exact HP.out x y y' a hy hy'
          · rw [show x = j by omega] at hy hy'
            rw [HSS.out] at hy; rw [HSS'.out] at hy'
            rw [← Option.some.inj hy, ← Option.some.inj hy']), below_drewN hb nq⟩
        case measure => simp [intOf]; omega
      · have R : Hid (sameT (.mk k p m d n ns ss) (.mk k p m d n ns' ss') = false) := Lib.hid (sameT_no (fun e => by
          injection e with e1 e2 e3 e4 e5 e6 e7
          rw [e6, hs'] at hs
          exact he (Option.some.inj hs).symm))
        have f1 : (s.toList == s'.toList) = false := by
          rw [beq_eq_false_iff_ne, ne_eq, Lib.toList_data, Lib.toList_data, bytes_list]; exact he
        have f2 : (!(s.toList == s'.toList)) = true := by rw [f1]; rfl
        have f3 : ¬ s.toList = s'.toList := by simpa using f1
        clear he hs hs'
        go_wp2_with fail
        go_quiet (fail)
        go_wp2_with fail
        go_ret
        exact ⟨ret_bool R.out, below_drewN HB.out nq⟩
    · have hjq : j = q := by omega
      have NE : Hid (ns = ns') := Lib.hid (list_ext' (by rw [HQ.out, HQ'.out]) (fun x s s' h1 h2 => HP.out x s s' (by have := (List.getElem?_eq_some_iff.1 h1).1; rw [HQ.out] at this; omega) h1 h2))
      clear HP
      have HA6 := box_cell HB1.out 6
      have HB6 := box_cell hb 6
      simp [boxed] at HA6 HB6
      go_wp2_with fail
      go_loopw [6] (fun i wr => ∃ x : Nat, x ≤ r ∧ i = .int .i64 x ∧ Hid (∀ y (s s' : Ty), y < x → ss[y]? = some s → ss'[y]? = some s' → s = s') ∧ Below (boxed (boxed w #[.int .i64 k, .string p, .int .i64 m, .string d, .string n, .slice An q cn, .slice As r cs]) #[.int .i64 k, .string p, .int .i64 m, .string d, .string n, .slice Bn q cn', .slice Bs r cs']).heap.size (boxed (boxed w #[.int .i64 k, .string p, .int .i64 m, .string d, .string n, .slice An q cn, .slice As r cs]) #[.int .i64 k, .string p, .int .i64 m, .string d, .string n, .slice Bn q cn', .slice Bs r cs']) wr) (fun i _ => r - (intOf i).toNat)
      case atStart => exact ⟨0, by omega, rfl, Lib.hid (fun x s s' h => by omega), hb⟩
      case round =>
        obtain ⟨x, hx, rfl, HP2, hb2⟩ := hrel
        obtain ⟨wi, rfl⟩ : ∃ wi : World, wi = wr := ⟨_, rfl⟩
        have HI1 := Lib.hid (box_below hb2)
        have HI := Lib.hid (box_below HI1.out)
        have a6 := box_cell HI1.out 6
        have b6 := box_cell hb2 6
        simp [boxed] at a6 b6
        clear HA6 HB6 a5 b5
        by_cases hlt2 : x < r
        · obtain ⟨s, hs⟩ : ∃ s, ss[x]? = some s := ⟨_, List.getElem?_eq_getElem (by rw [HR.out]; exact hlt2)⟩
          obtain ⟨s', hs'⟩ : ∃ s, ss'[x]? = some s := ⟨_, List.getElem?_eq_getElem (by rw [HR'.out]; exact hlt2)⟩
          obtain ⟨g, o, v0, v1, v2, v3, v4, v5, v6, rfl, -, u0, u1, u2, u3, u4, u5, u6, us⟩ := HSA.out.below HI.out x s hs
          obtain ⟨g', o', z0, z1, z2, z3, z4, z5, z6, rfl, -, t0, t1, t2, t3, t4, t5, t6, ts⟩ := HSB.out.below HI.out x s' hs'
          have hsm := HSM.out x s hs
          have cP : ∀ dd os, Calls Tryz.prog 10 #[.agg #[v0, v1, v2, v3, v4, v5, v6], .agg #[z0, z1, z2, z3, z4, z5, z6]] (Sort.grow (redrawn wi dd) os) fun e w'' => e = .returned (.bool (sameT s s')) ∧ ∃ pp : Regrown, w'' = Sort.grow (redrawn wi pp.d) pp.os := fun dd os => Calls.regrown_of (ih s s' (by omega) _ _ _ ⟨_, rfl, us.keep (below_regrown wi dd os)⟩ ⟨_, rfl, ts.keep (below_regrown wi dd os)⟩)
          have p0 := cell_regrown u0; have p1 := cell_regrown u1; have p2 := cell_regrown u2; have p3 := cell_regrown u3; have p4 := cell_regrown u4; have p5 := cell_regrown u5; have p6 := cell_regrown u6
          have r0 := cell_regrown t0; have r1 := cell_regrown t1; have r2 := cell_regrown t2; have r3 := cell_regrown t3; have r4 := cell_regrown t4; have r5 := cell_regrown t5; have r6 := cell_regrown t6
          have x6 := cell_regrown a6; have y6 := cell_regrown b6
          have HSS := Lib.hid hs
          have HSS' := Lib.hid hs'
          clear hs hs' us ts hsm
          go_wp2_with fail
          refine wp_region_quiet_below (by kernel_rfl) (by kernel_rfl) ?_
          repeat (any_goals (first | go_big_quiet_step (with_reducible exact cP _ _) | quiet_step (with_reducible exact cP _ _)))
          refine wpQuiet_nil ?_
          intro _ hw'
          obtain ⟨⟨dq, osq⟩, hw''⟩ := hw'
          subst hw''
          have hb3 := below_over hb2 (below_regrown wi dq osq)
          clear p0 p1 p2 p3 p4 p5 p6 r0 r1 r2 r3 r4 r5 r6 x6 y6 u0 u1 u2 u3 u4 u5 u6 t0 t1 t2 t3 t4 t5 t6 cP a6 b6
          rcases hid_or (sameT s s') with hS | hS
          · have R : Hid (sameT (.mk k p m d n ns ss) (.mk k p m d n ns' ss') = false) := Lib.hid (sameT_no (fun e => by
              injection e with e1 e2 e3 e4 e5 e6 e7
              have hs := HSS.out
              rw [e7, HSS'.out] at hs
              have h := hS.out
              rw [Option.some.inj hs] at h
              rw [(sameT_iff s s).2 rfl] at h
              cases h))
            rw [hS.out]
            go_wp2_with fail
            go_ret
            exact ⟨ret_bool R.out, box_below (box_below hb3)⟩
          · have e := (sameT_iff s s').1 hS.out
            have HEQ := Lib.hid e
            clear e
            rw [hS.out]
            go_wp2_with fail
            go_roundw
            case rel => exact ⟨x + 1, by omega, by go_num, Lib.hid (fun y q1 q2 hy h1 h2 => by
              rcases Nat.lt_or_ge y x with a | a
              · exact HP2.out y q1 q2 a h1 h2
              · rw [show y = x by omega] at h1 h2
                rw [HSS.out] at h1; rw [HSS'.out] at h2
                rw [← Option.some.inj h1, ← Option.some.inj h2]
                exact HEQ.out), hb3⟩
            case measure => simp [intOf]; omega
        · have SE : Hid (ss = ss') := Lib.hid (list_ext' (by rw [HR.out, HR'.out]) (fun y s s' h1 h2 => HP2.out y s s' (by have := (List.getElem?_eq_some_iff.1 h1).1; rw [HR.out] at this; omega) h1 h2))
          have R : Hid (sameT (.mk k p m d n ns ss) (.mk k p m d n ns' ss') = true) := Lib.hid (by rw [sameT_iff, NE.out, SE.out])
          go_wp2_with fail
          go_ret
          exact ⟨ret_bool R.out, HI.out⟩

end Go.Proofs.YtbknmokamcjgpaaGreatDoor

/- The walk of ExprParses: whatever text is handed in. -/
namespace Go.Proofs.YtbknmokamcjgpaaGreatDoor
open Go.RowKit
open Go.Sort
open M

theorem told_any (g : Nat) (j b : Nat) (w : World) (hg : ErrT w) (h : SpC g j b w) :
    Calls Tryz.prog 12 #[.iface 63 (.pointer (some ⟨g, 0, none⟩)), .int .i64 b, .int .i64 j] w fun e w' => e = .returned (.bool true) ∧ Below w.heap.size w w' := by
  have IS := Lib.hid (isSpot_any g j b w hg h.1 h.2.1 h.2.2)
  have h0 : ¬ (j : Int) < 0 := by omega
  clear hg h
  go_enter Tryz.func12, Tryz.ntmps12
  go_wp2_with fail
  refine IS.out.mono ?_; rintro e w1 ⟨rfl, hb1⟩
  go_wp2_with fail
  go_ret
  exact ⟨rfl, hb1⟩

def exA5 : ByteArray := ⟨#[123, 98, 58, 32, 73, 110, 116, 44, 32, 97, 58, 32, 84, 101, 120, 116, 125]⟩
def exB5 : ByteArray := ⟨#[123, 97, 58, 32, 73, 110, 116, 44, 32, 97, 58, 32, 84, 101, 120, 116, 125]⟩
def exT5 : Ty := .mk 5 ⟨#[]⟩ 0 ⟨#[]⟩ ⟨#[]⟩ [⟨#[97]⟩, ⟨#[98]⟩] [leafK 2, leafK 1]
theorem exA5_res : parR exA5 = .ok exT5 9 3 := by kernel_rfl
theorem exB5_res : parR exB5 = .err 5 5 := by kernel_rfl

set_option maxRecDepth 100000 in
set_option maxHeartbeats 4000000 in
theorem up5_any (w : World) (he : CEnv w) (hg : ErrT w) : Calls Tryz.prog 8 #[] w fun e w' => e = .returned (.bool true) ∧ Below w.heap.size w w' := by
  have PA := cparse_any exA5 w (by decide) he
  rw [exA5_res] at PA
  have HPA := Lib.hid PA
  have HE := Lib.hid he
  have HG := Lib.hid hg
  clear PA he hg
  go_enter Tryz.func8, Tryz.ntmps8
  go_wp2_with fail
  refine HPA.out.mono ?_
  rintro e w1 ⟨B1, ⟨l, t, j, c, hok, rfl, hT⟩ | ⟨b, j, g, herr, -⟩⟩
  rotate_left
  · cases herr
  cases hok
  obtain ⟨An, cA, As, cS, rfl, -, -, -, -, -, hN, hS⟩ := hT.free.parts
  obtain ⟨w2, hw2⟩ : ∃ w2, w2 = w1.alloc (.cells #[.int .i64 5, .string ⟨#[]⟩, .int .i64 0, .string ⟨#[]⟩, .string ⟨#[]⟩, .slice An 2 cA, .slice As 2 cS] 26) := ⟨_, rfl⟩
  have B2 : Below w1.heap.size w1 w2 := by rw [hw2]; exact below_new (Below.refl _ _) _
  have O2 : w2.heap[w1.heap.size]? = some (.cells #[.int .i64 5, .string ⟨#[]⟩, .int .i64 0, .string ⟨#[]⟩, .string ⟨#[]⟩, .slice An 2 cA, .slice As 2 cS] 26 (0, 0)) := by rw [hw2]; exact heap_alloc_new w1 _
  have B02 := below_over B1 B2
  have PB := cparse_any exB5 w2 (by decide) (HE.out.on B02)
  rw [exB5_res] at PB
  have HPB := Lib.hid PB
  have HB02 := Lib.hid B02
  have HN := Lib.hid hN
  have HS := Lib.hid hS
  have HO2 := Lib.hid O2
  have HB2 := Lib.hid B2
  have HW2 := Lib.hid hw2
  clear hT hN hS B1 B2 O2 PB B02 hw2 HPA
  go_upto_region 2 with fail
  unfold exT5
  simp only [Ty.kind, Ty.pkg, Ty.major, Ty.mod, Ty.name, Ty.names, Ty.subs, List.length_cons, List.length_nil]
  rw [← HW2.out]
  go_wp2_with fail
  refine HPB.out.mono ?_
  rintro e w3 ⟨B3, ⟨l, t, j, c, hok, -⟩ | ⟨b, j, g, herr, -, rfl, hsp⟩⟩
  · cases hok
  cases herr
  obtain ⟨w4, hw4⟩ : ∃ w4, w4 = w3.alloc (.cells #[.int .i64 0, .string ⟨#[]⟩, .int .i64 0, .string ⟨#[]⟩, .string ⟨#[]⟩, .slice none 0 0, .slice none 0 0] 26) := ⟨_, rfl⟩
  have B4 : Below w3.heap.size w3 w4 := by rw [hw4]; exact below_new (Below.refl _ _) _
  have B24 := below_over B3 B4
  have IS := Lib.hid (isSpot_any g 5 5 w4 (HG.out.on (below_over HB02.out B24)) (hsp.below B4).1 (hsp.below B4).2.1 (hsp.below B4).2.2)
  have hl2 := (Array.getElem?_eq_some_iff.1 HO2.out).1
  have O4 := (B24.block _ hl2).trans HO2.out
  have z0 : w4.cell? ⟨w1.heap.size, 0, none⟩ = some (.int .i64 5) := Lib.cell_of_heap O4 0
  have z5 : w4.cell? ⟨w1.heap.size, 5, none⟩ = some (.slice An 2 cA) := Lib.cell_of_heap O4 5
  have z6 : w4.cell? ⟨w1.heap.size, 6, none⟩ = some (.slice As 2 cS) := Lib.cell_of_heap O4 6
  have B14 := below_over HB2.out B24
  obtain ⟨g1, o1, rfl, hg1, n0, -⟩ := HN.out 0 ⟨#[97]⟩ rfl
  obtain ⟨g2, o2, v0, v1, v2, v3, v4, v5, v6, rfl, hg2, s0, -, -, -, -, -, -, hT2⟩ := HS.out 0 (leafK 2) rfl
  have hv0 : v0 = .int .i64 2 := by
    obtain ⟨_, _, _, _, e, -⟩ := hT2.parts
    simp at e
    exact e.1
  subst hv0
  have k0 : w4.cell? ⟨g1, o1, none⟩ = some (.string ⟨#[97]⟩) := (B14.cell (p := ⟨g1, _, none⟩) hg1).trans n0
  have k1 : w4.cell? ⟨g2, o2, none⟩ = some (.int .i64 2) := (B14.cell (p := ⟨g2, _, none⟩) hg2).trans (by simpa using s0)
  have FIN := Lib.hid (below_over HB02.out B24)
  have HW4 := Lib.hid hw4
  clear hw4 B3 B4 B24 hsp O4 hg1 hg2 n0 s0 hT2 B14 HN HS HO2 HB2 HPB hl2
  go_upto_region 3 with fail
  rw [← HW4.out]
  go_wp2_with fail
  refine IS.out.mono ?_; rintro e w5 ⟨rfl, hb5⟩
  go_wp2_with fail
  go_ret
  exact ⟨rfl, below_over FIN.out hb5⟩

theorem noT_at (w : World) : TyV w (.agg #[.int .i64 0, .string ⟨#[]⟩, .int .i64 0, .string ⟨#[]⟩, .string ⟨#[]⟩, .slice none 0 0, .slice none 0 0]) noT := ⟨_, rfl, TyAt.zero w⟩
theorem same_noT : sameT noT noT = true := (sameT_iff _ _).2 rfl

set_option maxRecDepth 100000 in
set_option maxHeartbeats 4000000 in
theorem exprParses_any (s : ByteArray) (w : World) (he : CEnv w) (hg : ErrT w) : Calls Tryz.prog 3 #[.string s] w fun e w' => e = .returned (.bool true) ∧ Below w.heap.size w w' := by
  have UP := Lib.hid (up5_any w he hg)
  have HE := Lib.hid he
  have HG := Lib.hid hg
  have SZ : Hid (∀ w, Calls Tryz.prog 10 #[.agg #[.int .i64 0, .string ⟨#[]⟩, .int .i64 0, .string ⟨#[]⟩, .string ⟨#[]⟩, .slice none 0 0, .slice none 0 0], .agg #[.int .i64 0, .string ⟨#[]⟩, .int .i64 0, .string ⟨#[]⟩, .string ⟨#[]⟩, .slice none 0 0, .slice none 0 0]] w fun e w' => e = .returned (.bool true) ∧ Below w.heap.size w w') := Lib.hid (fun w => by
    have := same_any _ noT noT (Nat.le_refl _) _ _ w (noT_at w) (noT_at w)
    rwa [same_noT] at this)
  clear he hg
  by_cases hn : 20000 < s.size
  · have hn' : (20000 : Int) < s.size := by omega
    have hec := sp_eqCode 3 3
    go_enter Tryz.func3, Tryz.ntmps3
    go_wp2_with fail
    refine UP.out.mono ?_; rintro e w1 ⟨rfl, hb1⟩
    go_wp2_with fail
    refine (cparse_large s w1 hn).mono ?_; rintro e w2 ⟨rfl, hb2⟩
    obtain ⟨w3, hw3⟩ : ∃ w3, w3 = w2.alloc (.cells #[.int .i64 0, .string ⟨#[]⟩, .int .i64 0, .string ⟨#[]⟩, .string ⟨#[]⟩, .slice none 0 0, .slice none 0 0] 26) := ⟨_, rfl⟩
    have B3 : Below w2.heap.size w2 w3 := by rw [hw3]; exact below_new (Below.refl _ _) _
    have O3 : w3.heap[w2.heap.size]? = some (.cells #[.int .i64 0, .string ⟨#[]⟩, .int .i64 0, .string ⟨#[]⟩, .string ⟨#[]⟩, .slice none 0 0, .slice none 0 0] 26 (0, 0)) := by rw [hw3]; exact heap_alloc_new w2 _
    have B03 := Lib.hid (below_over (below_over hb1 hb2) B3)
    have x0 := Lib.cell_of_heap O3 0
    have x1 := Lib.cell_of_heap O3 1
    have x2 := Lib.cell_of_heap O3 2
    have x3 := Lib.cell_of_heap O3 3
    have x4 := Lib.cell_of_heap O3 4
    have x5 := Lib.cell_of_heap O3 5
    have x6 := Lib.cell_of_heap O3 6
    simp at x0 x1 x2 x3 x4 x5 x6
    have HW3 := Lib.hid hw3
    clear hw3 hb1 hb2 B3 O3
    go_upto_region 3 with fail
    rw [← HW3.out]
    go_wp2_with fail
    refine (SZ.out _).mono ?_; rintro e w4 ⟨rfl, hb4⟩
    go_wp2_with fail
    go_ret
    exact ⟨rfl, below_over B03.out hb4⟩
  · have hs : s.size ≤ 20000 := by omega
    have hn' : ¬ (20000 : Int) < s.size := by omega
    have PC : Hid (∀ w, CEnv w → Calls Tryz.prog 9 #[.string s] w (PrOut w (parR s))) := Lib.hid (fun w he => cparse_any s w hs he)
    have PR : Hid (∀ w, Calls Tryz.prog 11 #[.string s] w (RrOut w (parR s))) := Lib.hid (fun w => rparse_any s w hs)
    clear hs
    cases hR : parR s with
    | ok t j c =>
      rw [hR] at PC PR
      clear hR
      go_enter Tryz.func3, Tryz.ntmps3
      go_wp2_with fail
      refine UP.out.mono ?_; rintro e w1 ⟨rfl, hb1⟩
      go_wp2_with fail
      refine (PC.out w1 (HE.out.on hb1)).mono ?_
      rintro e w2 ⟨hb2, ⟨l, t', j', c', hok, rfl, hT⟩ | ⟨b, j', g, herr, -⟩⟩
      rotate_left
      · cases herr
      cases hok
      obtain ⟨An, cA, As, cS, rfl, -⟩ := hT.parts
      obtain ⟨w3, hw3⟩ : ∃ w3, w3 = w2.alloc (.cells #[.int .i64 t.kind, .string t.pkg, .int .i64 t.major, .string t.mod, .string t.name, .slice An t.names.length cA, .slice As t.subs.length cS] 26) := ⟨_, rfl⟩
      have B3 : Below w2.heap.size w2 w3 := by rw [hw3]; exact below_new (Below.refl _ _) _
      have O3 : w3.heap[w2.heap.size]? = some (.cells #[.int .i64 t.kind, .string t.pkg, .int .i64 t.major, .string t.mod, .string t.name, .slice An t.names.length cA, .slice As t.subs.length cS] 26 (0, 0)) := by rw [hw3]; exact heap_alloc_new w2 _
      have B03 := Lib.hid (below_over (below_over hb1 hb2) B3)
      have HT3 : Hid (TyV w3 (.agg #[.int .i64 t.kind, .string t.pkg, .int .i64 t.major, .string t.mod, .string t.name, .slice An t.names.length cA, .slice As t.subs.length cS]) t) := Lib.hid ((show TyV w2 (.agg #[.int .i64 t.kind, .string t.pkg, .int .i64 t.major, .string t.mod, .string t.name, .slice An t.names.length cA, .slice As t.subs.length cS]) t from ⟨_, rfl, hT.free⟩).below B3)
      have HO3 := Lib.hid O3
      have HW3 := Lib.hid hw3
      clear hw3 hb1 hb2 B3 O3 hT
      go_upto_region 3 with fail
      rw [← HW3.out]
      go_upto_region 5 with fail
      go_wp2_with fail
      refine (PR.out w3).mono ?_
      rintro e w4 ⟨hb4, ⟨l, t', j', c', hok, rfl, hT⟩ | ⟨b, j', herr, -⟩⟩
      rotate_left
      · cases herr
      cases hok
      obtain ⟨Bn, dA, Bs, dS, rfl, -⟩ := hT.parts
      obtain ⟨w5, hw5⟩ : ∃ w5, w5 = w4.alloc (.cells #[.int .i64 t.kind, .string t.pkg, .int .i64 t.major, .string t.mod, .string t.name, .slice Bn t.names.length dA, .slice Bs t.subs.length dS] 26) := ⟨_, rfl⟩
      have B5 : Below w4.heap.size w4 w5 := by rw [hw5]; exact below_new (Below.refl _ _) _
      have O5 : w5.heap[w4.heap.size]? = some (.cells #[.int .i64 t.kind, .string t.pkg, .int .i64 t.major, .string t.mod, .string t.name, .slice Bn t.names.length dA, .slice Bs t.subs.length dS] 26 (0, 0)) := by rw [hw5]; exact heap_alloc_new w4 _
      have B35 := below_over hb4 B5
      have SM := same_any _ t t (Nat.le_refl _) (.agg #[.int .i64 t.kind, .string t.pkg, .int .i64 t.major, .string t.mod, .string t.name, .slice An t.names.length cA, .slice As t.subs.length cS]) (.agg #[.int .i64 t.kind, .string t.pkg, .int .i64 t.major, .string t.mod, .string t.name, .slice Bn t.names.length dA, .slice Bs t.subs.length dS]) w5 (HT3.out.below B35) ((show TyV w4 (.agg #[.int .i64 t.kind, .string t.pkg, .int .i64 t.major, .string t.mod, .string t.name, .slice Bn t.names.length dA, .slice Bs t.subs.length dS]) t from ⟨_, rfl, hT.free⟩).below B5)
      rw [(sameT_iff t t).2 rfl] at SM
      have HSM := Lib.hid SM
      have O35 := (B35.block _ (Array.getElem?_eq_some_iff.1 HO3.out).1).trans HO3.out
      have B05 := Lib.hid (below_over B03.out B35)
      have x0 := Lib.cell_of_heap O35 0
      have x1 := Lib.cell_of_heap O35 1
      have x2 := Lib.cell_of_heap O35 2
      have x3 := Lib.cell_of_heap O35 3
      have x4 := Lib.cell_of_heap O35 4
      have x5 := Lib.cell_of_heap O35 5
      have x6 := Lib.cell_of_heap O35 6
      have y0 := Lib.cell_of_heap O5 0
      have y1 := Lib.cell_of_heap O5 1
      have y2 := Lib.cell_of_heap O5 2
      have y3 := Lib.cell_of_heap O5 3
      have y4 := Lib.cell_of_heap O5 4
      have y5 := Lib.cell_of_heap O5 5
      have y6 := Lib.cell_of_heap O5 6
      simp at x0 x1 x2 x3 x4 x5 x6 y0 y1 y2 y3 y4 y5 y6
      have HW5 := Lib.hid hw5
      clear hw5 hb4 B5 O5 B35 hT SM O35 HT3 HO3 HW3 UP
      go_upto_region 6 with fail
      rw [← HW5.out]
      go_wp2_with fail
      refine HSM.out.mono ?_; rintro e w6 ⟨rfl, hb6⟩
      go_wp2_with fail
      go_ret
      exact ⟨rfl, below_over B05.out hb6⟩
    | err b j =>
      rw [hR] at PC PR
      clear hR
      go_enter Tryz.func3, Tryz.ntmps3
      go_wp2_with fail
      refine UP.out.mono ?_; rintro e w1 ⟨rfl, hb1⟩
      go_wp2_with fail
      refine (PC.out w1 (HE.out.on hb1)).mono ?_
      rintro e w2 ⟨hb2, ⟨l, t', j', c', hok, -⟩ | ⟨b', j', g, herr, hb, rfl, hsp⟩⟩
      · cases hok
      cases herr
      obtain ⟨w3, hw3⟩ : ∃ w3, w3 = w2.alloc (.cells #[.int .i64 0, .string ⟨#[]⟩, .int .i64 0, .string ⟨#[]⟩, .string ⟨#[]⟩, .slice none 0 0, .slice none 0 0] 26) := ⟨_, rfl⟩
      have B3 : Below w2.heap.size w2 w3 := by rw [hw3]; exact below_new (Below.refl _ _) _
      have O3 : w3.heap[w2.heap.size]? = some (.cells #[.int .i64 0, .string ⟨#[]⟩, .int .i64 0, .string ⟨#[]⟩, .string ⟨#[]⟩, .slice none 0 0, .slice none 0 0] 26 (0, 0)) := by rw [hw3]; exact heap_alloc_new w2 _
      have B03 := Lib.hid (below_over (below_over hb1 hb2) B3)
      have HSP := Lib.hid (hsp.below B3)
      have HO3 := Lib.hid O3
      have HW3 := Lib.hid hw3
      clear hw3 hb1 hb2 B3 O3 hsp
      go_upto_region 3 with fail
      rw [← HW3.out]
      go_upto_region 5 with fail
      go_wp2_with fail
      refine (PR.out w3).mono ?_
      rintro e w4 ⟨hb4, ⟨l, t', j', c', hok, -⟩ | ⟨b', j', herr, -, rfl⟩⟩
      · cases hok
      cases herr
      obtain ⟨w5, hw5⟩ : ∃ w5, w5 = w4.alloc (.cells #[.int .i64 0, .string ⟨#[]⟩, .int .i64 0, .string ⟨#[]⟩, .string ⟨#[]⟩, .slice none 0 0, .slice none 0 0] 26) := ⟨_, rfl⟩
      have B5 : Below w4.heap.size w4 w5 := by rw [hw5]; exact below_new (Below.refl _ _) _
      have B35 := below_over hb4 B5
      have TD := Lib.hid (told_any g j b w5 (HG.out.on (below_over B03.out B35)) (HSP.out.below B35))
      have HO5 := Lib.hid ((B35.block _ (Array.getElem?_eq_some_iff.1 HO3.out).1).trans HO3.out)
      have B05 := Lib.hid (below_over B03.out B35)
      have HW5 := Lib.hid hw5
      have hb1 : (((b : Nat) : Int) == 0) = false := by simp; omega
      have hb2 : (((b : Nat) : Int) != 0) = true := by simp; omega
      clear hw5 hb4 B5 B35 HO3 HW3 UP hb
      go_upto_region 6 with fail
      rw [← HW5.out]
      go_wp2_with fail
      refine TD.out.mono ?_; rintro e w6 ⟨rfl, hb6⟩
      have O6 := (hb6.block _ (Array.getElem?_eq_some_iff.1 HO5.out).1).trans HO5.out
      have B06 := Lib.hid (below_over B05.out hb6)
      have x0 := Lib.cell_of_heap O6 0
      have x1 := Lib.cell_of_heap O6 1
      have x2 := Lib.cell_of_heap O6 2
      have x3 := Lib.cell_of_heap O6 3
      have x4 := Lib.cell_of_heap O6 4
      have x5 := Lib.cell_of_heap O6 5
      have x6 := Lib.cell_of_heap O6 6
      simp at x0 x1 x2 x3 x4 x5 x6
      clear hb6 O6 TD
      go_wp2_with fail
      refine (SZ.out _).mono ?_; rintro e w7 ⟨rfl, hb7⟩
      go_wp2_with fail
      go_ret
      exact ⟨rfl, below_over B06.out hb7⟩

end Go.Proofs.YtbknmokamcjgpaaGreatDoor

/- Tokens that come in: a slice of tokens handed in is a slice whose cells hold two ints and a text each. -/
namespace Go.Proofs.YtbknmokamcjgpaaGreatDoor
open Go Go.ChangeShapes Go.WideShapes Go.ChangeAt Go.RowKit Go.Joins Go.Deep

/-- A slice of n tokens with these texts. -/
def TextsAt (w : World) (A : Option Addr) (n : Nat) (T : Nat → ByteArray) : Prop :=
  ∀ i, i < n → ∃ (g o : Nat) (x y : Int), A = some ⟨g, o, none⟩ ∧ g < w.heap.size ∧ w.cell? ⟨g, o + i * 3, none⟩ = some (.int .i64 x) ∧ w.cell? ⟨g, o + i * 3 + 1, none⟩ = some (.int .i64 y) ∧ w.cell? ⟨g, o + i * 3 + 2, none⟩ = some (.string (T i))
theorem TextsAt.below {w w' : World} {A : Option Addr} {n : Nat} {T : Nat → ByteArray} (h : TextsAt w A n T) (hb : Below w.heap.size w w') : TextsAt w' A n T := by
  intro i hi
  obtain ⟨g, o, x, y, hA, hg, h0, h1, h2⟩ := h i hi
  exact ⟨g, o, x, y, hA, Nat.lt_of_lt_of_le hg hb.size, (hb.cell (p := ⟨g, _, none⟩) hg).trans h0, (hb.cell (p := ⟨g, _, none⟩) hg).trans h1, (hb.cell (p := ⟨g, _, none⟩) hg).trans h2⟩

theorem tokCellsOf : Tryz.prog.cellsOf 39 = 3 := by kernel_rfl
theorem tokenCells1 : Tryz.prog.cellsOf 3 = 1 := by kernel_rfl
theorem tokenCells2 : Tryz.prog.cellsOf 9 = 1 := by kernel_rfl

section
variable {H : Type} {enc : TypeId × Value → H} {w : World} {base : Nat} {sp : Nat → Bool} {held : Bool}
/-- The cells of a token: two ints and a text. -/
theorem tok_cells {fuel : Nat} {c0 c1 c2 : Value} {x : DataW H × List MemPlace} (h : DataW.trod enc Tryz.prog w base sp held fuel 39 [c0, c1, c2] = some x) : ∃ (a b : Int) (s : ByteArray), c0 = .int .i64 a ∧ c1 = .int .i64 b ∧ c2 = .string s := by
  obtain ⟨y0, y1, y2, n, -, -, h0, h1, h2⟩ := trod_struct3 Tryz.underlying39 h
  obtain ⟨a, e0, -, -⟩ := DataW.trod_int Tryz.underlying3 h0
  obtain ⟨b, e1, -, -⟩ := DataW.trod_int Tryz.underlying3 h1
  obtain ⟨s, e2, -, -⟩ := DataW.trod_string Tryz.underlying9 h2
  simp [tokenCells1, tokenCells2] at e0 e1 e2
  exact ⟨a, b, s, e0, e1, e2⟩
theorem list3 {α : Type} : ∀ l : List α, l.length = 3 → ∃ a b c, l = [a, b, c]
  | [a, b, c], _ => ⟨a, b, c, rfl⟩
  | [], h => by simp at h
  | [_], h => by simp at h
  | [_, _], h => by simp at h
  | _ :: _ :: _ :: _ :: _, h => by simp at h

set_option maxRecDepth 100000 in
/-- A slice of tokens handed in. -/
theorem open_toks {r : Reach} {b0 : Nat} {v : Value} {d : DataW H} {p : List MemPlace} (hv : Value.okWide Tryz.prog w r b0 37 v) (h : DataW.Trod enc Tryz.prog w base sp held 37 v d p) :
    ∃ (A : Option Addr) (n c : Nat) (T : Nat → ByteArray), v = .slice A n c ∧ n ≤ maxLen ∧ TextsAt w A n T := by
  obtain ⟨a, n, c, rfl⟩ := okWide_slice Tryz.underlying37 hv
  obtain ⟨fuel, hf⟩ := h
  rcases open_slice Tryz.underlying37 hf with ⟨hc, -⟩ | ⟨a', len, cap, m, k, D, Pl, hc, hb, hl, hm, hmm, -, hi⟩
  · simp [Value.cells] at hc
    obtain ⟨rfl, rfl, rfl⟩ := hc
    exact ⟨none, 0, 0, fun _ => ⟨#[]⟩, rfl, Nat.zero_le _, fun i hi => absurd hi (Nat.not_lt_zero i)⟩
  · simp [Value.cells] at hc
    obtain ⟨rfl, rfl, rfl⟩ := hc
    have hnm : n ≤ m := by
      rw [hmm]; split
      · exact hl
      · exact Nat.le_refl _
    have hall : ∀ i, i < n → ∃ (g o : Nat) (x y : Int) (s : ByteArray), some a' = some (⟨g, o, none⟩ : Addr) ∧ g < w.heap.size ∧ w.cell? ⟨g, o + i * 3, none⟩ = some (.int .i64 x) ∧ w.cell? ⟨g, o + i * 3 + 1, none⟩ = some (.int .i64 y) ∧ w.cell? ⟨g, o + i * 3 + 2, none⟩ = some (.string s) := by
      have hplain : ∀ i, i < n → ∃ (x y : Int) (s : ByteArray), w.cell? ((a'.add (i * 3)).add 0) = some (.int .i64 x) ∧ w.cell? ((a'.add (i * 3)).add 1) = some (.int .i64 y) ∧ w.cell? ((a'.add (i * 3)).add 2) = some (.string s) := by
        intro i hin
        obtain ⟨cs', h1, h2⟩ := hi i (by omega)
        rw [tokCellsOf] at h1
        obtain ⟨-, hlen, hat⟩ := World.cells?_some h1
        obtain ⟨c0, c1, c2, rfl⟩ := list3 cs' hlen
        obtain ⟨x, y, s, rfl, rfl, rfl⟩ := tok_cells h2
        exact ⟨x, y, s, hat 0 (by omega), hat 1 (by omega), hat 2 (by omega)⟩
      intro i hin
      obtain ⟨b, o, spot⟩ := a'
      obtain ⟨x0, y0, s0, k0, -, -⟩ := hplain 0 (by omega)
      have hspot : spot = none := by simpa [Addr.add] using World.cell?_spot k0
      subst hspot
      obtain ⟨x, y, s, k0', k1, k2⟩ := hplain i hin
      rw [WideShapes.add_plain, WideShapes.add_plain] at k0' k1 k2
      refine ⟨b, o, x, y, s, rfl, ?_, by simpa using k0', k1, k2⟩
      exact World.block_lt_of_cell? w _ k2
    refine ⟨some a', n, c, fun i => if h : i < n then (hall i h).choose_spec.choose_spec.choose_spec.choose_spec.choose else ⟨#[]⟩, rfl, Nat.le_trans hl hm, fun i hin => ?_⟩
    have hs := (hall i hin).choose_spec.choose_spec.choose_spec.choose_spec.choose_spec
    refine ⟨_, _, _, _, hs.1, hs.2.1, hs.2.2.1, hs.2.2.2.1, ?_⟩
    simp only [dif_pos hin]
    exact hs.2.2.2.2
end
end Go.Proofs.YtbknmokamcjgpaaGreatDoor
