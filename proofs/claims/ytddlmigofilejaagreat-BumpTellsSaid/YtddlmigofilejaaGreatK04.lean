/-
  Several texts in one.
-/
import Derived.Test.YtddlmigofilejaaGreatK03
set_option maxRecDepth 100000
set_option maxHeartbeats 8000000
namespace Go.Proofs.YtddlmigofilejaaGreat
open Go.RowKit
open Go.Sort
open M
theorem same_any (N : Nat) : ∀ (a b : Ty), many a <= N -> ∀ (v v' : Value) (w : World), TyV w v a -> TyV w v' b ->
  Calls Tryz.prog 53 #[v, v'] w fun e w' => e = .returned (.bool (sameT a b)) /\ Below w.heap.size w w' := by
 induction N with
 | zero => intro a b h; have := many_pos a; omega
 | succ N ih =>
 intro a b hN v v' w hv hv'
 obtain ⟨l, rfl, hT⟩ := hv
 obtain ⟨An, cn, As, cs, rfl, -, -, -, hzn, hz, hNA, hS⟩ := hT.parts
 obtain ⟨l', rfl, hT'⟩ := hv'
 obtain ⟨Bn, cn', Bs, cs', rfl, -, -, -, hzn', hz', hNB, hS'⟩ := hT'.parts
 clear hT hT'
 have HSM := hZ (fun (i : Nat) (s : Ty) (h : a.subs[i]? = some s) => sub_many h)
 obtain ⟨k, p, m, d, n, ns, ss⟩ := a
 obtain ⟨k', p', m', d', n', ns', ss'⟩ := b
 simp only [Ty.kind, Ty.pkg, Ty.major, Ty.mod, Ty.name, Ty.names, Ty.subs] at *
 have HNA := hZ hNA
 have HNB := hZ hNB
 have HSA := hZ hS
 have HSB := hZ hS'
 clear hNA hNB hS hS'
 generalize hq : ns.length = q at hzn
 generalize hq' : ns'.length = q' at hzn'
 generalize hr : ss.length = r at hz
 generalize hr' : ss'.length = r' at hz'
 have HQ := hZ hq
 have HQ' := hZ hq'
 have HR := hZ hr
 have HR' := hZ hr'
 clear hq hq' hr hr'
 by_cases h1 : k = k'
 rotate_left
 ·have R : Hid (sameT (.mk k p m d n ns ss) (.mk k' p' m' d' n' ns' ss') = false) := hZ (sameT_no (fun e => by injection e with e1 e2 e3 e4 e5 e6 e7; exact h1 e1))
  rw [R.out];have f1 : (k == k') = false := by simpa using h1
  have f2 : (k != k') = true := by simpa using h1
  clear h1;as_aux_lemma =>
  go_enter Tryz.func53, Tryz.ntmps53
  go_wp2_with fail
  go_ret;exact ⟨rfl, below_new (below_new (Below.refl _ _) _) _⟩
 subst h1
 by_cases h2 : p = p'
 rotate_left
 ·have R : Hid (sameT (.mk k p m d n ns ss) (.mk k p' m' d' n' ns' ss') = false) := hZ (sameT_no (fun e => by injection e with e1 e2 e3 e4 e5 e6 e7; exact h2 e2))
  rw [R.out]
  have f1 : (p.toList == p'.toList) = false := by
   rw [beq_eq_false_iff_ne, ne_eq, Lib.toList_data, Lib.toList_data, bytes_list];exact h2
  have f2 : (!(p.toList == p'.toList)) = true := by rw [f1]; rfl
  have f3 : ¬ p.toList = p'.toList := by simpa using f1
  clear h2;as_aux_lemma =>
  go_enter Tryz.func53, Tryz.ntmps53
  go_wp2_with fail
  go_ret;exact ⟨rfl, below_new (below_new (Below.refl _ _) _) _⟩
 subst h2
 by_cases h3 : m = m'
 rotate_left
 ·have R : Hid (sameT (.mk k p m d n ns ss) (.mk k p m' d' n' ns' ss') = false) := hZ (sameT_no (fun e => by injection e with e1 e2 e3 e4 e5 e6 e7; exact h3 e3))
  rw [R.out];have f1 : (m == m') = false := by simpa using h3
  have f2 : (m != m') = true := by simpa using h3
  clear h3;as_aux_lemma =>
  go_enter Tryz.func53, Tryz.ntmps53
  go_wp2_with fail
  go_ret;exact ⟨rfl, below_new (below_new (Below.refl _ _) _) _⟩
 subst h3
 by_cases h4 : d = d'
 rotate_left
 ·have R : Hid (sameT (.mk k p m d n ns ss) (.mk k p m d' n' ns' ss') = false) := hZ (sameT_no (fun e => by injection e with e1 e2 e3 e4 e5 e6 e7; exact h4 e4))
  rw [R.out]
  have f1 : (d.toList == d'.toList) = false := by
   rw [beq_eq_false_iff_ne, ne_eq, Lib.toList_data, Lib.toList_data, bytes_list];exact h4
  have f2 : (!(d.toList == d'.toList)) = true := by rw [f1]; rfl
  have f3 : ¬ d.toList = d'.toList := by simpa using f1
  clear h4;as_aux_lemma =>
  go_enter Tryz.func53, Tryz.ntmps53
  go_wp2_with fail
  go_ret;exact ⟨rfl, below_new (below_new (Below.refl _ _) _) _⟩
 subst h4
 by_cases h5 : n = n'
 rotate_left
 ·have R : Hid (sameT (.mk k p m d n ns ss) (.mk k p m d n' ns' ss') = false) := hZ (sameT_no (fun e => by injection e with e1 e2 e3 e4 e5 e6 e7; exact h5 e5))
  rw [R.out]
  have f1 : (n.toList == n'.toList) = false := by
   rw [beq_eq_false_iff_ne, ne_eq, Lib.toList_data, Lib.toList_data, bytes_list];exact h5
  have f2 : (!(n.toList == n'.toList)) = true := by rw [f1]; rfl
  have f3 : ¬ n.toList = n'.toList := by simpa using f1
  clear h5;as_aux_lemma =>
  go_enter Tryz.func53, Tryz.ntmps53
  go_wp2_with fail
  go_ret;exact ⟨rfl, below_new (below_new (Below.refl _ _) _) _⟩
 subst h5
 by_cases h6 : q = q'
 rotate_left
 ·have R : Hid (sameT (.mk k p m d n ns ss) (.mk k p m d n ns' ss') = false) := hZ (sameT_no (fun e => by injection e with e1 e2 e3 e4 e5 e6 e7; exact h6 (by rw [<- HQ.out, <- HQ'.out, e6])))
  rw [R.out];have f1 : ((q : Int) == q') = false := by simp; omega
  have f2 : ((q : Int) != q') = true := by simp; omega
  have f3 : ¬ (q : Int) = q' := by omega
  have f4 : ¬ q = q' := by omega
  clear h6;as_aux_lemma =>
  go_enter Tryz.func53, Tryz.ntmps53
  go_wp2_with fail
  go_ret;exact ⟨rfl, below_new (below_new (Below.refl _ _) _) _⟩
 subst h6
 by_cases h7 : r = r'
 rotate_left
 ·have R : Hid (sameT (.mk k p m d n ns ss) (.mk k p m d n ns' ss') = false) := hZ (sameT_no (fun e => by injection e with e1 e2 e3 e4 e5 e6 e7; exact h7 (by rw [<- HR.out, <- HR'.out, e7])))
  rw [R.out];have f1 : ((r : Int) == r') = false := by simp; omega
  have f2 : ((r : Int) != r') = true := by simp; omega
  have f3 : ¬ (r : Int) = r' := by omega
  have f4 : ¬ r = r' := by omega
  clear h7;as_aux_lemma =>
  go_enter Tryz.func53, Tryz.ntmps53
  go_wp2_with fail
  go_ret;exact ⟨rfl, below_new (below_new (Below.refl _ _) _) _⟩
 subst h7
 go_enter Tryz.func53, Tryz.ntmps53
 go_wp2_with fail
 go_loopw [5] (fun i wr => ∃ j : Nat, j <= q /\ i = .int .i64 j /\ Hid (∀ x (s s' : ByteArray), x < j -> ns[x]? = some s -> ns'[x]? = some s' -> s = s') /\ Below (boxed (boxed w #[.int .i64 k, .string p, .int .i64 m, .string d, .string n, .slice An q cn, .slice As r cs]) #[.int .i64 k, .string p, .int .i64 m, .string d, .string n, .slice Bn q cn', .slice Bs r cs']).heap.size (boxed (boxed w #[.int .i64 k, .string p, .int .i64 m, .string d, .string n, .slice An q cn, .slice As r cs]) #[.int .i64 k, .string p, .int .i64 m, .string d, .string n, .slice Bn q cn', .slice Bs r cs']) wr) (fun i _ => q - (intOf i).toNat)
 case atStart => exact ⟨0, by omega, rfl, hZ (fun x s s' h => by omega), Below.refl _ _⟩
 case round =>
  obtain ⟨j, hj, rfl, HP, hb⟩ := hrel;obtain ⟨wo, rfl⟩ : ∃ wo : World, wo = wr := ⟨_, rfl⟩;have HB1 := hZ (box_below hb);have HB := hZ (box_below HB1.out);have a5 := box_cell HB1.out 5;have b5 := box_cell hb 5;simp [boxed] at a5 b5;by_cases hlt : j < q
  ·obtain ⟨s, hs⟩ : ∃ s, ns[j]? = some s := ⟨_, List.getElem?_eq_getElem (by rw [HQ.out]; exact hlt)⟩
   obtain ⟨s', hs'⟩ : ∃ s, ns'[j]? = some s := ⟨_, List.getElem?_eq_getElem (by rw [HQ'.out]; exact hlt)⟩;obtain ⟨g, o, rfl, -, a0, -⟩ := HNA.out.below HB.out j s hs;obtain ⟨g', o', rfl, -, b0, -⟩ := HNB.out.below HB.out j s' hs';by_cases he : s = s'
   ·subst he
    have HSS := hZ hs;have HSS' := hZ hs'
    clear hs hs';go_wp2_with fail
    go_quiet (fail)
    go_wp2_with fail
    go_roundw
    case rel => exact ⟨j + 1, by omega, by go_num, hZ (fun x y y' hx hy hy' => by
     rcases Nat.lt_or_ge x j with a | a
     ·exact HP.out x y y' a hy hy'
     ·rw [show x = j by omega] at hy hy'
      rw [HSS.out] at hy; rw [HSS'.out] at hy'
      rw [<- Option.some.inj hy, <- Option.some.inj hy']), below_drewN hb nq⟩
    case measure => simp [intOf]; omega
   ·have R : Hid (sameT (.mk k p m d n ns ss) (.mk k p m d n ns' ss') = false) := hZ (sameT_no (fun e => by
     injection e with e1 e2 e3 e4 e5 e6 e7
     rw [e6, hs'] at hs;exact he (Option.some.inj hs).symm))
    have f1 : (s.toList == s'.toList) = false := by
     rw [beq_eq_false_iff_ne, ne_eq, Lib.toList_data, Lib.toList_data, bytes_list]; exact he
    have f2 : (!(s.toList == s'.toList)) = true := by rw [f1]; rfl
    have f3 : ¬ s.toList = s'.toList := by simpa using f1
    clear he hs hs';go_wp2_with fail
    go_quiet (fail)
    go_wp2_with fail
    go_ret;exact ⟨ret_bool R.out, below_drewN HB.out nq⟩
  ·have hjq : j = q := by omega
   have NE : Hid (ns = ns') := hZ (list_ext' (by rw [HQ.out, HQ'.out]) (fun x s s' h1 h2 => HP.out x s s' (by have := (List.getElem?_eq_some_iff.1 h1).1; rw [HQ.out] at this; omega) h1 h2));clear HP;have HA6 := box_cell HB1.out 6;have HB6 := box_cell hb 6;simp [boxed] at HA6 HB6;go_wp2_with fail
   go_loopw [6] (fun i wr => ∃ x : Nat, x <= r /\ i = .int .i64 x /\ Hid (∀ y (s s' : Ty), y < x -> ss[y]? = some s -> ss'[y]? = some s' -> s = s') /\ Below (boxed (boxed w #[.int .i64 k, .string p, .int .i64 m, .string d, .string n, .slice An q cn, .slice As r cs]) #[.int .i64 k, .string p, .int .i64 m, .string d, .string n, .slice Bn q cn', .slice Bs r cs']).heap.size (boxed (boxed w #[.int .i64 k, .string p, .int .i64 m, .string d, .string n, .slice An q cn, .slice As r cs]) #[.int .i64 k, .string p, .int .i64 m, .string d, .string n, .slice Bn q cn', .slice Bs r cs']) wr) (fun i _ => r - (intOf i).toNat)
   case atStart => exact ⟨0, by omega, rfl, hZ (fun x s s' h => by omega), hb⟩
   case round =>
    obtain ⟨x, hx, rfl, HP2, hb2⟩ := hrel;obtain ⟨wi, rfl⟩ : ∃ wi : World, wi = wr := ⟨_, rfl⟩;have HI1 := hZ (box_below hb2);have HI := hZ (box_below HI1.out);have a6 := box_cell HI1.out 6;have b6 := box_cell hb2 6;simp [boxed] at a6 b6;clear HA6 HB6 a5 b5;by_cases hlt2 : x < r
    ·obtain ⟨s, hs⟩ : ∃ s, ss[x]? = some s := ⟨_, List.getElem?_eq_getElem (by rw [HR.out]; exact hlt2)⟩
     obtain ⟨s', hs'⟩ : ∃ s, ss'[x]? = some s := ⟨_, List.getElem?_eq_getElem (by rw [HR'.out]; exact hlt2)⟩;obtain ⟨g, o, v0, v1, v2, v3, v4, v5, v6, rfl, -, u0, u1, u2, u3, u4, u5, u6, us⟩ := HSA.out.below HI.out x s hs;obtain ⟨g', o', z0, z1, z2, z3, z4, z5, z6, rfl, -, t0, t1, t2, t3, t4, t5, t6, ts⟩ := HSB.out.below HI.out x s' hs';have hsm := HSM.out x s hs;have cP : ∀ dd os, Calls Tryz.prog 53 #[.agg #[v0, v1, v2, v3, v4, v5, v6], .agg #[z0, z1, z2, z3, z4, z5, z6]] (Sort.grow (redrawn wi dd) os) fun e w'' => e = .returned (.bool (sameT s s')) /\ ∃ pp : Regrown, w'' = Sort.grow (redrawn wi pp.d) pp.os := fun dd os => Calls.regrown_of (ih s s' (by omega) _ _ _ ⟨_, rfl, us.keep (below_regrown wi dd os)⟩ ⟨_, rfl, ts.keep (below_regrown wi dd os)⟩)
     have p0 := cell_regrown u0; have p1 := cell_regrown u1; have p2 := cell_regrown u2; have p3 := cell_regrown u3; have p4 := cell_regrown u4; have p5 := cell_regrown u5; have p6 := cell_regrown u6
     have r0 := cell_regrown t0; have r1 := cell_regrown t1; have r2 := cell_regrown t2; have r3 := cell_regrown t3; have r4 := cell_regrown t4; have r5 := cell_regrown t5; have r6 := cell_regrown t6
     have x6 := cell_regrown a6; have y6 := cell_regrown b6
     have HSS := hZ hs;have HSS' := hZ hs'
     clear hs hs' us ts hsm;go_wp2_with fail
     refine wp_region_quiet_below (by kernel_rfl) (by kernel_rfl) ?_;repeat (any_goals (first | go_big_quiet_step (with_reducible exact cP _ _) | quiet_step (with_reducible exact cP _ _)))
     refine wpQuiet_nil ?_;intro _ hw';obtain ⟨⟨dq, osq⟩, hw''⟩ := hw';subst hw'';have hb3 := below_over hb2 (below_regrown wi dq osq);clear p0 p1 p2 p3 p4 p5 p6 r0 r1 r2 r3 r4 r5 r6 x6 y6 u0 u1 u2 u3 u4 u5 u6 t0 t1 t2 t3 t4 t5 t6 cP a6 b6;rcases hid_or (sameT s s') with hS | hS
     ·have R : Hid (sameT (.mk k p m d n ns ss) (.mk k p m d n ns' ss') = false) := hZ (sameT_no (fun e => by
       injection e with e1 e2 e3 e4 e5 e6 e7
       have hs := HSS.out;rw [e7, HSS'.out] at hs;have h := hS.out;rw [Option.some.inj hs] at h;rw [(sameT_iff s s).2 rfl] at h;cases h))
      rw [hS.out];go_wp2_with fail
      go_ret;exact ⟨ret_bool R.out, box_below (box_below hb3)⟩
     ·have e := (sameT_iff s s').1 hS.out
      have HEQ := hZ e;clear e;rw [hS.out];go_wp2_with fail
      go_roundw
      case rel => exact ⟨x + 1, by omega, by go_num, hZ (fun y q1 q2 hy h1 h2 => by
       rcases Nat.lt_or_ge y x with a | a
       ·exact HP2.out y q1 q2 a h1 h2
       ·rw [show y = x by omega] at h1 h2
        rw [HSS.out] at h1; rw [HSS'.out] at h2
        rw [<- Option.some.inj h1, <- Option.some.inj h2];exact HEQ.out), hb3⟩
      case measure => simp [intOf]; omega
    ·have SE : Hid (ss = ss') := hZ (list_ext' (by rw [HR.out, HR'.out]) (fun y s s' h1 h2 => HP2.out y s s' (by have := (List.getElem?_eq_some_iff.1 h1).1; rw [HR.out] at this; omega) h1 h2))
     have R : Hid (sameT (.mk k p m d n ns ss) (.mk k p m d n ns' ss') = true) := hZ (by rw [sameT_iff, NE.out, SE.out]);go_wp2_with fail
     go_ret;exact ⟨ret_bool R.out, HI.out⟩
end Go.Proofs.YtddlmigofilejaaGreat
namespace Go.Proofs.YtddlmigofilejaaGreat
open Go.RowKit
open M
theorem many_any (N : Nat) : ∀ (t : Ty), many t <= N -> many t <= 9000 -> ∀ (v : Value) (w : World), TyV w v t ->
  Calls Tryz.prog 115 #[v] w fun e w' => e = .returned (.int .i64 (many t : Nat)) /\ Below w.heap.size w w' := by
 induction N with
 | zero => intro t h; have := many_pos t; omega
 | succ N ih =>
  intro t hN hM v w hv;obtain ⟨l, rfl, hT⟩ := hv;obtain ⟨An, cn, As, cs, rfl, -, -, -, -, hz, -, hS⟩ := hT.parts;have HS := hZ hS;have HE := hZ (manyL_eq t);have HL := manyL_len t.subs;have hM' : manyL t.subs <= 9000 := by have := HE.out; omega
  clear hT hS;generalize hn : t.subs.length = n at hz HL
  have HN := hZ hn;clear hn;go_enter Tryz.func115, Tryz.ntmps115
  go_wp2_with fail
  go_loopw [3, 4] (fun m i wr => ∃ k : Nat, k <= n /\ i = .int .i64 k /\ m = .int .i64 ((1 + manyL (t.subs.take k) : Nat) : Int) /\ Below (boxed w #[.int .i64 t.kind, .string t.pkg, .int .i64 t.major, .string t.mod, .string t.name, .slice An t.names.length cn, .slice As n cs]).heap.size (boxed w #[.int .i64 t.kind, .string t.pkg, .int .i64 t.major, .string t.mod, .string t.name, .slice An t.names.length cn, .slice As n cs]) wr) (fun _ i _ => n - (intOf i).toNat)
  case atStart => exact ⟨0, by omega, rfl, by simp [manyL], Below.refl _ _⟩
  case round =>
   obtain ⟨k, hk, rfl, rfl, hb⟩ := hrel;obtain ⟨wo, rfl⟩ : ∃ wo : World, wo = wr := ⟨_, rfl⟩;have b6 := box_cell hb 6;simp at b6;have HB := hZ (box_below hb);have htk := manyL_take_le t.subs k;by_cases hlt : k < n
   ·obtain ⟨s, hs⟩ : ∃ s, t.subs[k]? = some s := ⟨_, List.getElem?_eq_getElem (by rw [HN.out]; exact hlt)⟩
    obtain ⟨g, o, v0, v1, v2, v3, v4, v5, v6, rfl, -, h0, h1, h2, h3, h4, h5, h6, hs7⟩ := HS.out.below HB.out k s hs;have hsm := sub_many hs;have T1 := hZ (manyL_take t.subs k s hs);have htk1 := manyL_take_le t.subs (k + 1);have IH := hZ (ih s (by omega) (by omega) (.agg #[v0, v1, v2, v3, v4, v5, v6]) wo ⟨_, rfl, hs7⟩);have hsz : many s <= 9000 := by omega
    clear hs7 hs hsm;go_wp2_with fail
    refine IH.out.mono ?_; rintro e w2 ⟨rfl, hb2⟩
    have hb3 := below_over hb hb2;clear b6 h0 h1 h2 h3 h4 h5 h6 hb hb2;go_wp2_with fail
    go_roundw
    case rel => exact ⟨k + 1, by omega, by go_num, by rw [T1.out]; go_num, hb3⟩
    case measure => simp [intOf]; omega
   ·have hkn : k = n := by omega
    have T0 : Hid (many t = 1 + manyL (t.subs.take k)) := hZ (by rw [HE.out, List.take_of_length_le (by rw [HN.out]; omega)]);go_wp2_with fail
    go_ret;exact ⟨ret_int' (by rw [T0.out]), HB.out⟩
theorem deep_any (N : Nat) : ∀ (t : Ty), many t <= N -> many t <= 9000 -> ∀ (v : Value) (w : World), TyV w v t ->
  Calls Tryz.prog 116 #[v] w fun e w' => e = .returned (.int .i64 (deep t : Nat)) /\ Below w.heap.size w w' := by
 induction N with
 | zero => intro t h; have := many_pos t; omega
 | succ N ih =>
  intro t hN hM v w hv;obtain ⟨l, rfl, hT⟩ := hv;obtain ⟨An, cn, As, cs, rfl, -, -, -, hzn, hz, -, hS⟩ := hT.parts;have HS := hZ hS;clear hT hS;generalize hn : t.subs.length = n at hz
  have HN := hZ hn;clear hn;have HE := hZ (deep_eq t);have hdm : deepL t.subs <= 9000 := by have := deep_many t; have := HE.out; omega
  have htk : ∀ k, deepL (t.subs.take k) <= deepL t.subs := fun k => by
   conv => rhs; rw [<- List.take_append_drop k t.subs, deepL_append]
   omega
  have HK := hZ htk;clear htk;go_enter Tryz.func116, Tryz.ntmps116
  go_wp2_with fail
  go_loopw [3, 4] (fun m i wr => ∃ k : Nat, k <= n /\ i = .int .i64 k /\ m = .int .i64 ((deepL (t.subs.take k) : Nat) : Int) /\ Below (boxed w #[.int .i64 t.kind, .string t.pkg, .int .i64 t.major, .string t.mod, .string t.name, .slice An t.names.length cn, .slice As n cs]).heap.size (boxed w #[.int .i64 t.kind, .string t.pkg, .int .i64 t.major, .string t.mod, .string t.name, .slice An t.names.length cn, .slice As n cs]) wr) (fun _ i _ => n - (intOf i).toNat)
  case atStart => exact ⟨0, by omega, rfl, by simp [deepL], Below.refl _ _⟩
  case round =>
   obtain ⟨k, hk, rfl, rfl, hb⟩ := hrel;obtain ⟨wo, rfl⟩ : ∃ wo : World, wo = wr := ⟨_, rfl⟩;have b6 := box_cell hb 6;simp at b6;have HB := hZ (box_below hb);have htk := HK.out k;by_cases hlt : k < n
   ·skip
    obtain ⟨s, hs⟩ : ∃ s, t.subs[k]? = some s := ⟨_, List.getElem?_eq_getElem (by rw [HN.out]; exact hlt)⟩;obtain ⟨g, o, v0, v1, v2, v3, v4, v5, v6, rfl, -, h0, h1, h2, h3, h4, h5, h6, hs7⟩ := HS.out.below HB.out k s hs;have hsm := sub_many hs;have T1 := hZ (deepL_take t.subs k s hs);have htk1 := HK.out (k + 1);have hds := deep_many s;have hsz : deep s <= 9000 := by omega
    have IH := hZ (ih s (by omega) (by omega) (.agg #[v0, v1, v2, v3, v4, v5, v6]) wo ⟨_, rfl, hs7⟩);clear hs7 hs hsm hds;by_cases hgt : deepL (t.subs.take k) < deep s
    ·have T2 : Hid (deepL (t.subs.take (k + 1)) = deep s) := hZ (by rw [T1.out]; omega)
     go_wp2_with fail
     refine IH.out.mono ?_; rintro e w2 ⟨rfl, hb2⟩
     have hb3 := below_over hb hb2;clear b6 h0 h1 h2 h3 h4 h5 h6 hb hb2;go_wp2_with fail
     go_roundw
     case rel => exact ⟨k + 1, by omega, by go_num, by rw [T2.out], hb3⟩
     case measure => simp [intOf]; omega
    ·have T2 : Hid (deepL (t.subs.take (k + 1)) = deepL (t.subs.take k)) := hZ (by rw [T1.out]; omega)
     go_wp2_with fail
     refine IH.out.mono ?_; rintro e w2 ⟨rfl, hb2⟩
     have hb3 := below_over hb hb2;clear b6 h0 h1 h2 h3 h4 h5 h6 hb hb2;go_wp2_with fail
     go_roundw
     case rel => exact ⟨k + 1, by omega, by go_num, by rw [T2.out], hb3⟩
     case measure => simp [intOf]; omega
   ·have T0 : Hid (deep t = deepL (t.subs.take k) + 1) := hZ (by rw [HE.out, List.take_of_length_le (by rw [HN.out]; omega)])
    go_wp2_with fail
    go_ret;exact ⟨ret_int' (by rw [T0.out]; go_num), HB.out⟩
theorem few_eq (t : Ty) (most : Int) : fewT t most = if most - 1 < 0 \/ 200 < t.names.length then -1 else fewL t.subs (most - 1) := by cases t; rfl
theorem fewL_take : ∀ (l : List Ty) (k : Nat) (most : Int), fewL l most = fewL (l.drop k) (fewL (l.take k) most)
 | [], k, most => by simp [fewL]
 | t :: r, 0, most => rfl
 | t :: r, k + 1, most => by
  show (if 0 <= most then fewL r (fewT t most) else most) = fewL (r.drop k) (if 0 <= most then fewL (r.take k) (fewT t most) else most)
  split
  ·exact fewL_take r k _
  ·rw [fewL_neg _ _ (by omega)]
theorem fewL_snoc (l : List Ty) (k : Nat) (t : Ty) (most : Int) (h : l[k]? = some t) (h0 : 0 <= fewL (l.take k) most) : fewL (l.take (k + 1)) most = fewT t (fewL (l.take k) most) := by
 have hk := (List.getElem?_eq_some_iff.1 h).1
 have e := fewL_take (l.take (k + 1)) k most
 rw [List.take_take, Nat.min_eq_left (by omega)] at e
 have d : (l.take (k + 1)).drop k = [t] := by
  rw [List.take_add_one, h, List.drop_append_of_le_length (by simp; omega), List.drop_eq_nil_of_le (List.length_take_le _ _)];rfl
 rw [e, d]
 show (if 0 <= _ then fewL [] _ else _) = _
 rw [if_pos h0]; rfl
theorem few_any (N : Nat) : ∀ (t : Ty), many t <= N -> ∀ (most : Int), -1 <= most -> most <= 3000 -> ∀ (v : Value) (w : World), TyV w v t ->
  Calls Tryz.prog 34 #[v, .int .i64 most] w fun e w' => e = .returned (.int .i64 (fewT t most)) /\ Below w.heap.size w w' := by
 induction N with
 | zero => intro t h; have := many_pos t; omega
 | succ N ih =>
  intro t hN most hlo hhi v w hv;obtain ⟨l, rfl, hT⟩ := hv;obtain ⟨An, cn, As, cs, rfl, -, -, -, hzn, hz, -, hS⟩ := hT.parts;have HS := hZ hS;clear hT hS;generalize hn : t.subs.length = n at hz
  have HN := hZ hn;clear hn;have HE := hZ (few_eq t most);by_cases hm : most - 1 < 0
  ·have R : Hid (fewT t most = -1) := hZ (by rw [HE.out, if_pos (.inl hm)])
   rw [R.out];go_enter Tryz.func34, Tryz.ntmps34
   go_wp2_with fail
   go_ret;exact ⟨rfl, below_new (Below.refl _ _) _⟩
  generalize hq : t.names.length = q at hzn HE
  by_cases hl : 200 < q
  ·have R : Hid (fewT t most = -1) := hZ (by rw [HE.out, if_pos (.inr hl)])
   have hl' : (200 : Int) < q := by omega
   rw [R.out];clear hq;go_enter Tryz.func34, Tryz.ntmps34
   go_wp2_with fail
   go_ret;exact ⟨rfl, below_new (Below.refl _ _) _⟩
  have HR : Hid (fewT t most = fewL t.subs (most - 1)) := hZ (by rw [HE.out, if_neg (by omega)]);have hl' : ¬ (200 : Int) < q := by omega
  clear HE hq;go_enter Tryz.func34, Tryz.ntmps34
  go_wp2_with fail
  go_loopw [1, 5] (fun m i wr => ∃ k : Nat, k <= n /\ i = .int .i64 k /\ m = .int .i64 (fewL (t.subs.take k) (most - 1)) /\ Below (boxed w #[.int .i64 t.kind, .string t.pkg, .int .i64 t.major, .string t.mod, .string t.name, .slice An q cn, .slice As n cs]).heap.size (boxed w #[.int .i64 t.kind, .string t.pkg, .int .i64 t.major, .string t.mod, .string t.name, .slice An q cn, .slice As n cs]) wr) (fun _ i _ => n - (intOf i).toNat)
  case atStart => exact ⟨0, by omega, rfl, by simp [fewL], Below.refl _ _⟩
  case round =>
   obtain ⟨k, hk, rfl, rfl, hb⟩ := hrel;obtain ⟨wo, rfl⟩ : ∃ wo : World, wo = wr := ⟨_, rfl⟩;have b6 := box_cell hb 6;simp at b6;have HB := hZ (box_below hb);have bd := fewL_bd (t.subs.take k) (most - 1) (by omega);by_cases hlt : k < n
   ·by_cases h0 : 0 <= fewL (t.subs.take k) (most - 1)
    ·obtain ⟨s, hs⟩ : ∃ s, t.subs[k]? = some s := ⟨_, List.getElem?_eq_getElem (by rw [HN.out]; exact hlt)⟩
     obtain ⟨g, o, v0, v1, v2, v3, v4, v5, v6, rfl, -, h0', h1, h2, h3, h4, h5, h6, hs7⟩ := HS.out.below HB.out k s hs;have hsm := sub_many hs;have T1 := hZ (fewL_snoc t.subs k s (most - 1) hs h0);have IH := hZ (ih s (by omega) (fewL (t.subs.take k) (most - 1)) (by omega) (by omega) (.agg #[v0, v1, v2, v3, v4, v5, v6]) wo ⟨_, rfl, hs7⟩);clear hs7 hs hsm;generalize fewL (t.subs.take k) (most - 1) = z at h0 IH T1 bd
     go_wp2_with fail
     refine IH.out.mono ?_; rintro e w2 ⟨rfl, hb2⟩
     have hb3 := below_over hb hb2;clear b6 h0' h1 h2 h3 h4 h5 h6 hb hb2;go_wp2_with fail
     go_roundw
     case rel => exact ⟨k + 1, by omega, by go_num, by rw [T1.out], hb3⟩
     case measure => simp [intOf]; omega
    ·have T0 : Hid (fewT t most = fewL (t.subs.take k) (most - 1)) := hZ (by rw [HR.out, fewL_take t.subs k, fewL_neg _ _ (by omega)])
     generalize fewL (t.subs.take k) (most - 1) = z at h0 T0 bd
     go_wp2_with fail
     go_ret;exact ⟨ret_int' T0.out, HB.out⟩
   ·have T0 : Hid (fewT t most = fewL (t.subs.take k) (most - 1)) := hZ (by rw [HR.out, List.take_of_length_le (by rw [HN.out]; omega)])
    generalize fewL (t.subs.take k) (most - 1) = z at T0 bd
    go_wp2_with fail
    go_ret;exact ⟨ret_int' T0.out, HB.out⟩
theorem nameAt_of {l : List ByteArray} {i : Nat} {s : ByteArray} (h : l[i]? = some s) : nameAt l i = s := by
 unfold nameAt; rw [List.getD_eq_getElem?_getD, h]; rfl
theorem own_any (t : Ty) (v : Value) (w : World) (hv : TyV w v t) :
  Calls Tryz.prog 143 #[v] w fun e w' => e = .returned (.bool (ownOk t)) /\ Below w.heap.size w w' := by
 obtain ⟨l, rfl, hT⟩ := hv
 obtain ⟨An, cn, As, cs, rfl, zp, zm, za, hzn, hz, hN, -⟩ := hT.parts
 have HNM := hZ hN
 clear hT hN
 generalize hn : t.subs.length = n at hz
 have HN := hZ hn
 generalize hq : t.names.length = q at hzn
 have HQ := hZ hq
 clear hn hq
 by_cases h20 : 20 < n
 ·have R : Hid (ownOk t = false) := hZ (own_long (by rw [HN.out]; exact h20))
  have h20' : (20 : Int) < n := by omega
  rw [R.out];go_enter Tryz.func143, Tryz.ntmps143
  go_wp2_with fail
  go_ret;exact ⟨rfl, below_new (Below.refl _ _) _⟩
 have h20' : ¬ (20 : Int) < n := by omega
 go_enter Tryz.func143, Tryz.ntmps143
 go_wp2_with fail
 go_loopw [5] (fun i wr => ∃ k : Nat, k <= q /\ i = .int .i64 k /\ Hid (∀ j, j < k -> badName t.kind t.names j = false) /\ Below (boxed w #[.int .i64 t.kind, .string t.pkg, .int .i64 t.major, .string t.mod, .string t.name, .slice An q cn, .slice As n cs]).heap.size (boxed w #[.int .i64 t.kind, .string t.pkg, .int .i64 t.major, .string t.mod, .string t.name, .slice An q cn, .slice As n cs]) wr) (fun i _ => q - (intOf i).toNat)
 case atStart => exact ⟨0, by omega, rfl, hZ (fun j h => by omega), Below.refl _ _⟩
 case round =>
  obtain ⟨k, hk, rfl, HP, hb⟩ := hrel;obtain ⟨wo, rfl⟩ : ∃ wo : World, wo = wr := ⟨_, rfl⟩;by_cases hlt : k < q
  ·obtain ⟨s, hs⟩ : ∃ s, t.names[k]? = some s := ⟨_, List.getElem?_eq_getElem (by rw [HQ.out]; exact hlt)⟩
   have HB := hZ (box_below hb);obtain ⟨g, o, rfl, hgo, hcs, hzs⟩ := HNM.out.below HB.out k s hs;have b5 := box_cell hb 5;simp at b5;go_wp2_with fail
   refine (refSmall_any s _ hzs).mono ?_; rintro e w1 ⟨rfl, hb1⟩
   have hb2 := below_over hb hb1;have HB2 := hZ (box_below hb2);have b5' := box_cell hb2 5
   simp at b5';have hcs' : w1.cell? ⟨g, o + k, none⟩ = some (.string s) := (hb1.cell (p := ⟨g, _, none⟩) hgo).trans hcs
   clear b5 hcs hb hb1;go_wp2_with fail
   refine (refGreat_any s _ hzs).mono ?_; rintro e w' ⟨rfl, rfl⟩
   have b0 := box_cell hb2 0;simp at b0;have BAD : ∃ b, badName t.kind t.names k = b := ⟨_, rfl⟩;obtain ⟨bad, hbad⟩ := BAD;go_upto_region 10 with fail
   go_cut [6, 7, 70] (fun _ _ s70 wx => s70 = .bool bad /\ Below (boxed w #[.int .i64 t.kind, .string t.pkg, .int .i64 t.major, .string t.mod, .string t.name, .slice (some ⟨g, o, none⟩) q cn, .slice As n cs]).heap.size (boxed w #[.int .i64 t.kind, .string t.pkg, .int .i64 t.major, .string t.mod, .string t.name, .slice (some ⟨g, o, none⟩) q cn, .slice As n cs]) wx)
   case first =>
    unfold badName at hbad
    rw [nameAt_of hs] at hbad;rcases hid_or (t.kind == 5) with h5 | h5
    rotate_left
    ·have k5 := h5.out
     have k6 : (t.kind == 6) = false := by
      have e : t.kind = 5 := by simpa using k5
      rw [e]; rfl
     rcases hid_or (smallB s.data.toList) with hs1 | hs1
     ·have a1 := hs1.out
      have hv : bad = true := by
       rw [<- hbad, k5, a1];first | done | rfl
      subst hv;clear hbad;as_aux_lemma =>
      go_quiet (fail)
      go_wp2_with fail
      go_meet
      exact ⟨rfl, below_drewN hb2 nq⟩
     ·have a1 := hs1.out
      rcases Nat.eq_zero_or_pos k with hk0 | hk0
      ·have hp : ¬ (0 : Int) < k := by omega
       have hd : decide (0 < k) = false := by simp; omega
       clear hk0
       have hv : bad = false := by
        rw [<- hbad, k5, k6, a1, hd];first | done | rfl
       subst hv;clear hbad;as_aux_lemma =>
       go_quiet (fail)
       go_wp2_with fail
       go_meet
       exact ⟨rfl, below_drewN hb2 nq⟩
      ·obtain ⟨p, hps⟩ : ∃ p, t.names[k - 1]? = some p := ⟨_, List.getElem?_eq_getElem (by rw [HQ.out]; omega)⟩
       obtain ⟨g2, o2, eg, hg2, hc2, -⟩ := HNM.out.below HB2.out (k - 1) p hps;obtain ⟨rfl, rfl⟩ : g = g2 /\ o = o2 := by simpa using eg
       rw [nameAt_of hps] at hbad;have hp : (0 : Int) < k := by omega
       have hp1 : 1 <= (k : Int) := by omega
       have hd : decide (0 < k) = true := by simp; omega
       unfold leS at hbad
       clear eg hg2 hps hk0;rcases hid_or (Op.bytesLess s.toList p.toList || s.toList == p.toList) with hL | hL
       ·have hl := hL.out
        have hv : bad = false := by
         rw [<- hbad, k5, k6, a1, hd, hl];first | done | rfl
        subst hv;clear hbad;as_aux_lemma =>
        go_quiet (fail)
        go_wp2_with fail
        go_meet
        exact ⟨rfl, below_drewN hb2 nq⟩
       ·have hl := hL.out
        have hv : bad = true := by
         rw [<- hbad, k5, k6, a1, hd, hl];first | done | rfl
        subst hv;clear hbad;as_aux_lemma =>
        go_quiet (fail)
        go_wp2_with fail
        go_meet
        exact ⟨rfl, below_drewN hb2 nq⟩
    have k5 := h5.out;rcases hid_or (t.kind == 6) with h6 | h6
    rotate_left
    ·have k6 := h6.out
     rcases hid_or (greatB s.data.toList) with hs1 | hs1
     ·have a1 := hs1.out
      have hv : bad = true := by
       rw [<- hbad, k5, k6, a1];first | done | rfl
      subst hv;clear hbad;as_aux_lemma =>
      go_quiet (fail)
      go_wp2_with fail
      go_meet
      exact ⟨rfl, below_drewN hb2 nq⟩
     ·have a1 := hs1.out
      rcases Nat.eq_zero_or_pos k with hk0 | hk0
      ·have hp : ¬ (0 : Int) < k := by omega
       have hd : decide (0 < k) = false := by simp; omega
       clear hk0
       have hv : bad = false := by
        rw [<- hbad, k5, k6, a1, hd];first | done | rfl
       subst hv;clear hbad;as_aux_lemma =>
       go_quiet (fail)
       go_wp2_with fail
       go_meet
       exact ⟨rfl, below_drewN hb2 nq⟩
      ·obtain ⟨p, hps⟩ : ∃ p, t.names[k - 1]? = some p := ⟨_, List.getElem?_eq_getElem (by rw [HQ.out]; omega)⟩
       obtain ⟨g2, o2, eg, hg2, hc2, -⟩ := HNM.out.below HB2.out (k - 1) p hps;obtain ⟨rfl, rfl⟩ : g = g2 /\ o = o2 := by simpa using eg
       rw [nameAt_of hps] at hbad;have hp : (0 : Int) < k := by omega
       have hp1 : 1 <= (k : Int) := by omega
       have hd : decide (0 < k) = true := by simp; omega
       unfold leS at hbad
       clear eg hg2 hps hk0;rcases hid_or (Op.bytesLess s.toList p.toList || s.toList == p.toList) with hL | hL
       ·have hl := hL.out
        have hv : bad = false := by
         rw [<- hbad, k5, k6, a1, hd, hl];first | done | rfl
        subst hv;clear hbad;as_aux_lemma =>
        go_quiet (fail)
        go_wp2_with fail
        go_meet
        exact ⟨rfl, below_drewN hb2 nq⟩
       ·have hl := hL.out
        have hv : bad = true := by
         rw [<- hbad, k5, k6, a1, hd, hl];first | done | rfl
        subst hv;clear hbad;as_aux_lemma =>
        go_quiet (fail)
        go_wp2_with fail
        go_meet
        exact ⟨rfl, below_drewN hb2 nq⟩
    have k6 := h6.out;rcases Nat.eq_zero_or_pos k with hk0 | hk0
    ·have hp : ¬ (0 : Int) < k := by omega
     have hd : decide (0 < k) = false := by simp; omega
     clear hk0
     have hv : bad = false := by
      rw [<- hbad, k5, k6, hd];first | done | rfl
     subst hv;clear hbad;as_aux_lemma =>
     go_quiet (fail)
     go_wp2_with fail
     go_meet
     exact ⟨rfl, below_drewN hb2 nq⟩
    ·obtain ⟨p, hps⟩ : ∃ p, t.names[k - 1]? = some p := ⟨_, List.getElem?_eq_getElem (by rw [HQ.out]; omega)⟩
     obtain ⟨g2, o2, eg, hg2, hc2, -⟩ := HNM.out.below HB2.out (k - 1) p hps;obtain ⟨rfl, rfl⟩ : g = g2 /\ o = o2 := by simpa using eg
     rw [nameAt_of hps] at hbad;have hp : (0 : Int) < k := by omega
     have hp1 : 1 <= (k : Int) := by omega
     have hd : decide (0 < k) = true := by simp; omega
     unfold leS at hbad
     clear eg hg2 hps hk0;rcases hid_or (Op.bytesLess s.toList p.toList || s.toList == p.toList) with hL | hL
     ·have hl := hL.out
      have hv : bad = false := by
       rw [<- hbad, k5, k6, hd, hl];first | done | rfl
      subst hv;clear hbad;as_aux_lemma =>
      go_quiet (fail)
      go_wp2_with fail
      go_meet
      exact ⟨rfl, below_drewN hb2 nq⟩
     ·have hl := hL.out
      have hv : bad = true := by
       rw [<- hbad, k5, k6, hd, hl];first | done | rfl
      subst hv;clear hbad;as_aux_lemma =>
      go_quiet (fail)
      go_wp2_with fail
      go_meet
      exact ⟨rfl, below_drewN hb2 nq⟩
   case rest =>
    obtain ⟨rfl, hb3⟩ := hcut;clear b0 b5' hcs' hb2 HB2;have HBD := hZ hbad;clear hbad;rcases hid_or bad with hbb | hbb
    ·obtain rfl := hbb.out
     go_wp2_with fail
     go_roundw
     case rel => exact ⟨k + 1, by omega, by go_num, hZ (fun j hj => by
      rcases Nat.lt_or_ge j k with a | a
      ·exact HP.out j a
      ·rw [show j = k by omega]; exact HBD.out), hb3⟩
     case measure => simp [intOf]; omega
    ·obtain rfl := hbb.out
     have R : Hid (ownOk t = false) := hZ (own_bad (by rw [HQ.out]; exact hlt) HBD.out);go_wp2_with fail
     go_ret;exact ⟨ret_bool R.out, box_below hb3⟩
  ·have hkq : k = q := by omega
   have HB := hZ (box_below hb);have R0 : Hid (ownOk t = shapeOk t) := hZ (own_good (by rw [HN.out]; omega) (fun i hi => HP.out i (by rw [HQ.out] at hi; omega)));have c1 := box_cell hb 1;have c2 := box_cell hb 2;have c3 := box_cell hb 3;have c4 := box_cell hb 4;simp at c1 c2 c3 c4;go_upto_region 12 with fail
   obtain ⟨em, hem⟩ : ∃ b, noMore t = b := ⟨_, rfl⟩;go_cut [8] (fun s8 wx => s8 = .bool em /\ wo = wx)
   case first =>
    unfold noMore emptyB at hem
    by_cases e1 : t.pkg.size = 0
    ·obtain ⟨x1, y1⟩ := empty_facts _ e1
     have d1 : decide (t.pkg.size = 0) = true := by simpa using e1
     rcases hid_or (t.major == 0) with e2 | e2
     ·have d2 := e2.out
      have hv : em = false := by
       rw [<- hem, d1, d2];first | done | rfl
      subst hv;clear hem;clear e1 d1;as_aux_lemma =>
      go_wp2_with fail
      go_meet
      exact ⟨rfl, rfl⟩
     ·have d2 := e2.out
      by_cases e3 : t.mod.size = 0
      ·obtain ⟨x3, y3⟩ := empty_facts _ e3
       have d3 : decide (t.mod.size = 0) = true := by simpa using e3
       by_cases e4 : t.name.size = 0
       ·obtain ⟨x4, y4⟩ := empty_facts _ e4
        have d4 : decide (t.name.size = 0) = true := by simpa using e4
        have hv : em = true := by
         rw [<- hem, d1, d2, d3, d4];first | done | rfl
        subst hv;clear hem;clear e1 e3 e4 d1 d3 d4;as_aux_lemma =>
        go_wp2_with fail
        go_meet
        exact ⟨rfl, rfl⟩
       ·obtain ⟨x4, y4⟩ := full_facts _ e4
        have d4 : decide (t.name.size = 0) = false := by simpa using e4
        have hv : em = false := by
         rw [<- hem, d1, d2, d3, d4];first | done | rfl
        subst hv;clear hem;clear e1 e3 e4 d1 d3 d4;as_aux_lemma =>
        go_wp2_with fail
        go_meet
        exact ⟨rfl, rfl⟩
      ·obtain ⟨x3, y3⟩ := full_facts _ e3
       have d3 : decide (t.mod.size = 0) = false := by simpa using e3
       have hv : em = false := by
        rw [<- hem, d1, d2, d3];first | done | rfl
       subst hv;clear hem;clear e1 e3 d1 d3;as_aux_lemma =>
       go_wp2_with fail
       go_meet
       exact ⟨rfl, rfl⟩
    ·obtain ⟨x1, y1⟩ := full_facts _ e1
     have d1 : decide (t.pkg.size = 0) = false := by simpa using e1
     have hv : em = false := by
      rw [<- hem, d1];first | done | rfl
     subst hv;clear hem;clear e1 d1;as_aux_lemma =>
     go_wp2_with fail
     go_meet
     exact ⟨rfl, rfl⟩
   case rest =>
    obtain ⟨rfl, rfl⟩ := hcut;unfold shapeOk at R0
    rw [hem] at R0;have HNQ : t.subs.length = n /\ t.names.length = q := ⟨HN.out, HQ.out⟩;rw [HNQ.1, HNQ.2] at R0;clear HNQ;clear hem;go_wp2_with fail
    refine (refGreat_any _ _ za).mono ?_; rintro e w' ⟨rfl, rfl⟩
    generalize greatB t.name.data.toList = gr at R0
    go_wp2_with fail
    refine (refSmall_any _ _ zm).mono ?_; rintro e w1 ⟨rfl, hb1⟩
    generalize smallB t.mod.data.toList = sm at R0
    have hb2 := below_over hb hb1;have d1 := box_cell hb2 1;simp at d1;clear c1 c2 c3 c4 hb hb1;go_wp2_with fail
    refine (refSmall_any _ _ zp).mono ?_; rintro e w2 ⟨rfl, hb3⟩
    generalize smallB t.pkg.data.toList = sp at R0
    have hb4 := below_over hb2 hb3;have f0 := box_cell hb4 0;have f1 := box_cell hb4 1;have f2 := box_cell hb4 2;have f3 := box_cell hb4 3;simp at f0 f1 f2 f3;have HB4 := hZ (box_below hb4);clear hb2 hb3 hb4 d1;by_cases hx1 : t.kind = 1
    ·as_aux_lemma =>
     have R : Hid (ownOk t = (em && decide (n = 0) && decide (q = 0))) := hZ (by rw [R0.out, hx1]; rfl);clear R0;have b1 : (t.kind == 1) = true := by rw [hx1]; rfl
     clear hx1;go_wp2
     all_goals go_ret
     all_goals exact ⟨ret_bool (by rw [R.out]; clear f0 f1 f2 f3 hlt hkq hk h20 hz hzn HB HB4 HNM HN HQ HP zp zm za R; rw [Bool.eq_iff_iff]; simp_all <;> omega), HB4.out⟩
    by_cases hx2 : t.kind = 2
    ·as_aux_lemma =>
     have R : Hid (ownOk t = (em && decide (n = 0) && decide (q = 0))) := hZ (by rw [R0.out, hx2]; rfl);clear R0;have b1 : (t.kind == 1) = false := by rw [hx2]; rfl
     have b2 : (t.kind == 2) = true := by rw [hx2]; rfl
     clear hx2;go_wp2
     all_goals go_ret
     all_goals exact ⟨ret_bool (by rw [R.out]; clear f0 f1 f2 f3 hlt hkq hk h20 hz hzn HB HB4 HNM HN HQ HP zp zm za R; rw [Bool.eq_iff_iff]; simp_all <;> omega), HB4.out⟩
    by_cases hx3 : t.kind = 3
    ·as_aux_lemma =>
     have R : Hid (ownOk t = (em && decide (n = 0) && decide (q = 0))) := hZ (by rw [R0.out, hx3]; rfl);clear R0;have b1 : (t.kind == 1) = false := by rw [hx3]; rfl
     have b2 : (t.kind == 2) = false := by rw [hx3]; rfl
     have b3 : (t.kind == 3) = true := by rw [hx3]; rfl
     clear hx3;go_wp2
     all_goals go_ret
     all_goals exact ⟨ret_bool (by rw [R.out]; clear f0 f1 f2 f3 hlt hkq hk h20 hz hzn HB HB4 HNM HN HQ HP zp zm za R; rw [Bool.eq_iff_iff]; simp_all <;> omega), HB4.out⟩
    by_cases hx4 : t.kind = 4
    ·as_aux_lemma =>
     have R : Hid (ownOk t = (em && decide (n = 1) && decide (q = 0))) := hZ (by rw [R0.out, hx4]; rfl);clear R0;have b1 : (t.kind == 1) = false := by rw [hx4]; rfl
     have b2 : (t.kind == 2) = false := by rw [hx4]; rfl
     have b3 : (t.kind == 3) = false := by rw [hx4]; rfl
     have b4 : (t.kind == 4) = true := by rw [hx4]; rfl
     clear hx4;go_wp2
     all_goals go_ret
     all_goals exact ⟨ret_bool (by rw [R.out]; clear f0 f1 f2 f3 hlt hkq hk h20 hz hzn HB HB4 HNM HN HQ HP zp zm za R; rw [Bool.eq_iff_iff]; simp_all <;> omega), HB4.out⟩
    by_cases hx5 : t.kind = 5
    ·as_aux_lemma =>
     have R : Hid (ownOk t = (em && decide (n = q))) := hZ (by rw [R0.out, hx5]; rfl);clear R0;have b1 : (t.kind == 1) = false := by rw [hx5]; rfl
     have b2 : (t.kind == 2) = false := by rw [hx5]; rfl
     have b3 : (t.kind == 3) = false := by rw [hx5]; rfl
     have b4 : (t.kind == 4) = false := by rw [hx5]; rfl
     have b5 : (t.kind == 5) = true := by rw [hx5]; rfl
     clear hx5;go_wp2
     all_goals go_ret
     all_goals exact ⟨ret_bool (by rw [R.out]; clear f0 f1 f2 f3 hlt hkq hk h20 hz hzn HB HB4 HNM HN HQ HP zp zm za R; rw [Bool.eq_iff_iff]; simp_all <;> omega), HB4.out⟩
    by_cases hx6 : t.kind = 6
    ·as_aux_lemma =>
     have R : Hid (ownOk t = (em && decide (n = q) && decide (0 < n))) := hZ (by rw [R0.out, hx6]; rfl);clear R0;have b1 : (t.kind == 1) = false := by rw [hx6]; rfl
     have b2 : (t.kind == 2) = false := by rw [hx6]; rfl
     have b3 : (t.kind == 3) = false := by rw [hx6]; rfl
     have b4 : (t.kind == 4) = false := by rw [hx6]; rfl
     have b5 : (t.kind == 5) = false := by rw [hx6]; rfl
     have b6 : (t.kind == 6) = true := by rw [hx6]; rfl
     clear hx6;go_wp2
     all_goals go_ret
     all_goals exact ⟨ret_bool (by rw [R.out]; clear f0 f1 f2 f3 hlt hkq hk h20 hz hzn HB HB4 HNM HN HQ HP zp zm za R; rw [Bool.eq_iff_iff]; simp_all <;> omega), HB4.out⟩
    by_cases hx7 : t.kind = 7
    ·as_aux_lemma =>
     have R : Hid (ownOk t = (em && decide (0 < n) && decide (q = 0))) := hZ (by rw [R0.out, hx7]; rfl);clear R0;have b1 : (t.kind == 1) = false := by rw [hx7]; rfl
     have b2 : (t.kind == 2) = false := by rw [hx7]; rfl
     have b3 : (t.kind == 3) = false := by rw [hx7]; rfl
     have b4 : (t.kind == 4) = false := by rw [hx7]; rfl
     have b5 : (t.kind == 5) = false := by rw [hx7]; rfl
     have b6 : (t.kind == 6) = false := by rw [hx7]; rfl
     have b7 : (t.kind == 7) = true := by rw [hx7]; rfl
     clear hx7;go_wp2
     all_goals go_ret
     all_goals exact ⟨ret_bool (by rw [R.out]; clear f0 f1 f2 f3 hlt hkq hk h20 hz hzn HB HB4 HNM HN HQ HP zp zm za R; rw [Bool.eq_iff_iff]; simp_all <;> omega), HB4.out⟩
    by_cases hx8 : t.kind = 8
    ·have R : Hid (ownOk t = (decide (n = 0) && decide (q = 0) && emptyB t.pkg && (t.major == 0) && gr && (sm || emptyB t.mod))) := hZ (by rw [R0.out, hx8]; rfl)
     clear R0;have b1 : (t.kind == 1) = false := by rw [hx8]; rfl
     have b2 : (t.kind == 2) = false := by rw [hx8]; rfl
     have b3 : (t.kind == 3) = false := by rw [hx8]; rfl
     have b4 : (t.kind == 4) = false := by rw [hx8]; rfl
     have b5 : (t.kind == 5) = false := by rw [hx8]; rfl
     have b6 : (t.kind == 6) = false := by rw [hx8]; rfl
     have b7 : (t.kind == 7) = false := by rw [hx8]; rfl
     have b8 : (t.kind == 8) = true := by rw [hx8]; rfl
     clear hx8;unfold emptyB at R
     by_cases e1 : t.pkg.size = 0
     ·obtain ⟨x1, y1⟩ := empty_facts _ e1
      by_cases e3 : t.mod.size = 0
      ·obtain ⟨x3, y3⟩ := empty_facts _ e3
       as_aux_lemma =>
       go_wp2
       all_goals go_ret
       all_goals exact ⟨ret_bool (by rw [R.out]; clear f0 f1 f2 f3 hlt hkq hk h20 hz hzn HB HB4 HNM HN HQ HP zp zm za R; rw [Bool.eq_iff_iff]; simp_all <;> omega), HB4.out⟩
      ·obtain ⟨x3, y3⟩ := full_facts _ e3
       as_aux_lemma =>
       go_wp2
       all_goals go_ret
       all_goals exact ⟨ret_bool (by rw [R.out]; clear f0 f1 f2 f3 hlt hkq hk h20 hz hzn HB HB4 HNM HN HQ HP zp zm za R; rw [Bool.eq_iff_iff]; simp_all <;> omega), HB4.out⟩
     ·obtain ⟨x1, y1⟩ := full_facts _ e1
      as_aux_lemma =>
      go_wp2
      all_goals go_ret
      all_goals exact ⟨ret_bool (by rw [R.out]; clear f0 f1 f2 f3 hlt hkq hk h20 hz hzn HB HB4 HNM HN HQ HP zp zm za R; rw [Bool.eq_iff_iff]; simp_all <;> omega), HB4.out⟩
    by_cases hx9 : t.kind = 9
    ·as_aux_lemma =>
     have R : Hid (ownOk t = (decide (n = 0) && decide (q = 0) && sp && sm && gr && decide (1 <= t.major) && decide (t.major <= 999999999))) := hZ (by rw [R0.out, hx9]; rfl);clear R0;have b1 : (t.kind == 1) = false := by rw [hx9]; rfl
     have b2 : (t.kind == 2) = false := by rw [hx9]; rfl
     have b3 : (t.kind == 3) = false := by rw [hx9]; rfl
     have b4 : (t.kind == 4) = false := by rw [hx9]; rfl
     have b5 : (t.kind == 5) = false := by rw [hx9]; rfl
     have b6 : (t.kind == 6) = false := by rw [hx9]; rfl
     have b7 : (t.kind == 7) = false := by rw [hx9]; rfl
     have b8 : (t.kind == 8) = false := by rw [hx9]; rfl
     have b9 : (t.kind == 9) = true := by rw [hx9]; rfl
     clear hx9;go_wp2
     all_goals go_ret
     all_goals exact ⟨ret_bool (by rw [R.out]; clear f0 f1 f2 f3 hlt hkq hk h20 hz hzn HB HB4 HNM HN HQ HP zp zm za R; rw [Bool.eq_iff_iff]; simp_all <;> omega), HB4.out⟩
    have R : Hid (ownOk t = false) := hZ (by rw [R0.out, if_neg (by omega), if_neg hx4, if_neg hx5, if_neg hx6, if_neg hx7, if_neg hx8, if_neg hx9]);clear R0;have b1 : (t.kind == 1) = false := by simpa using hx1
    have b2 : (t.kind == 2) = false := by simpa using hx2
    have b3 : (t.kind == 3) = false := by simpa using hx3
    have b4 : (t.kind == 4) = false := by simpa using hx4
    have b5 : (t.kind == 5) = false := by simpa using hx5
    have b6 : (t.kind == 6) = false := by simpa using hx6
    have b7 : (t.kind == 7) = false := by simpa using hx7
    have b8 : (t.kind == 8) = false := by simpa using hx8
    have b9 : (t.kind == 9) = false := by simpa using hx9
    clear hx1 hx2 hx3 hx4 hx5 hx6 hx7 hx8 hx9;as_aux_lemma =>
    go_wp2
    all_goals go_ret
    all_goals exact ⟨ret_bool (by rw [R.out]), HB4.out⟩
theorem all_any (N : Nat) : ∀ (t : Ty), many t <= N -> ∀ (v : Value) (w : World), TyV w v t ->
  Calls Tryz.prog 114 #[v] w fun e w' => e = .returned (.bool (allOk t)) /\ Below w.heap.size w w' := by
 induction N with
 | zero => intro t h; have := many_pos t; omega
 | succ N ih =>
  intro t hN v w hv;have HV := hZ hv;obtain ⟨l, rfl, hT⟩ := hv;obtain ⟨An, cn, As, cs, rfl, -, -, -, hzn, hz, -, hS⟩ := hT.parts;have HS := hZ hS;clear hT hS;have HE := hZ (allOk_eq t);generalize hn : t.subs.length = n at hz HV
  have HN := hZ hn;clear hn;go_enter Tryz.func114, Tryz.ntmps114
  go_wp2_with fail
  refine (own_any t _ _ (HV.out.below (below_new (Below.refl _ _) _))).mono ?_; rintro e w1 ⟨rfl, hb1⟩
  have hb1' : Below (boxed w #[.int .i64 t.kind, .string t.pkg, .int .i64 t.major, .string t.mod, .string t.name, .slice An t.names.length cn, .slice As n cs]).heap.size (boxed w #[.int .i64 t.kind, .string t.pkg, .int .i64 t.major, .string t.mod, .string t.name, .slice An t.names.length cn, .slice As n cs]) w1 := hb1
  rcases hid_or (ownOk t) with ho | ho
  ·have R : Hid (allOk t = false) := hZ (by rw [HE.out, ho.out]; rfl)
   have HB1 := hZ (box_below hb1');rw [ho.out];clear hb1 hb1';go_wp2_with fail
   go_loopw [3, 4] (fun b i wr => b = .bool false /\ i = .int .i64 0 /\ w1 = wr) (fun _ _ _ => 0)
   case atStart => exact ⟨rfl, rfl, rfl⟩
   case round =>
    obtain ⟨rfl, rfl, rfl⟩ := hrel;go_wp2_with fail
    go_ret;exact ⟨ret_bool R.out, HB1.out⟩
  ·rw [ho.out]
   clear hb1;go_wp2_with fail
   go_loopw [3, 4] (fun b i wr => ∃ (k : Nat) (c : Bool), k <= n /\ i = .int .i64 k /\ b = .bool c /\ Hid (c = true -> ∀ j s, j < k -> t.subs[j]? = some s -> allOk s = true) /\ Hid (c = false -> allOk t = false) /\ Below (boxed w #[.int .i64 t.kind, .string t.pkg, .int .i64 t.major, .string t.mod, .string t.name, .slice An t.names.length cn, .slice As n cs]).heap.size (boxed w #[.int .i64 t.kind, .string t.pkg, .int .i64 t.major, .string t.mod, .string t.name, .slice An t.names.length cn, .slice As n cs]) wr) (fun _ i _ => n - (intOf i).toNat)
   case atStart => exact ⟨0, true, by omega, rfl, rfl, hZ (fun _ j s h => by omega), hZ (fun h => by cases h), hb1'⟩
   case round =>
    obtain ⟨k, c, hk, rfl, rfl, HC, HF, hb⟩ := hrel;obtain ⟨wo, rfl⟩ : ∃ wo : World, wo = wr := ⟨_, rfl⟩;have b6 := box_cell hb 6;simp at b6;have HB := hZ (box_below hb);rcases hid_or c with hc | hc
    ·obtain rfl := hc.out
     have R : Hid (allOk t = false) := hZ (HF.out (by trivial));go_wp2_with fail
     go_ret;exact ⟨ret_bool R.out, HB.out⟩
    ·obtain rfl := hc.out
     by_cases hlt : k < n
     ·obtain ⟨s, hs⟩ : ∃ s, t.subs[k]? = some s := ⟨_, List.getElem?_eq_getElem (by rw [HN.out]; exact hlt)⟩
      obtain ⟨g, o, v0, v1, v2, v3, v4, v5, v6, rfl, -, h0, h1, h2, h3, h4, h5, h6, hs7⟩ := HS.out.below HB.out k s hs;have hsm := sub_many hs;have IH := hZ (ih s (by omega) (.agg #[v0, v1, v2, v3, v4, v5, v6]) wo ⟨_, rfl, hs7⟩);have HSS := hZ hs;clear hs7 hs hsm;go_wp2_with fail
      refine IH.out.mono ?_; rintro e w2 ⟨rfl, hb2⟩
      have hb3 := below_over hb hb2;clear b6 h0 h1 h2 h3 h4 h5 h6 hb hb2;go_wp2_with fail
      go_roundw
      case rel => exact ⟨k + 1, allOk s, by omega, by go_num, rfl, hZ (fun hc j q hj hq => by
       rcases Nat.lt_or_ge j k with a | a
       ·exact HC.out (by trivial) j q a hq
       ·rw [show j = k by omega, HSS.out] at hq
        obtain rfl := Option.some.inj hq;exact hc), hZ (fun hc => by
       rw [HE.out, Bool.and_eq_false_iff]; right
       rw [Bool.eq_false_iff, ne_eq, allOkL_mem];intro h;have := h s (List.mem_of_getElem? HSS.out)
       rw [hc] at this; cases this), hb3⟩
      case measure => simp [intOf]; omega
     ·have R : Hid (allOk t = true) := hZ (by
       rw [HE.out, ho.out, (allOkL_mem t.subs).2 (fun s hs => ?_)]
       ·rfl
       ·obtain ⟨j, hj⟩ := List.getElem?_of_mem hs
        have hjl := (List.getElem?_eq_some_iff.1 hj).1;exact HC.out (by trivial) j s (by rw [HN.out] at hjl; omega) hj)
      go_wp2_with fail
      go_ret;exact ⟨ret_bool R.out, HB.out⟩
theorem may_any (t : Ty) (v : Value) (w : World) (hM : many t <= 9000) (hv : TyV w v t) :
  Calls Tryz.prog 80 #[v] w fun e w' => e = .returned (.bool (mayT t)) /\ Below w.heap.size w w' := by
 have HV := hZ hv
 obtain ⟨l, rfl, hT⟩ := hv
 obtain ⟨An, cn, As, cs, rfl, -, -, -, -, -, -, -⟩ := hT.parts
 clear hT
 have hD := deep_many t
 unfold mayT
 go_enter Tryz.func80, Tryz.ntmps80
 go_wp2_with fail
 refine (all_any _ t (Nat.le_refl _) _ _ (HV.out.below (below_new (Below.refl _ _) _))).mono ?_; rintro e w1 ⟨rfl, hb1⟩
 have hb1' : Below (boxed w #[.int .i64 t.kind, .string t.pkg, .int .i64 t.major, .string t.mod, .string t.name, .slice An t.names.length cn, .slice As t.subs.length cs]).heap.size (boxed w #[.int .i64 t.kind, .string t.pkg, .int .i64 t.major, .string t.mod, .string t.name, .slice An t.names.length cn, .slice As t.subs.length cs]) w1 := hb1
 clear hb1
 have V1 := hZ (HV.out.below (box_below hb1'))
 have c0 := box_cell hb1' 0; have c1 := box_cell hb1' 1; have c2 := box_cell hb1' 2; have c3 := box_cell hb1' 3; have c4 := box_cell hb1' 4; have c5 := box_cell hb1' 5; have c6 := box_cell hb1' 6
 simp at c0 c1 c2 c3 c4 c5 c6
 rcases hid_or (allOk t) with ha | ha
 ·have R : Hid ((allOk t && decide (many t <= 500) && decide (deep t <= 32)) = false) := hZ (by rw [ha.out]; rfl)
  rw [ha.out];go_wp2_with fail
  go_ret;exact ⟨ret_bool R.out, box_below hb1'⟩
 ·rw [ha.out]
  have HB1 := hZ (box_below hb1');go_wp2_with fail
  refine (many_any _ t (Nat.le_refl _) hM _ _ V1.out).mono ?_; rintro e w2 ⟨rfl, hb2⟩
  have hb3 := below_over hb1' hb2;clear hb1' hb2 c0 c1 c2 c3 c4 c5 c6;have V2 := hZ (HV.out.below (box_below hb3));have c0 := box_cell hb3 0; have c1 := box_cell hb3 1; have c2 := box_cell hb3 2; have c3 := box_cell hb3 3; have c4 := box_cell hb3 4; have c5 := box_cell hb3 5; have c6 := box_cell hb3 6
  simp at c0 c1 c2 c3 c4 c5 c6;by_cases h5 : many t <= 500
  ·have R : Hid ((allOk t && decide (many t <= 500) && decide (deep t <= 32)) = decide (deep t <= 32)) := hZ (by rw [ha.out, show decide (many t <= 500) = true by simpa using h5]; rfl)
   go_wp2_with fail
   refine (deep_any _ t (Nat.le_refl _) hM _ _ V2.out).mono ?_; rintro e w4 ⟨rfl, hb4⟩
   have HB4 := hZ (box_below (below_over hb3 hb4));clear c0 c1 c2 c3 c4 c5 c6 hb3 hb4;by_cases hd : deep t <= 32
   ·go_wp2_with fail
    go_ret;exact ⟨ret_bool (by rw [R.out, Bool.eq_iff_iff]; simp <;> omega), HB4.out⟩
   ·go_wp2_with fail
    go_ret;exact ⟨ret_bool (by rw [R.out, Bool.eq_iff_iff]; simp <;> omega), HB4.out⟩
  ·have R : Hid ((allOk t && decide (many t <= 500) && decide (deep t <= 32)) = false) := hZ (by rw [ha.out, show decide (many t <= 500) = false by simpa using h5]; rfl)
   have HB3 := hZ (box_below hb3);go_wp2_with fail
   go_ret;first | exact ⟨ret_bool R.out, HB3.out⟩ | exact ⟨rfl, HB3.out⟩
end Go.Proofs.YtddlmigofilejaaGreat
