/-
  Several texts in one.
-/
import Derived.Test.YtddlmigofilejaaGreatDoorK19
import Derived.LaidEql
import Derived.Stop.Asserts
import Derived.RowKitTokens
import Derived.Lib.IfaceEq
import Derived.Laws.Pointers
import Derived.Lib.ItoaLen
import Derived.Deep.RegionHeld3
import Derived.Deep.RegionWith
import Derived.Laws.BitsLemmas
import Derived.Lib.AppendStr
import Derived.Lib.UnsafeStr
import Derived.Lib.OthersKept
import Derived.Laws.Externs
set_option maxRecDepth 100000
set_option maxHeartbeats 8000000
namespace Go.Proofs.YtddlmigofilejaaGreatDoor
open Go.RowKit
open Go.Sort
open M
theorem same_any (N : Nat) : ∀ (a b : Ty), many a <= N -> ∀ (v v' : Value) (w : World), TyV w v a -> TyV w v' b ->
  Calls Tryz.prog 17 #[v, v'] w fun e w' => e = .returned (.bool (sameT a b)) /\ Below w.heap.size w w' := by
 induction N with
 | zero => intro a b h; have := many_pos a; omega
 | succ N ih =>
 intro a b hN v v' w hv hv'
 obtain ⟨l, rfl, hT⟩ := hv
 obtain ⟨An, cn, As, cs, rfl, -, -, -, hzn, hz, hNA, hS⟩ := hT.parts
 obtain ⟨l', rfl, hT'⟩ := hv'
 obtain ⟨Bn, cn', Bs, cs', rfl, -, -, -, hzn', hz', hNB, hS'⟩ := hT'.parts
 clear hT hT'
 have HSM := zH (fun (i : Nat) (s : Ty) (h : a.subs[i]? = some s) => sub_many h)
 obtain ⟨k, p, m, d, n, ns, ss⟩ := a
 obtain ⟨k', p', m', d', n', ns', ss'⟩ := b
 simp only [Ty.kind, Ty.pkg, Ty.major, Ty.mod, Ty.name, Ty.names, Ty.subs] at *
 have HNA := zH hNA
 have HNB := zH hNB
 have HSA := zH hS
 have HSB := zH hS'
 clear hNA hNB hS hS'
 generalize hq : ns.length = q at hzn
 generalize hq' : ns'.length = q' at hzn'
 generalize hr : ss.length = r at hz
 generalize hr' : ss'.length = r' at hz'
 have HQ := zH hq
 have HQ' := zH hq'
 have HR := zH hr
 have HR' := zH hr'
 clear hq hq' hr hr'
 by_cases h1 : k = k'
 rotate_left
 ·have R : Hid (sameT (.mk k p m d n ns ss) (.mk k' p' m' d' n' ns' ss') = false) := zH (sameT_no (fun e => by injection e with e1 e2 e3 e4 e5 e6 e7; exact h1 e1))
  rw [R.out];have f1 : (k == k') = false := by simpa using h1
  have f2 : (k != k') = true := by simpa using h1
  clear h1;as_aux_lemma =>
  go_enter Tryz.func17, Tryz.ntmps17
  go_wp2_with fail
  go_ret;exact ⟨rfl, below_new (below_new (Below.refl _ _) _) _⟩
 subst h1
 by_cases h2 : p = p'
 rotate_left
 ·have R : Hid (sameT (.mk k p m d n ns ss) (.mk k p' m' d' n' ns' ss') = false) := zH (sameT_no (fun e => by injection e with e1 e2 e3 e4 e5 e6 e7; exact h2 e2))
  rw [R.out]
  have f1 : (p.toList == p'.toList) = false := by
   rw [beq_eq_false_iff_ne, ne_eq, Lib.toList_data, Lib.toList_data, bytes_list];exact h2
  have f2 : (!(p.toList == p'.toList)) = true := by rw [f1]; rfl
  have f3 : ¬ p.toList = p'.toList := by simpa using f1
  clear h2;as_aux_lemma =>
  go_enter Tryz.func17, Tryz.ntmps17
  go_wp2_with fail
  go_ret;exact ⟨rfl, below_new (below_new (Below.refl _ _) _) _⟩
 subst h2
 by_cases h3 : m = m'
 rotate_left
 ·have R : Hid (sameT (.mk k p m d n ns ss) (.mk k p m' d' n' ns' ss') = false) := zH (sameT_no (fun e => by injection e with e1 e2 e3 e4 e5 e6 e7; exact h3 e3))
  rw [R.out];have f1 : (m == m') = false := by simpa using h3
  have f2 : (m != m') = true := by simpa using h3
  clear h3;as_aux_lemma =>
  go_enter Tryz.func17, Tryz.ntmps17
  go_wp2_with fail
  go_ret;exact ⟨rfl, below_new (below_new (Below.refl _ _) _) _⟩
 subst h3
 by_cases h4 : d = d'
 rotate_left
 ·have R : Hid (sameT (.mk k p m d n ns ss) (.mk k p m d' n' ns' ss') = false) := zH (sameT_no (fun e => by injection e with e1 e2 e3 e4 e5 e6 e7; exact h4 e4))
  rw [R.out]
  have f1 : (d.toList == d'.toList) = false := by
   rw [beq_eq_false_iff_ne, ne_eq, Lib.toList_data, Lib.toList_data, bytes_list];exact h4
  have f2 : (!(d.toList == d'.toList)) = true := by rw [f1]; rfl
  have f3 : ¬ d.toList = d'.toList := by simpa using f1
  clear h4;as_aux_lemma =>
  go_enter Tryz.func17, Tryz.ntmps17
  go_wp2_with fail
  go_ret;exact ⟨rfl, below_new (below_new (Below.refl _ _) _) _⟩
 subst h4
 by_cases h5 : n = n'
 rotate_left
 ·have R : Hid (sameT (.mk k p m d n ns ss) (.mk k p m d n' ns' ss') = false) := zH (sameT_no (fun e => by injection e with e1 e2 e3 e4 e5 e6 e7; exact h5 e5))
  rw [R.out]
  have f1 : (n.toList == n'.toList) = false := by
   rw [beq_eq_false_iff_ne, ne_eq, Lib.toList_data, Lib.toList_data, bytes_list];exact h5
  have f2 : (!(n.toList == n'.toList)) = true := by rw [f1]; rfl
  have f3 : ¬ n.toList = n'.toList := by simpa using f1
  clear h5;as_aux_lemma =>
  go_enter Tryz.func17, Tryz.ntmps17
  go_wp2_with fail
  go_ret;exact ⟨rfl, below_new (below_new (Below.refl _ _) _) _⟩
 subst h5
 by_cases h6 : q = q'
 rotate_left
 ·have R : Hid (sameT (.mk k p m d n ns ss) (.mk k p m d n ns' ss') = false) := zH (sameT_no (fun e => by injection e with e1 e2 e3 e4 e5 e6 e7; exact h6 (by rw [<- HQ.out, <- HQ'.out, e6])))
  rw [R.out];have f1 : ((q : Int) == q') = false := by simp; omega
  have f2 : ((q : Int) != q') = true := by simp; omega
  have f3 : ¬ (q : Int) = q' := by omega
  have f4 : ¬ q = q' := by omega
  clear h6;as_aux_lemma =>
  go_enter Tryz.func17, Tryz.ntmps17
  go_wp2_with fail
  go_ret;exact ⟨rfl, below_new (below_new (Below.refl _ _) _) _⟩
 subst h6
 by_cases h7 : r = r'
 rotate_left
 ·have R : Hid (sameT (.mk k p m d n ns ss) (.mk k p m d n ns' ss') = false) := zH (sameT_no (fun e => by injection e with e1 e2 e3 e4 e5 e6 e7; exact h7 (by rw [<- HR.out, <- HR'.out, e7])))
  rw [R.out];have f1 : ((r : Int) == r') = false := by simp; omega
  have f2 : ((r : Int) != r') = true := by simp; omega
  have f3 : ¬ (r : Int) = r' := by omega
  have f4 : ¬ r = r' := by omega
  clear h7;as_aux_lemma =>
  go_enter Tryz.func17, Tryz.ntmps17
  go_wp2_with fail
  go_ret;exact ⟨rfl, below_new (below_new (Below.refl _ _) _) _⟩
 subst h7
 go_enter Tryz.func17, Tryz.ntmps17
 go_wp2_with fail
 go_loopw [5] (fun i wr => ∃ j : Nat, j <= q /\ i = .int .i64 j /\ Hid (∀ x (s s' : ByteArray), x < j -> ns[x]? = some s -> ns'[x]? = some s' -> s = s') /\ Below (boxed (boxed w #[.int .i64 k, .string p, .int .i64 m, .string d, .string n, .slice An q cn, .slice As r cs]) #[.int .i64 k, .string p, .int .i64 m, .string d, .string n, .slice Bn q cn', .slice Bs r cs']).heap.size (boxed (boxed w #[.int .i64 k, .string p, .int .i64 m, .string d, .string n, .slice An q cn, .slice As r cs]) #[.int .i64 k, .string p, .int .i64 m, .string d, .string n, .slice Bn q cn', .slice Bs r cs']) wr) (fun i _ => q - (intOf i).toNat)
 case atStart => exact ⟨0, by omega, rfl, zH (fun x s s' h => by omega), Below.refl _ _⟩
 case round =>
  obtain ⟨j, hj, rfl, HP, hb⟩ := hrel;obtain ⟨wo, rfl⟩ : ∃ wo : World, wo = wr := ⟨_, rfl⟩;have HB1 := zH (box_below hb);have HB := zH (box_below HB1.out);have a5 := box_cell HB1.out 5;have b5 := box_cell hb 5;simp [boxed] at a5 b5;by_cases hlt : j < q
  ·obtain ⟨s, hs⟩ : ∃ s, ns[j]? = some s := ⟨_, List.getElem?_eq_getElem (by rw [HQ.out]; exact hlt)⟩
   obtain ⟨s', hs'⟩ : ∃ s, ns'[j]? = some s := ⟨_, List.getElem?_eq_getElem (by rw [HQ'.out]; exact hlt)⟩;obtain ⟨g, o, rfl, -, a0, -⟩ := HNA.out.below HB.out j s hs;obtain ⟨g', o', rfl, -, b0, -⟩ := HNB.out.below HB.out j s' hs';by_cases he : s = s'
   ·subst he
    have HSS := zH hs;have HSS' := zH hs'
    clear hs hs';go_wp2_with fail
    go_quiet (fail)
    go_wp2_with fail
    go_roundw
    case rel => exact ⟨j + 1, by omega, by go_num, zH (fun x y y' hx hy hy' => by
     rcases Nat.lt_or_ge x j with a | a
     ·exact HP.out x y y' a hy hy'
     ·rw [show x = j by omega] at hy hy'
      rw [HSS.out] at hy; rw [HSS'.out] at hy'
      rw [<- Option.some.inj hy, <- Option.some.inj hy']), below_drewN hb nq⟩
    case measure => simp [intOf]; omega
   ·have R : Hid (sameT (.mk k p m d n ns ss) (.mk k p m d n ns' ss') = false) := zH (sameT_no (fun e => by
     injection e with e1 e2 e3 e4 e5 e6 e7
     rw [e6, hs'] at hs;exact he (Option.some.inj hs).symm))
    have f1 : (s.toList == s'.toList) = false := by
     rw [beq_eq_false_iff_ne, ne_eq, Lib.toList_data, Lib.toList_data, bytes_list]; exact he
    have f2 : (!(s.toList == s'.toList)) = true := by rw [f1]; rfl
    have f3 : ¬ s.toList = s'.toList := by simpa using f1
    clear he hs hs';go_wp2_with fail
    go_quiet (fail)
    go_wp2_with fail
    go_ret;exact ⟨ret_bool R.out, below_drewN HB.out nq⟩
  ·have hjq : j = q := by omega
   have NE : Hid (ns = ns') := zH (list_ext' (by rw [HQ.out, HQ'.out]) (fun x s s' h1 h2 => HP.out x s s' (by have := (List.getElem?_eq_some_iff.1 h1).1; rw [HQ.out] at this; omega) h1 h2));clear HP;have HA6 := box_cell HB1.out 6;have HB6 := box_cell hb 6;simp [boxed] at HA6 HB6;go_wp2_with fail
   go_loopw [6] (fun i wr => ∃ x : Nat, x <= r /\ i = .int .i64 x /\ Hid (∀ y (s s' : Ty), y < x -> ss[y]? = some s -> ss'[y]? = some s' -> s = s') /\ Below (boxed (boxed w #[.int .i64 k, .string p, .int .i64 m, .string d, .string n, .slice An q cn, .slice As r cs]) #[.int .i64 k, .string p, .int .i64 m, .string d, .string n, .slice Bn q cn', .slice Bs r cs']).heap.size (boxed (boxed w #[.int .i64 k, .string p, .int .i64 m, .string d, .string n, .slice An q cn, .slice As r cs]) #[.int .i64 k, .string p, .int .i64 m, .string d, .string n, .slice Bn q cn', .slice Bs r cs']) wr) (fun i _ => r - (intOf i).toNat)
   case atStart => exact ⟨0, by omega, rfl, zH (fun x s s' h => by omega), hb⟩
   case round =>
    obtain ⟨x, hx, rfl, HP2, hb2⟩ := hrel;obtain ⟨wi, rfl⟩ : ∃ wi : World, wi = wr := ⟨_, rfl⟩;have HI1 := zH (box_below hb2);have HI := zH (box_below HI1.out);have a6 := box_cell HI1.out 6;have b6 := box_cell hb2 6;simp [boxed] at a6 b6;clear HA6 HB6 a5 b5;by_cases hlt2 : x < r
    ·obtain ⟨s, hs⟩ : ∃ s, ss[x]? = some s := ⟨_, List.getElem?_eq_getElem (by rw [HR.out]; exact hlt2)⟩
     obtain ⟨s', hs'⟩ : ∃ s, ss'[x]? = some s := ⟨_, List.getElem?_eq_getElem (by rw [HR'.out]; exact hlt2)⟩;obtain ⟨g, o, v0, v1, v2, v3, v4, v5, v6, rfl, -, u0, u1, u2, u3, u4, u5, u6, us⟩ := HSA.out.below HI.out x s hs;obtain ⟨g', o', z0, z1, z2, z3, z4, z5, z6, rfl, -, t0, t1, t2, t3, t4, t5, t6, ts⟩ := HSB.out.below HI.out x s' hs';have hsm := HSM.out x s hs;have cP : ∀ dd os, Calls Tryz.prog 17 #[.agg #[v0, v1, v2, v3, v4, v5, v6], .agg #[z0, z1, z2, z3, z4, z5, z6]] (Sort.grow (redrawn wi dd) os) fun e w'' => e = .returned (.bool (sameT s s')) /\ ∃ pp : Regrown, w'' = Sort.grow (redrawn wi pp.d) pp.os := fun dd os => Calls.regrown_of (ih s s' (by omega) _ _ _ ⟨_, rfl, us.keep (below_regrown wi dd os)⟩ ⟨_, rfl, ts.keep (below_regrown wi dd os)⟩)
     have p0 := cell_regrown u0; have p1 := cell_regrown u1; have p2 := cell_regrown u2; have p3 := cell_regrown u3; have p4 := cell_regrown u4; have p5 := cell_regrown u5; have p6 := cell_regrown u6
     have r0 := cell_regrown t0; have r1 := cell_regrown t1; have r2 := cell_regrown t2; have r3 := cell_regrown t3; have r4 := cell_regrown t4; have r5 := cell_regrown t5; have r6 := cell_regrown t6
     have x6 := cell_regrown a6; have y6 := cell_regrown b6
     have HSS := zH hs;have HSS' := zH hs'
     clear hs hs' us ts hsm;go_wp2_with fail
     refine wp_region_quiet_below (by kernel_rfl) (by kernel_rfl) ?_;repeat (any_goals (first | go_big_quiet_step (with_reducible exact cP _ _) | quiet_step (with_reducible exact cP _ _)))
     refine wpQuiet_nil ?_;intro _ hw';obtain ⟨⟨dq, osq⟩, hw''⟩ := hw';subst hw'';have hb3 := below_over hb2 (below_regrown wi dq osq);clear p0 p1 p2 p3 p4 p5 p6 r0 r1 r2 r3 r4 r5 r6 x6 y6 u0 u1 u2 u3 u4 u5 u6 t0 t1 t2 t3 t4 t5 t6 cP a6 b6;rcases hid_or (sameT s s') with hS | hS
     ·have R : Hid (sameT (.mk k p m d n ns ss) (.mk k p m d n ns' ss') = false) := zH (sameT_no (fun e => by
       injection e with e1 e2 e3 e4 e5 e6 e7
       have hs := HSS.out;rw [e7, HSS'.out] at hs;have h := hS.out;rw [Option.some.inj hs] at h;rw [(sameT_iff s s).2 rfl] at h;cases h))
      rw [hS.out];go_wp2_with fail
      go_ret;exact ⟨ret_bool R.out, box_below (box_below hb3)⟩
     ·have e := (sameT_iff s s').1 hS.out
      have HEQ := zH e;clear e;rw [hS.out];go_wp2_with fail
      go_roundw
      case rel => exact ⟨x + 1, by omega, by go_num, zH (fun y q1 q2 hy h1 h2 => by
       rcases Nat.lt_or_ge y x with a | a
       ·exact HP2.out y q1 q2 a h1 h2
       ·rw [show y = x by omega] at h1 h2
        rw [HSS.out] at h1; rw [HSS'.out] at h2
        rw [<- Option.some.inj h1, <- Option.some.inj h2];exact HEQ.out), hb3⟩
      case measure => simp [intOf]; omega
    ·have SE : Hid (ss = ss') := zH (list_ext' (by rw [HR.out, HR'.out]) (fun y s s' h1 h2 => HP2.out y s s' (by have := (List.getElem?_eq_some_iff.1 h1).1; rw [HR.out] at this; omega) h1 h2))
     have R : Hid (sameT (.mk k p m d n ns ss) (.mk k p m d n ns' ss') = true) := zH (by rw [sameT_iff, NE.out, SE.out]);go_wp2_with fail
     go_ret;exact ⟨ret_bool R.out, HI.out⟩
theorem RowIn.im {w : World} {A : Option Addr} {xs : List Im} (h : RowIn imR w A xs) {i : Nat} {x : Im} (hx : xs[i]? = some x) : ∃ g o, A = some ⟨g, o, none⟩ /\ g < w.heap.size /\
    w.cell? ⟨g, o + i * 4, none⟩ = some (.string x.pkg) /\ w.cell? ⟨g, o + i * 4 + 1, none⟩ = some (.int .i64 x.major) /\ w.cell? ⟨g, o + i * 4 + 2, none⟩ = some (.string x.mod) /\ w.cell? ⟨g, o + i * 4 + 3, none⟩ = some (.string x.asn) /\
    x.pkg.size <= 9223372036854775807 /\ x.mod.size <= 9223372036854775807 /\ x.asn.size <= 9223372036854775807 := by
  obtain ⟨g, o, l, hA, hg, hc, rfl, z1, z2, z3⟩ := h i x hx;exact ⟨g, o, hA, hg, hc 0 _ rfl, hc 1 _ rfl, hc 2 _ rfl, hc 3 _ rfl, z1, z2, z3⟩
theorem RowIn.de {w : World} {A : Option Addr} {xs : List De} (h : RowIn deR w A xs) {i : Nat} {x : De} (hx : xs[i]? = some x) : ∃ (g o : Nat) (v0 v1 v2 v3 v4 v5 v6 : Value), A = some ⟨g, o, none⟩ /\ g < w.heap.size /\
    w.cell? ⟨g, o + i * 9, none⟩ = some (.int .i64 x.kind) /\ w.cell? ⟨g, o + i * 9 + 1, none⟩ = some (.string x.name) /\ w.cell? ⟨g, o + i * 9 + 2, none⟩ = some v0 /\ w.cell? ⟨g, o + i * 9 + 2 + 1, none⟩ = some v1 /\ w.cell? ⟨g, o + i * 9 + 2 + 2, none⟩ = some v2 /\
    w.cell? ⟨g, o + i * 9 + 2 + 3, none⟩ = some v3 /\ w.cell? ⟨g, o + i * 9 + 2 + 4, none⟩ = some v4 /\ w.cell? ⟨g, o + i * 9 + 2 + 5, none⟩ = some v5 /\ w.cell? ⟨g, o + i * 9 + 2 + 6, none⟩ = some v6 /\ TyAt w [v0, v1, v2, v3, v4, v5, v6] x.typ /\ x.name.size <= 9223372036854775807 := by
  obtain ⟨g, o, l, hA, hg, hc, hs, l7, rfl, hT⟩ := h i x hx;obtain ⟨v0, v1, v2, v3, v4, v5, v6, rfl⟩ := list7 l7 hT.len;exact ⟨g, o, v0, v1, v2, v3, v4, v5, v6, hA, hg, hc 0 _ rfl, hc 1 _ rfl, hc 2 _ rfl, hc 3 _ rfl, hc 4 _ rfl, hc 5 _ rfl, hc 6 _ rfl, hc 7 _ rfl, hc 8 _ rfl, hT, hs⟩
def mayI (x : Im) : Bool := smallB x.pkg.data.toList && (smallB x.mod.data.toList && (smallB x.asn.data.toList && (decide (1 <= x.major) && decide (x.major <= 999999999))))
end Go.Proofs.YtddlmigofilejaaGreatDoor
namespace Go.Proofs.YtddlmigofilejaaGreatDoor
open Go.RowKit Go.Extern.Stop Go.Stop Go.Extern
theorem sp_valueOfPP (t : Addr) (w : World) : (ReflectliteValue.unpack (.iface 72 (.pointer (some t)))).run Tryz.prog w
    = .ok (.agg #[.pointer (some ⟨7, 72, none⟩), .pointer (some ⟨w.heap.size, 0, none⟩), .int .u64 150]) (w.alloc (.cells #[.pointer (some t)] 72)) := by kernel_rfl
theorem sp_typePP (a : Addr) (w : World) : (ReflectliteValue.methodAny (ReflectliteValue.valueError "reflectlite.Value.Type" 0) (fun t _ _ _ => ReflectliteType.toType t) #[.agg #[.pointer (some ⟨7, 72, none⟩), .pointer (some a), .int .u64 150]]).run Tryz.prog w
    = .ok (.iface 148 (.agg #[.pointer (some ⟨7, 72, none⟩)])) w := by kernel_rfl
theorem sp_methodKind (h : Value) (w : World) : (Go.method 471 148 (.agg #[h]) "Kind").run Tryz.prog w = .ok (318, h) w := by kernel_rfl
theorem sp_kindPP (w : World) : ((ReflectliteType.abiMethod fun t => (fun a : Nat => Value.int IntKind.u8 (a : Int)) <$> Rtype.kind t) #[.pointer (some ⟨7, 72, none⟩)]).run Tryz.prog w = .ok (.int .u8 22) w := by kernel_rfl
theorem sp_kindP (w : World) : ((ReflectliteType.abiMethod fun t => (fun a : Nat => Value.int IntKind.u8 (a : Int)) <$> Rtype.kind t) #[.pointer (some ⟨7, 70, none⟩)]).run Tryz.prog w = .ok (.int .u8 22) w := by kernel_rfl
theorem rl_method (z : Sem Value) (f : TypeId -> Addr -> Nat -> Nat -> Sem Value) (v : Value) :
    ReflectliteValue.method z f #[v] = (do match <- ReflectliteValue.parts v with | none => z | some (t, a, fl) => f t a fl (fl % 32)) := rfl
theorem sp_partsPP (a : Addr) (w : World) : (ReflectliteValue.parts (.agg #[.pointer (some ⟨7, 72, none⟩), .pointer (some a), .int .u64 150])).run Tryz.prog w = .ok (some (72, a, 150)) w := by kernel_rfl
theorem sp_isNilPP (a p : Addr) (W : World) (ha : W.cell? a = some (.pointer (some p))) :
    (ReflectliteValue.method (ReflectliteValue.valueError "reflectlite.Value.IsNil" 0) ReflectliteValue.isNil #[.agg #[.pointer (some ⟨7, 72, none⟩), .pointer (some a), .int .u64 150]]).run Tryz.prog W = .ok (.bool false) W := by
  rw [rl_method];simp only [Sem.run_bind, sp_partsPP, Result.andThen];simp [ReflectliteValue.isNil, loadVar, isAgg, underlying, Tryz.underlying72, ha, Result.andThen]
theorem sp_methodElem (h : Value) (w : World) : (Go.method 471 148 (.agg #[h]) "Elem").run Tryz.prog w = .ok (330, .agg #[h]) w := by kernel_rfl
theorem sp_methodImplements (h : Value) (w : World) : (Go.method 471 148 (.agg #[h]) "Implements").run Tryz.prog w = .ok (331, .agg #[h]) w := by kernel_rfl
theorem sp_methodAssignableTo (h : Value) (w : World) : (Go.method 471 148 (.agg #[h]) "AssignableTo").run Tryz.prog w = .ok (328, .agg #[h]) w := by kernel_rfl
theorem sp_elemPP (w : World) : (ReflectliteType.method ReflectliteType.elem #[.agg #[.pointer (some ⟨7, 72, none⟩)]]).run Tryz.prog w = .ok (.iface 148 (.agg #[.pointer (some ⟨7, 70, none⟩)])) w := by kernel_rfl
theorem sp_implements (w : World) : (ReflectliteType.relation "Implements" ReflectliteType.implements_ #[.agg #[.pointer (some ⟨7, 70, none⟩)], .iface 148 (.agg #[.pointer (some ⟨7, 28, none⟩)])]).run Tryz.prog w = .ok (.bool true) w := by kernel_rfl
theorem sp_typeOfP (v : Value) (w : World) : (ReflectliteType.typeOf #[.iface 70 v]).run Tryz.prog w = .ok (.iface 148 (.agg #[.pointer (some ⟨7, 70, none⟩)])) w := by kernel_rfl
theorem sp_assignable (w : World) : (ReflectliteType.relation "AssignableTo" ReflectliteType.assignableTo #[.agg #[.pointer (some ⟨7, 70, none⟩)], .iface 148 (.agg #[.pointer (some ⟨7, 70, none⟩)])]).run Tryz.prog w = .ok (.bool true) w := by kernel_rfl
theorem sp_valueOfP (e : Addr) (w : World) : (ReflectliteValue.unpack (.iface 70 (.pointer (some e)))).run Tryz.prog w
    = .ok (.agg #[.pointer (some ⟨7, 70, none⟩), .pointer (some ⟨w.heap.size, 0, none⟩), .int .u64 150]) (w.alloc (.cells #[.pointer (some e)] 70)) := by kernel_rfl
theorem sp_elemOfPP (w : World) : (Rtype.elem? 72).run Tryz.prog w = .ok (some 70) w := by kernel_rfl
theorem sp_mkP (p : Addr) (w : World) : (ReflectliteValue.mk 70 p ReflectliteValue.flagAddr).run Tryz.prog w = .ok (.agg #[.pointer (some ⟨7, 70, none⟩), .pointer (some p), .int .u64 406]) w := by kernel_rfl
theorem sp_elemVPP (a p : Addr) (W : World) (ha : W.cell? a = some (.pointer (some p))) :
    (ReflectliteValue.method (ReflectliteValue.valueError "reflectlite.Value.Elem" 0) ReflectliteValue.elem #[.agg #[.pointer (some ⟨7, 72, none⟩), .pointer (some a), .int .u64 150]]).run Tryz.prog W
      = .ok (.agg #[.pointer (some ⟨7, 70, none⟩), .pointer (some p), .int .u64 406]) W := by
  rw [rl_method];simp only [Sem.run_bind, sp_partsPP, Result.andThen];simp [ReflectliteValue.elem, loadVar, isAgg, underlying, Tryz.underlying72, ha, Result.andThen, sp_elemOfPP, sp_mkP]
theorem rl_set (v x : Value) : ReflectliteValue.set #[v, x] = (do
    let (some (dst, a, fl), some (src, b, _)) := (<- ReflectliteValue.parts v, <- ReflectliteValue.parts x)
      | unsupported (.noEntry "extern/(internal/reflectlite.Value).Set.zeroValue")
    if fl / ReflectliteValue.flagAddr % 2 == 0 then unsupported (.noEntry "extern/(internal/reflectlite.Value).Set.unaddressable")
    let val <- loadVar src b
    if <- Rtype.directlyAssignable dst src then storeVar dst a val
    else if <- Rtype.implements dst src then
      if (<- Rtype.kind src) == 20 then
        match val with
        | .nilIface => unsupported (.noEntry "extern/reflectlite: a nil value of one interface type handed on as a value of another")
        | _ => storeVar dst a val
      else storeVar dst a (.iface src val)
    else panicString ("reflectlite.Set: value of type " ++ (<- Rtype.spelt src) ++ " is not assignable to type " ++ (<- Rtype.spelt dst))
    pure (.tuple #[])) := rfl
theorem sp_partsA (a : Addr) (w : World) : (ReflectliteValue.parts (.agg #[.pointer (some ⟨7, 70, none⟩), .pointer (some a), .int .u64 406])).run Tryz.prog w = .ok (some (70, a, 406)) w := by kernel_rfl
theorem sp_partsB (a : Addr) (w : World) : (ReflectliteValue.parts (.agg #[.pointer (some ⟨7, 70, none⟩), .pointer (some a), .int .u64 150])).run Tryz.prog w = .ok (some (70, a, 150)) w := by kernel_rfl
theorem sp_direct (w : World) : (Rtype.directlyAssignable 70 70).run Tryz.prog w = .ok true w := by kernel_rfl
theorem sp_set (ta b e : Addr) (old : Value) (W : World) (hb : W.cell? b = some (.pointer (some e))) (ht : W.cell? ta = some old) (hf : W.frozen? ta = false) :
    (ReflectliteValue.set #[.agg #[.pointer (some ⟨7, 70, none⟩), .pointer (some ta), .int .u64 406], .agg #[.pointer (some ⟨7, 70, none⟩), .pointer (some b), .int .u64 150]]).run Tryz.prog W
      = .ok (.tuple #[]) (W.setCell ta (.pointer (some e))) := by
  rw [rl_set];simp only [Sem.run_bind, sp_partsA, sp_partsB, Result.andThen];simp [ReflectliteValue.flagAddr, loadVar, isAgg, underlying, Tryz.underlying70, hb, Result.andThen, sp_direct, storeVar, Value.cells, storeCells, Addr.add];rw [run_store Tryz.prog W ta _ _ (by rfl)];simp [ht, hf]
def ErrT (w : World) : Prop := w.cell? ⟨0, 0, none⟩ = some (.iface 148 (.agg #[.pointer (some ⟨7, 28, none⟩)]))
theorem ErrT.lt {w : World} (h : ErrT w) : 0 < w.heap.size := by
  rcases Nat.lt_or_ge 0 w.heap.size with h0 | h0
  · exact h0
  · unfold ErrT at h
    simp [World.cell?, Array.getElem?_eq_none h0] at h
theorem ErrT.on {w w' : World} (h : ErrT w) (hb : Below w.heap.size w w') : ErrT w' := (hb.cell (p := ⟨0, 0, none⟩) h.lt).trans h
theorem as_spot (e t : Addr) (old : Value) (w : World) (hg : ErrT w) (ht0 : w.cell? t = some old) (hf0 : w.frozen? t = false) :
    Calls Tryz.prog 23 #[.iface 70 (.pointer (some e)), .iface 72 (.pointer (some t))] w fun ev w' => ev = .returned (.bool true) /\ w' = ((((w.alloc (.cells #[.pointer (some t)] 72)).alloc (.cells #[.pointer (some ⟨7, 72, none⟩), .pointer (some ⟨w.heap.size, 0, none⟩), .int .u64 150] 99)).alloc (.cells #[.pointer (some ⟨7, 72, none⟩), .pointer (some ⟨w.heap.size, 0, none⟩), .int .u64 150] 99)).alloc (.cells #[.pointer (some e)] 70)).setCell t (.pointer (some e)) := by
  have h6 := @run_callFunc_extern Tryz.prog 44 _ (fun args => ReflectliteValue.unpack (args.getD 0 (.tuple #[]))) Tryz.func44 (by kernel_rfl) (by kernel_rfl) (by kernel_rfl) (by kernel_rfl);have h7 := @run_callFunc_extern Tryz.prog 45 _ (ReflectliteValue.methodAny (ReflectliteValue.valueError "reflectlite.Value.Type" 0) (fun t _ _ _ => ReflectliteType.toType t)) Tryz.func45 (by kernel_rfl) (by kernel_rfl) (by kernel_rfl) (by kernel_rfl);have h8 := @run_callFunc_extern Tryz.prog 46 _ (ReflectliteValue.method (ReflectliteValue.valueError "reflectlite.Value.IsNil" 0) ReflectliteValue.isNil) Tryz.func46 (by kernel_rfl) (by kernel_rfl) (by kernel_rfl) (by kernel_rfl);have h27 := @run_callFunc_extern Tryz.prog 318 _ (ReflectliteType.abiMethod fun t => do pure (.int .u8 (<- Rtype.kind t))) Tryz.func318 (by kernel_rfl) (by kernel_rfl) (by kernel_rfl) (by kernel_rfl);have h37 := @run_callFunc_extern Tryz.prog 330 _ (ReflectliteType.method ReflectliteType.elem) Tryz.func330 (by kernel_rfl) (by kernel_rfl) (by kernel_rfl) (by kernel_rfl);have h38 := @run_callFunc_extern Tryz.prog 331 _ (ReflectliteType.relation "Implements" ReflectliteType.implements_) Tryz.func331 (by kernel_rfl) (by kernel_rfl) (by kernel_rfl) (by kernel_rfl);have h10 := @run_callFunc_extern Tryz.prog 48 _ ReflectliteType.typeOf Tryz.func48 (by kernel_rfl) (by kernel_rfl) (by kernel_rfl) (by kernel_rfl);have h35 := @run_callFunc_extern Tryz.prog 328 _ (ReflectliteType.relation "AssignableTo" ReflectliteType.assignableTo) Tryz.func328 (by kernel_rfl) (by kernel_rfl) (by kernel_rfl) (by kernel_rfl);have h11 := @run_callFunc_extern Tryz.prog 83 _ (ReflectliteValue.method (ReflectliteValue.valueError "reflectlite.Value.Elem" 0) ReflectliteValue.elem) Tryz.func83 (by kernel_rfl) (by kernel_rfl) (by kernel_rfl) (by kernel_rfl);have h12 := @run_callFunc_extern Tryz.prog 84 _ ReflectliteValue.set Tryz.func84 (by kernel_rfl) (by kernel_rfl) (by kernel_rfl) (by kernel_rfl);have tO := sp_typeOfP;have mA := sp_methodAssignableTo;have a25 := sp_assignable;have v25 := sp_valueOfP;have f6 := sp_valueOfPP;have f7 := sp_typePP;have mK := sp_methodKind;have mE := sp_methodElem;have mI := sp_methodImplements;have k27 := sp_kindPP;have k25 := sp_kindP;have e27 := sp_elemPP;have i25 := sp_implements;have n8 := sp_isNilPP ⟨w.heap.size, 0, none⟩ t ((w.alloc (.cells #[.pointer (some t)] 72)).alloc (.cells #[.pointer (some ⟨7, 72, none⟩), .pointer (some ⟨w.heap.size, 0, none⟩), .int .u64 150] 99)) (by simp);have hlt : 0 < w.heap.size := hg.lt
  have hg2 : ((w.alloc (.cells #[.pointer (some t)] 72)).alloc (.cells #[.pointer (some ⟨7, 72, none⟩), .pointer (some ⟨w.heap.size, 0, none⟩), .int .u64 150] 99)).cell? ⟨0, 0, none⟩ = some (.iface 148 (.agg #[.pointer (some ⟨7, 28, none⟩)])) := by
    rw [World.cell?_alloc_lt _ _ ⟨0, 0, none⟩ (by simp <;> omega), World.cell?_alloc_lt _ _ ⟨0, 0, none⟩ hlt]; exact hg
  have htl : t.block < w.heap.size := by
    rcases Nat.lt_or_ge t.block w.heap.size with h | h
    · exact h
    · simp [World.cell?, Array.getElem?_eq_none h] at ht0
  have el := sp_elemVPP ⟨w.heap.size, 0, none⟩ t (((w.alloc (.cells #[.pointer (some t)] 72)).alloc (.cells #[.pointer (some ⟨7, 72, none⟩), .pointer (some ⟨w.heap.size, 0, none⟩), .int .u64 150] 99)).alloc (.cells #[.pointer (some ⟨7, 72, none⟩), .pointer (some ⟨w.heap.size, 0, none⟩), .int .u64 150] 99)) (by rw [World.cell?_alloc_lt _ _ ⟨w.heap.size, 0, none⟩ (by simp; omega)]; simp)
  have st := sp_set t ⟨w.heap.size + 1 + 1 + 1, 0, none⟩ e old ((((w.alloc (.cells #[.pointer (some t)] 72)).alloc (.cells #[.pointer (some ⟨7, 72, none⟩), .pointer (some ⟨w.heap.size, 0, none⟩), .int .u64 150] 99)).alloc (.cells #[.pointer (some ⟨7, 72, none⟩), .pointer (some ⟨w.heap.size, 0, none⟩), .int .u64 150] 99)).alloc (.cells #[.pointer (some e)] 70))
    (by rw [World.cell?_alloc_at _ _ _ _ (by simp)]; rfl)
    (by rw [World.cell?_alloc_lt _ _ t (by simp; omega), World.cell?_alloc_lt _ _ t (by simp; omega), World.cell?_alloc_lt _ _ t (by simp; omega), World.cell?_alloc_lt _ _ t htl]; exact ht0)
    (by rw [World.frozen?_alloc_old _ _ t (by simp; omega), World.frozen?_alloc_old _ _ t (by simp; omega), World.frozen?_alloc_old _ _ t (by simp; omega), World.frozen?_alloc_old _ _ t (Nat.ne_of_lt htl)]; exact hf0)
  go_enter Tryz.func23, Tryz.ntmps23
  go_wp2
  refine wp_loop_rounds 1 ?_;rw [rounds_succ];go_wp2
  go_ret;exact ⟨rfl, rfl⟩
theorem sp_typeOfC (v : Value) (w : World) : (ReflectliteType.typeOf #[.iface 31 v]).run Tryz.prog w = .ok (.iface 148 (.agg #[.pointer (some ⟨7, 31, none⟩)])) w := by kernel_rfl
theorem sp_methodComparable (h : Value) (w : World) : (Go.method 471 148 (.agg #[h]) "Comparable").run Tryz.prog w = .ok (329, .agg #[h]) w := by kernel_rfl
theorem sp_comparableC (w : World) : ((ReflectliteType.method fun t => do Rtype.noPackHeld "Comparable" t; (fun a => Value.bool a.comparable) <$> typeInfo t) #[.agg #[.pointer (some ⟨7, 31, none⟩)]]).run Tryz.prog w = .ok (.bool true) w := by kernel_rfl
theorem sp_comp : (Tryz.prog.info? 31).map (·.comparable) = some true := by kernel_rfl
theorem sp_noIs (v : Value) (xT : TypeId) (w : World) : (Instr.typeAssert (.iface 70 v) xT 160 true).run Tryz.prog w = .ok (.tuple #[.nilIface, .bool false]) w := run_typeAssert_lacksB Tryz.underlying160 (by kernel_rfl) (by kernel_rfl) v xT w
theorem sp_hasUnwrap (v : Value) (xT : TypeId) (w : World) : (Instr.typeAssert (.iface 70 v) xT 155 true).run Tryz.prog w = .ok (.tuple #[.iface 70 v, .bool true]) w := run_typeAssert_hasB Tryz.underlying155 (by kernel_rfl) v xT w
theorem sp_methodUnwrap (v : Value) (w : World) : (Go.method 471 70 v "Unwrap").run Tryz.prog w = .ok (323, v) w := by kernel_rfl
theorem is_spot (b : Nat) (c : Int) (w : World) (h1 : w.cell? ⟨b, 1, none⟩ = some (.iface 31 (.int .i64 c))) :
    Calls Tryz.prog 24 #[.iface 70 (.pointer (some ⟨b, 0, none⟩)), .iface 31 (.int .i64 c)] w fun e w' => e = .returned (.bool true) /\ w' = w := by
  have h8 := @run_callFunc_extern Tryz.prog 48 _ ReflectliteType.typeOf Tryz.func48 (by kernel_rfl) (by kernel_rfl) (by kernel_rfl) (by kernel_rfl);have h32 := @run_callFunc_extern Tryz.prog 329 _ (ReflectliteType.method fun t => do Rtype.noPackHeld "Comparable" t; pure (.bool (<- typeInfo t).comparable)) Tryz.func329 (by kernel_rfl) (by kernel_rfl) (by kernel_rfl) (by kernel_rfl);have tT := sp_typeOfC;have cT := sp_comparableC;have mR := sp_methodComparable;have nE := sp_noIs;have uW := sp_hasUnwrap;have mU := sp_methodUnwrap;have heq := Lib.run_eql_iface_int (P := Tryz.prog) (k := .i64) w c c Tryz.underlying28 sp_comp Tryz.underlying31;have hty := run_eql_iface_types (P := Tryz.prog) 70 31 (.pointer (some ⟨b, 0, none⟩)) (.int .i64 c) Tryz.underlying28 (by decide) w;go_enter Tryz.func24, Tryz.ntmps24
  go_wp2
  refine wp_loop_rounds 2 ?_;rw [rounds_succ];go_wp2
  rw [rounds_succ];go_wp2
  go_ret;exact ⟨rfl, rfl⟩
end Go.Proofs.YtddlmigofilejaaGreatDoor
namespace Go.Proofs.YtddlmigofilejaaGreatDoor
open Go.RowKit
theorem sp_compP : (Tryz.prog.info? 70).map (·.comparable) = some true := by kernel_rfl
theorem sp_sizeS : (Tryz.prog.info? 75).map (·.size) = some 2 := by kernel_rfl
theorem sp_eqSame (a : Addr) (w : World) : (binOp .eql 28 (.iface 70 (.pointer (some a))) (.iface 70 (.pointer (some a)))).run Tryz.prog w = .ok (.bool true) w := by
  obtain ⟨i, hi, hcmp⟩ := Option.map_eq_some_iff.1 sp_compP;obtain ⟨j, hj, -⟩ := Option.map_eq_some_iff.1 sp_sizeS;exact run_eql_iface_ptr_same (P := Tryz.prog) w a Tryz.underlying28 Tryz.underlying70 hi hcmp hj
theorem sp_neSame (a : Addr) (w : World) : (binOp .neq 28 (.iface 70 (.pointer (some a))) (.iface 70 (.pointer (some a)))).run Tryz.prog w = .ok (.bool false) w := by
  have h := sp_eqSame a w;simp only [binOp] at h ⊢;cases he : (Op.equal 28 (.iface 70 (.pointer (some a))) (.iface 70 (.pointer (some a)))).run Tryz.prog w <;> simp_all [Result.andThen]
theorem sp_eqCode (a b : Int) (w : World) : (binOp .eql 28 (.iface 31 (.int .i64 a)) (.iface 31 (.int .i64 b))).run Tryz.prog w = .ok (.bool (a == b)) w :=
  Lib.run_eql_iface_int (P := Tryz.prog) (k := .i64) w a b Tryz.underlying28 sp_comp Tryz.underlying31
theorem cell_on {w W : World} {b o : Nat} {v : Value} (hb : Below w.heap.size w W) (h : b < w.heap.size) (h1 : w.cell? ⟨b, o, none⟩ = some v) : W.cell? ⟨b, o, none⟩ = some v := (hb.cell (p := ⟨b, o, none⟩) h).trans h1
theorem as_below (e : Addr) (w W : World) (old : Value) (hg : ErrT W) (hb : Below w.heap.size w W) (ht : W.cell? ⟨w.heap.size, 0, none⟩ = some old) (hf : W.frozen? ⟨w.heap.size, 0, none⟩ = false) :
    Calls Tryz.prog 23 #[.iface 70 (.pointer (some e)), .iface 72 (.pointer (some ⟨w.heap.size, 0, none⟩))] W fun ev w' => ev = .returned (.bool true) /\ w'.cell? ⟨w.heap.size, 0, none⟩ = some (.pointer (some e)) /\ Below w.heap.size w w' := by
  have hlt : w.heap.size < W.heap.size := by
    rcases Nat.lt_or_ge w.heap.size W.heap.size with h | h
    · exact h
    · simp [World.cell?, Array.getElem?_eq_none h] at ht
  refine (as_spot e _ old W hg ht hf).mono ?_;rintro ev w' ⟨rfl, rfl⟩;refine ⟨rfl, ?_, ?_⟩
  · exact World.cell?_setCell_same' _ _ _ (by
      rw [World.cell?_alloc_lt _ _ _ (by simp; omega), World.cell?_alloc_lt _ _ _ (by simp; omega), World.cell?_alloc_lt _ _ _ (by simp; omega), World.cell?_alloc_lt _ _ _ hlt, ht]; rfl)
  · repeat (first | exact hb | with_reducible refine below_new ?_ _ | with_reducible refine below_put ?_ (by simp <;> omega) _)
theorem isSpot_any (b : Nat) (p c : Int) (w : World) (hg : ErrT w) (hb : b < w.heap.size) (h0 : w.cell? ⟨b, 0, none⟩ = some (.int .i64 p)) (h1 : w.cell? ⟨b, 1, none⟩ = some (.iface 31 (.int .i64 c))) :
    Calls Tryz.prog 9 #[.iface 70 (.pointer (some ⟨b, 0, none⟩)), .int .i64 p, .int .i64 c] w fun e w' => e = .returned (.bool true) /\ Below w.heap.size w w' := by
  have HB := zH hb;have H0 := zH h0;have H1 := zH h1;clear hb h0 h1;have hne := sp_neSame ⟨b, 0, none⟩;have heq := sp_eqCode c c;go_enter Tryz.func9, Tryz.ntmps9
  go_wp2_with fail
  refine (as_below _ w _ (.pointer none) (hg.on (below_new (Below.refl _ _) _)) (below_new (Below.refl _ _) _) (by go_simp) (by go_simp)).mono ?_; rintro e w1 ⟨rfl, ct, hb1⟩
  have c0 := cell_on hb1 HB.out H0.out;have c1 := cell_on hb1 HB.out H1.out;go_wp2_with fail
  refine (is_spot _ c _ c1).mono ?_; rintro e w' ⟨rfl, rfl⟩
  go_wp2
  go_ret;exact ⟨rfl, hb1⟩
end Go.Proofs.YtddlmigofilejaaGreatDoor
namespace Go.Proofs.YtddlmigofilejaaGreatDoor
open Go.RowKit
open Go.Sort
open M
theorem all_snoc {α : Type} (p : α -> Bool) (l : List α) (j : Nat) (x : α) (h : l[j]? = some x) : (l.take (j + 1)).all p = ((l.take j).all p && p x) := by
  rw [List.take_add_one, h, List.all_append]; simp
def dec (n : Int) : ByteArray := ⟨(Lib.decDigits n.toNat).toArray⟩
end Go.Proofs.YtddlmigofilejaaGreatDoor
namespace Go.Proofs.YtddlmigofilejaaGreatDoor.M
def rowOf (L : List (List UInt8)) (ns : List ByteArray) : Nat -> List UInt8
  | 0 => []
  | k + 1 => (if 0 < k then rowOf L ns k ++ [44, 32] else rowOf L ns k) ++ (if 0 < ns.length then (nameAt ns k).data.toList ++ [58, 32] else []) ++ L.getD k []
def kindText (k : Int) (p : ByteArray) (m : Int) (d n : ByteArray) (ns : List ByteArray) (L : List (List UInt8)) : List UInt8 :=
  if k = 1 then [73, 110, 116]
  else if k = 2 then [84, 101, 120, 116]
  else if k = 3 then [66, 111, 111, 108]
  else if k = 4 then [76, 105, 115, 116, 40] ++ L.getD 0 [] ++ [41]
  else if k = 5 then [123] ++ rowOf L ns L.length ++ [125]
  else if k = 6 then [91] ++ rowOf L ns L.length ++ [93]
  else if k = 7 then [40] ++ rowOf L [] (L.length - 1) ++ [41, 32, 45, 62, 32] ++ L.getD (L.length - 1) []
  else if k = 9 then [60] ++ p.data.toList ++ [32] ++ (dec m).data.toList ++ [32] ++ d.data.toList ++ [32] ++ n.data.toList ++ [62]
  else if d.size = 0 then n.data.toList
  else d.data.toList ++ [46] ++ n.data.toList
mutual
def textT : Ty -> List UInt8
  | .mk k p m d n ns ss => kindText k p m d n ns (textsT ss)
def textsT : List Ty -> List (List UInt8)
  | [] => []
  | t :: r => textT t :: textsT r
end
theorem spell_len {f g : Int -> Bool} {s : ByteArray} (h : spell f g s.data.toList = true) : s.size <= 20 := by
  have := ((spell_iff _ _ _).1 h).2.1
  rwa [len_size] at this
theorem small_len {s : ByteArray} (h : smallB s.data.toList = true) : s.size <= 20 := by
  unfold smallB at h
  simp only [Bool.and_eq_true] at h;exact spell_len h.1
theorem great_len {s : ByteArray} (h : greatB s.data.toList = true) : s.size <= 20 := by
  unfold greatB at h
  simp only [Bool.and_eq_true] at h;exact spell_len h.1
theorem own_names {t : Ty} (h : ownOk t = true) (i : Nat) (hi : i < t.names.length) : (nameAt t.names i).size <= 20 := by
  unfold ownOk at h
  simp only [Bool.and_eq_true] at h;obtain ⟨⟨-, hn⟩, hs⟩ := h;have hb := (namesOk_iff _ _).1 hn i hi;unfold badName at hb
  simp only [Bool.or_eq_false_iff, Bool.and_eq_false_iff, Bool.not_eq_false'] at hb;obtain ⟨⟨h5, h6⟩, -⟩ := hb;by_cases k5 : t.kind = 5
  · rcases h5 with h5 | h5
    · rw [k5] at h5; cases h5
    · exact small_len h5
  by_cases k6 : t.kind = 6
  · rcases h6 with h6 | h6
    · rw [k6] at h6; cases h6
    · exact great_len h6
  exfalso
  unfold shapeOk at hs
  simp only [k5, k6, if_false] at hs;have h0 : t.names.length ≠ 0 := by omega
  (repeat' split at hs) <;> simp_all
end Go.Proofs.YtddlmigofilejaaGreatDoor.M
namespace Go.Proofs.YtddlmigofilejaaGreatDoor.M
open Go
def alnum (c : UInt8) : Bool := anyC (c.toNat : Int)
def Word (l : List UInt8) : Prop := ∀ c ∈ l, alnum c = true
def Halt (l : List UInt8) : Prop := ∀ c r, l = c :: r -> alnum c = false
theorem halt_cons {c : UInt8} {r : List UInt8} (h : alnum c = false) : Halt (c :: r) := fun a s e => by
  simp only [List.cons.injEq] at e;rw [<- e.1]; exact h
theorem word_all {g : Int -> Bool} {f : Int -> Bool} {s : ByteArray} (hf : ∀ n, f n = true -> anyC n = true) (hg : ∀ n, g n = true -> anyC n = true) (h : spell f g s.data.toList = true) : Word s.data.toList := by
  intro c hc;obtain ⟨j, hj, rfl⟩ := List.getElem_of_mem hc;obtain ⟨h0, h1, h2, h3⟩ := (spell_iff _ _ _).1 h;have e : bt s.data.toList j = (((s.data.toList)[j]).toNat : Int) := by unfold bt; rw [List.getD_eq_getElem?_getD, List.getElem?_eq_getElem hj]; rfl
  unfold alnum
  rw [<- e];rcases Nat.eq_zero_or_pos j with h' | h'
  · subst h'; exact hf _ h2
  · exact hg _ (h3 j h' hj)
theorem low_any' (n : Int) (h : lowC n = true) : anyC n = true := by unfold anyC; rw [h]; rfl
theorem up_any' (n : Int) (h : upC n = true) : anyC n = true := by unfold anyC; rw [h]; simp
theorem lowDig_any' (n : Int) (h : lowDigC n = true) : anyC n = true := by
  unfold lowDigC at h; unfold anyC
  rcases Bool.or_eq_true _ _ ▸ h with h | h <;> rw [h] <;> simp
theorem small_spell {s : ByteArray} (h : smallB s.data.toList = true) : spell lowC lowDigC s.data.toList = true := by
  unfold smallB at h; simp only [Bool.and_eq_true] at h; exact h.1
theorem great_spell {s : ByteArray} (h : greatB s.data.toList = true) : spell upC anyC s.data.toList = true := by
  unfold greatB at h; simp only [Bool.and_eq_true] at h; exact h.1
theorem small_word {s : ByteArray} (h : smallB s.data.toList = true) : Word s.data.toList := word_all low_any' lowDig_any' (small_spell h)
theorem great_word {s : ByteArray} (h : greatB s.data.toList = true) : Word s.data.toList := word_all up_any' (fun _ h => h) (great_spell h)
theorem spell_ne {f g : Int -> Bool} {l : List UInt8} (h : spell f g l = true) : l ≠ [] := by
  intro e; subst e
  have := ((spell_iff _ _ _).1 h).1
  simp at this
theorem great_not_word {l : List UInt8} (h : greatB l = true) : l ∉ words := by
  unfold greatB wordB at h
  simp only [Bool.and_eq_true, Bool.not_eq_true', List.contains_eq_mem, decide_eq_false_iff_not] at h;exact h.2
theorem small_not_word {l : List UInt8} (h : smallB l = true) : l ∉ words := by
  intro hm
  have h1 : 97 <= bt l 0 := by
    unfold smallB at h
    simp only [Bool.and_eq_true, spell_iff] at h;have := h.1.2.2.1
    unfold lowC at this
    simp only [Bool.and_eq_true, decide_eq_true_eq] at this;exact this.1
  have h2 : ∀ l ∈ words, bt l 0 < 97 := by decide
  have := h2 l hm
  omega
def Stop (l : List UInt8) : Prop := ∀ c r, l = c :: r -> c = 41 \/ c = 44 \/ c = 125 \/ c = 93
theorem Stop.halt {l : List UInt8} (h : Stop l) : Halt l := fun c r e => by
  rcases h c r e with rfl | rfl | rfl | rfl <;> decide
end Go.Proofs.YtddlmigofilejaaGreatDoor.M
namespace Go.Proofs.YtddlmigofilejaaGreatDoor.M
open Go
theorem empty_bytes {s : ByteArray} (h : s.size = 0) : s = ⟨#[]⟩ := by
  apply bytes_list.1
  exact List.length_eq_zero_iff.1 (by rw [len_size]; exact h)
theorem empty_is : (⟨#[]⟩ : ByteArray) = ByteArray.empty := rfl
theorem no_more {t : Ty} (h : noMore t = true) : t.pkg = ⟨#[]⟩ /\ t.major = 0 /\ t.mod = ⟨#[]⟩ /\ t.name = ⟨#[]⟩ := by
  unfold noMore emptyB at h
  simp only [Bool.and_eq_true, decide_eq_true_eq, beq_iff_eq] at h;exact ⟨empty_bytes h.1.1.1, h.1.1.2, empty_bytes h.1.2, empty_bytes h.2⟩
theorem forms (t : Ty) (h : ownOk t = true) :
    (∃ k, (k = 1 \/ k = 2 \/ k = 3) /\ t = .mk k ⟨#[]⟩ 0 ⟨#[]⟩ ⟨#[]⟩ [] []) \/ (∃ s, t = .mk 4 ⟨#[]⟩ 0 ⟨#[]⟩ ⟨#[]⟩ [] [s]) \/
    (∃ ns ss, t = .mk 5 ⟨#[]⟩ 0 ⟨#[]⟩ ⟨#[]⟩ ns ss /\ ss.length = ns.length /\ ∀ i, i < ns.length -> smallB (nameAt ns i).data.toList = true) \/
    (∃ ns ss, t = .mk 6 ⟨#[]⟩ 0 ⟨#[]⟩ ⟨#[]⟩ ns ss /\ ss.length = ns.length /\ ∀ i, i < ns.length -> greatB (nameAt ns i).data.toList = true) \/
    (∃ ss, t = .mk 7 ⟨#[]⟩ 0 ⟨#[]⟩ ⟨#[]⟩ [] ss /\ 0 < ss.length) \/
    (∃ d n, t = .mk 8 ⟨#[]⟩ 0 d n [] [] /\ greatB n.data.toList = true /\ (smallB d.data.toList = true \/ d = ⟨#[]⟩)) \/
    (∃ p m d n, t = .mk 9 p m d n [] [] /\ smallB p.data.toList = true /\ smallB d.data.toList = true /\ greatB n.data.toList = true /\ 1 <= m) := by
  unfold ownOk at h
  simp only [Bool.and_eq_true] at h;obtain ⟨⟨-, hn⟩, hs⟩ := h;have hbad := (namesOk_iff _ _).1 hn;unfold shapeOk at hs
  by_cases k1 : t.kind = 1 \/ t.kind = 2 \/ t.kind = 3
  · rw [if_pos k1] at hs
    simp only [Bool.and_eq_true, decide_eq_true_eq] at hs;obtain ⟨e1, e2, e3, e4⟩ := no_more hs.1.1;exact .inl ⟨t.kind, k1, ty_ext rfl e1 e2 e3 e4 (List.length_eq_zero_iff.1 hs.2) (List.length_eq_zero_iff.1 hs.1.2)⟩
  rw [if_neg k1] at hs;by_cases k4 : t.kind = 4
  · rw [if_pos k4] at hs
    simp only [Bool.and_eq_true, decide_eq_true_eq] at hs;obtain ⟨e1, e2, e3, e4⟩ := no_more hs.1.1;obtain ⟨s, es⟩ := List.length_eq_one_iff.1 hs.1.2;exact .inr (.inl ⟨s, ty_ext k4 e1 e2 e3 e4 (List.length_eq_zero_iff.1 hs.2) es⟩)
  rw [if_neg k4] at hs;by_cases k5 : t.kind = 5
  · rw [if_pos k5] at hs
    simp only [Bool.and_eq_true, decide_eq_true_eq] at hs;obtain ⟨e1, e2, e3, e4⟩ := no_more hs.1;refine .inr (.inr (.inl ⟨t.names, t.subs, ty_ext k5 e1 e2 e3 e4 rfl rfl, hs.2, fun i hi => ?_⟩));have := hbad i hi
    unfold badName at this
    rw [k5] at this;simp only [Bool.or_eq_false_iff, Bool.and_eq_false_iff, Bool.not_eq_false'] at this;rcases this.1.1 with a | a
    · simp at a
    · exact a
  rw [if_neg k5] at hs;by_cases k6 : t.kind = 6
  · rw [if_pos k6] at hs
    simp only [Bool.and_eq_true, decide_eq_true_eq] at hs;obtain ⟨e1, e2, e3, e4⟩ := no_more hs.1.1;refine .inr (.inr (.inr (.inl ⟨t.names, t.subs, ty_ext k6 e1 e2 e3 e4 rfl rfl, hs.1.2, fun i hi => ?_⟩)));have := hbad i hi
    unfold badName at this
    rw [k6] at this;simp only [Bool.or_eq_false_iff, Bool.and_eq_false_iff, Bool.not_eq_false'] at this;rcases this.1.2 with a | a
    · simp at a
    · exact a
  rw [if_neg k6] at hs;by_cases k7 : t.kind = 7
  · rw [if_pos k7] at hs
    simp only [Bool.and_eq_true, decide_eq_true_eq] at hs;obtain ⟨e1, e2, e3, e4⟩ := no_more hs.1.1;exact .inr (.inr (.inr (.inr (.inl ⟨t.subs, ty_ext k7 e1 e2 e3 e4 (List.length_eq_zero_iff.1 hs.2) rfl, hs.1.2⟩))))
  rw [if_neg k7] at hs;by_cases k8 : t.kind = 8
  · rw [if_pos k8] at hs
    unfold emptyB at hs
    simp only [Bool.and_eq_true, Bool.or_eq_true, decide_eq_true_eq, beq_iff_eq] at hs;obtain ⟨⟨⟨⟨⟨a, b⟩, c⟩, e⟩, f⟩, g⟩ := hs;exact .inr (.inr (.inr (.inr (.inr (.inl ⟨t.mod, t.name, ty_ext k8 (empty_bytes c) e rfl rfl (List.length_eq_zero_iff.1 b) (List.length_eq_zero_iff.1 a), f, g.imp id empty_bytes⟩)))))
  rw [if_neg k8] at hs;by_cases k9 : t.kind = 9
  · rw [if_pos k9] at hs
    simp only [Bool.and_eq_true, decide_eq_true_eq] at hs;obtain ⟨⟨⟨⟨⟨⟨a, b⟩, c⟩, e⟩, f⟩, g⟩, -⟩ := hs;exact .inr (.inr (.inr (.inr (.inr (.inr ⟨t.pkg, t.major, t.mod, t.name, ty_ext k9 rfl rfl rfl rfl (List.length_eq_zero_iff.1 b) (List.length_eq_zero_iff.1 a), c, e, f, g⟩)))))
  rw [if_neg k9] at hs;cases hs
def tag (w r : List UInt8) : Int :=
  if w = [73, 110, 116] then 1 else if w = [84, 101, 120, 116] then 2 else if w = [66, 111, 111, 108] then 3 else if w = [76, 105, 115, 116] then 4
  else if w = [] then (if r.head? = some 123 then 5 else if r.head? = some 91 then 6 else if r.head? = some 40 then 7 else 9) else 8
theorem tag_name {l r : List UInt8} (h : l ≠ []) (hw : l ∉ words) : tag l r = 8 := by
  have h1 : l ≠ [73, 110, 116] := fun e => hw (by rw [e]; decide)
  have h2 : l ≠ [84, 101, 120, 116] := fun e => hw (by rw [e]; decide)
  have h3 : l ≠ [66, 111, 111, 108] := fun e => hw (by rw [e]; decide)
  have h4 : l ≠ [76, 105, 115, 116] := fun e => hw (by rw [e]; decide)
  unfold tag
  rw [if_neg h1, if_neg h2, if_neg h3, if_neg h4, if_neg h]
theorem split (t : Ty) (h : ownOk t = true) : ∃ w r, textT t = w ++ r /\ Word w /\ ∀ x, Stop x -> Halt (r ++ x) /\ tag w (r ++ x) = t.kind := by
  rcases forms t h with ⟨k, hk, rfl⟩ | ⟨s, rfl⟩ | ⟨ns, ss, rfl, -, -⟩ | ⟨ns, ss, rfl, -, -⟩ | ⟨ss, rfl, -⟩ | ⟨d, n, rfl, hn, hd⟩ | ⟨p, m, d, n, rfl, hp, hd, hn, hm⟩
  · rcases hk with rfl | rfl | rfl
    · exact ⟨[73, 110, 116], [], rfl, by unfold Word; decide, fun x hx => ⟨by simpa using hx.halt, rfl⟩⟩
    · exact ⟨[84, 101, 120, 116], [], rfl, by unfold Word; decide, fun x hx => ⟨by simpa using hx.halt, rfl⟩⟩
    · exact ⟨[66, 111, 111, 108], [], rfl, by unfold Word; decide, fun x hx => ⟨by simpa using hx.halt, rfl⟩⟩
  · exact ⟨[76, 105, 115, 116], [40] ++ textT s ++ [41], by simp [textT, kindText, textsT], by unfold Word; decide, fun x hx => ⟨halt_cons (by decide), rfl⟩⟩
  · exact ⟨[], _, (List.nil_append _).symm, by unfold Word; decide, fun x hx => by simp only [textT, kindText]; exact ⟨halt_cons (by decide), rfl⟩⟩
  · exact ⟨[], _, (List.nil_append _).symm, by unfold Word; decide, fun x hx => by simp only [textT, kindText]; exact ⟨halt_cons (by decide), rfl⟩⟩
  · exact ⟨[], _, (List.nil_append _).symm, by unfold Word; decide, fun x hx => by simp only [textT, kindText]; exact ⟨halt_cons (by decide), rfl⟩⟩
  · rcases hd with hd | rfl
    · have hne := spell_ne (small_spell hd)
      have hz : d.size ≠ 0 := fun e => hne (List.length_eq_zero_iff.1 (by rw [len_size]; exact e))
      exact ⟨d.data.toList, [46] ++ n.data.toList, by simp [textT, kindText, hz], small_word hd, fun x hx => ⟨halt_cons (by decide), tag_name hne (small_not_word hd)⟩⟩
    · exact ⟨n.data.toList, [], by simp [textT, kindText, empty_is], great_word hn, fun x hx => ⟨by simpa using hx.halt, tag_name (spell_ne (great_spell hn)) (great_not_word hn)⟩⟩
  · exact ⟨[], _, (List.nil_append _).symm, by unfold Word; decide, fun x hx => by simp only [textT, kindText]; exact ⟨halt_cons (by decide), rfl⟩⟩
end Go.Proofs.YtddlmigofilejaaGreatDoor.M
namespace Go.Proofs.YtddlmigofilejaaGreatDoor.M
open Go
abbrev Tk := Nat × List UInt8
inductive Lexes : List UInt8 -> List Tk -> Prop
  | nil : Lexes [] []
  | blank {c : UInt8} {r : List UInt8} {ts : List Tk} : blankC (c.toNat : Int) = true -> Lexes r ts -> Lexes (c :: r) ts
  | word {k : Nat} {w r : List UInt8} {ts : List Tk} : ((k = 1 /\ lowC (bt w 0) = true) \/ (k = 2 /\ upC (bt w 0) = true)) -> w ≠ [] -> Word w -> Halt r -> Lexes r ts -> Lexes (w ++ r) ((k, w) :: ts)
  | num {w r : List UInt8} {ts : List Tk} : w ≠ [] -> (∀ c ∈ w, digC (c.toNat : Int) = true) -> Halt r -> Lexes r ts -> Lexes (w ++ r) ((3, w) :: ts)
  | two {a b : UInt8} {r : List UInt8} {ts : List Tk} : twoC (a.toNat : Int) (b.toNat : Int) = true -> Lexes r ts -> Lexes (a :: b :: r) ((4, [a, b]) :: ts)
  | sign {c : UInt8} {r : List UInt8} {ts : List Tk} : signC (c.toNat : Int) = true -> twoC (c.toNat : Int) (bt r 0) = false -> Lexes r ts -> Lexes (c :: r) ((4, [c]) :: ts)
theorem item_blank {c : UInt8} {r : List UInt8} (h : blankC (c.toNat : Int) = true) : item ([c] ++ r) 0 = (0, [c].length) := by
  unfold item
  rw [if_pos (by exact h)]; rfl
end Go.Proofs.YtddlmigofilejaaGreatDoor.M
namespace Go.Proofs.YtddlmigofilejaaGreatDoor.M
open Go
end Go.Proofs.YtddlmigofilejaaGreatDoor.M
namespace Go.Proofs.YtddlmigofilejaaGreatDoor
open M
def impHas (m : Mo) (s : ByteArray) : Bool := m.imps.any fun x => decide (x.asn = s)
def isTyp (s : ByteArray) (d : De) : Bool := !(d.kind == 4) && decide (d.name = s)
def typAt (m : Mo) (s : ByteArray) : Option Nat := m.decs.findIdx? (isTyp s)
mutual
def saidT (m : Mo) : Ty -> List Nat
  | .mk k _ _ d n _ ss => if k = 8 then (if d.size = 0 then (typAt m n).toList else []) else saidL m ss
def saidL (m : Mo) : List Ty -> List Nat
  | [] => []
  | t :: r => saidT m t ++ saidL m r
end
mutual
def wholeT (m : Mo) : Ty -> Bool
  | .mk k _ _ d n _ ss => if k = 8 then (if d.size = 0 then (typAt m n).isSome else impHas m d) else wholeL m ss
def wholeL (m : Mo) : List Ty -> Bool
  | [] => true
  | t :: r => wholeT m t && wholeL m r
end
theorem saidL_append (m : Mo) : ∀ a b, saidL m (a ++ b) = saidL m a ++ saidL m b
  | [], b => rfl
  | t :: r, b => by simp [saidL, saidL_append m r b]
theorem wholeL_append (m : Mo) : ∀ a b, wholeL m (a ++ b) = (wholeL m a && wholeL m b)
  | [], b => by simp [wholeL]
  | t :: r, b => by simp [wholeL, wholeL_append m r b, Bool.and_assoc]
theorem saidL_take (m : Mo) (l : List Ty) (k : Nat) (t : Ty) (h : l[k]? = some t) : saidL m (l.take (k + 1)) = saidL m (l.take k) ++ saidT m t := by
  rw [List.take_add_one, h, saidL_append]; simp [saidL]
theorem wholeL_take (m : Mo) (l : List Ty) (k : Nat) (t : Ty) (h : l[k]? = some t) : wholeL m (l.take (k + 1)) = (wholeL m (l.take k) && wholeT m t) := by
  rw [List.take_add_one, h, wholeL_append]; simp [wholeL]
theorem saidT_sub (m : Mo) (t : Ty) (h : t.kind ≠ 8) : saidT m t = saidL m t.subs := by
  cases t; unfold saidT; exact if_neg h
theorem wholeT_sub (m : Mo) (t : Ty) (h : t.kind ≠ 8) : wholeT m t = wholeL m t.subs := by
  cases t; unfold wholeT; exact if_neg h
theorem saidT_local (m : Mo) (t : Ty) (h : t.kind = 8) : saidT m t = if t.mod.size = 0 then (typAt m t.name).toList else [] := by
  cases t; unfold saidT; exact if_pos h
theorem wholeT_local (m : Mo) (t : Ty) (h : t.kind = 8) : wholeT m t = if t.mod.size = 0 then (typAt m t.name).isSome else impHas m t.mod := by
  cases t; unfold wholeT; exact if_pos h
theorem typAt_lt {m : Mo} {s : ByteArray} {i : Nat} (h : typAt m s = some i) : i < m.decs.length := by
  unfold typAt at h
  rw [List.findIdx?_eq_some_iff_getElem] at h;exact h.1
theorem said_lt (m : Mo) : ∀ (N : Nat) (t : Ty), many t <= N -> ∀ i ∈ saidT m t, i < m.decs.length := by
  intro N;induction N with
  | zero => intro t h; have := many_pos t; omega
  | succ N ih =>
    intro t hN i hi;by_cases hk : t.kind = 8
    · rw [saidT_local m t hk] at hi
      split at hi
      · exact typAt_lt (Option.mem_toList.1 hi)
      · cases hi
    · rw [saidT_sub m t hk] at hi
      have key : ∀ (l : List Ty), (∀ s ∈ l, many s <= N) -> ∀ i ∈ saidL m l, i < m.decs.length := by
        intro l;induction l with
        | nil => intro _ i hi; cases hi
        | cons a r ih2 =>
          intro h i hi;unfold saidL at hi
          rcases List.mem_append.1 hi with hi | hi
          · exact ih a (h a (by simp)) i hi
          · exact ih2 (fun s hs => h s (by simp [hs])) i hi
      exact key t.subs (fun s hs => by
        have := manyL_mem _ _ hs
        have e : many t = 1 + manyL t.subs := by cases t; rfl
        omega) i hi
theorem said_len (m : Mo) : ∀ (N : Nat) (t : Ty), many t <= N -> (saidT m t).length <= many t := by
  intro N;induction N with
  | zero => intro t h; have := many_pos t; omega
  | succ N ih =>
    intro t hN;have e : many t = 1 + manyL t.subs := by cases t; rfl
    by_cases hk : t.kind = 8
    · rw [saidT_local m t hk]
      split
      · cases typAt m t.name <;> simp <;> omega
      · simp
    · rw [saidT_sub m t hk]
      have key : ∀ (l : List Ty), (∀ s ∈ l, many s <= N) -> (saidL m l).length <= manyL l := by
        intro l;induction l with
        | nil => intro _; simp [saidL]
        | cons a r ih2 =>
          intro h;have h1 := ih a (h a (by simp));have h2 := ih2 (fun s hs => h s (by simp [hs]));simp only [saidL, manyL, List.length_append];omega
      have := key t.subs (fun s hs => by have := manyL_mem _ _ hs; omega)
      omega
structure En where
  at_ : Nat
  kind : Int
  said : List Nat
  whole : Bool
def entriesOf (m : Mo) (l : List De) : List En := l.mapIdx fun i d => ⟨i, d.kind, saidT m d.typ, wholeT m d.typ⟩
def entries (m : Mo) : List En := entriesOf m m.decs
theorem entries_len (m : Mo) : (entries m).length = m.decs.length := by simp [entries, entriesOf]
theorem entries_at {m : Mo} {i : Nat} {d : De} (h : m.decs[i]? = some d) : (entries m)[i]? = some ⟨i, d.kind, saidT m d.typ, wholeT m d.typ⟩ := by
  unfold entries entriesOf; rw [List.getElem?_mapIdx, h]; rfl
inductive Reach (E : List En) (l : List Nat) : Nat -> Prop
  | one {i : Nat} : i ∈ l -> Reach E l i
  | step {i j : Nat} {x : En} : Reach E l j -> E[j]? = some x -> i ∈ x.said -> Reach E l i
end Go.Proofs.YtddlmigofilejaaGreatDoor
namespace Go.Proofs.YtddlmigofilejaaGreatDoor
open Go.RowKit
open Go.Sort
open M
theorem z46 : (⟨#[46]⟩ : ByteArray).size = 1 := rfl
end Go.Proofs.YtddlmigofilejaaGreatDoor
