/-
  Several texts in one.
-/
import Derived.Test.YteecgiebimdbhaaGreatDoorK20
import Derived.DeepKeys3
import Derived.Lib.SliceRun
import Derived.Deep.Upon
set_option maxRecDepth 100000
set_option maxHeartbeats 8000000
namespace Go.Proofs.YteecgiebimdbhaaGreatDoor
open Go.RowKit
open Go.Sort
open M
theorem sameL_no {a b : List Ty} (h : a ≠ b) : sameL a b = false := by
 rw [Bool.eq_false_iff, ne_eq, sameL_iff]; exact h
theorem equal_names (A : Option Addr) (c n : Nat) (l : List ByteArray) (A' : Option Addr) (c' n' : Nat) (l' : List ByteArray) (w : World) (hn : l.length = n) (hn' : l'.length = n') (hz : n <= 9223372036854775807) (hz' : n' <= 9223372036854775807) (hN : NamesAt w A l) (hN' : NamesAt w A' l') :
  Calls Tryz.prog 214 #[.slice A n c, .slice A' n' c'] w fun e w' => e = .returned (.bool (decide (l = l'))) /\ Below w.heap.size w w' := by
 have HN := hZ hN
 have HN' := hZ hN'
 have HQ := hZ hn
 have HQ' := hZ hn'
 clear hN hN' hn hn'
 by_cases hqq : n = n'
 rotate_left
 ·have R : Hid (decide (l = l') = false) := hZ (by
   have h1 := HQ.out;have h2 := HQ'.out;simp;intro e; subst e; omega)
  have f1 : (((n : Nat) : Int) == ((n' : Nat) : Int)) = false := by simp; omega
  have f2 : (((n : Nat) : Int) != ((n' : Nat) : Int)) = true := by simp; omega
  rw [R.out];clear hqq;as_aux_lemma =>
  go_enter Tryz.func214, Tryz.ntmps214
  go_wp2_with fail
  go_ret;exact ⟨rfl, Below.refl _ _⟩
 subst hqq
 go_enter Tryz.func214, Tryz.ntmps214
 go_wp2_with fail
 go_loopw [13] (fun i wr => ∃ k : Nat, k <= n /\ i = .int .i64 k /\ Hid (∀ j x y, j < k -> l[j]? = some x -> l'[j]? = some y -> x = y) /\ Below w.heap.size w wr) (fun i _ => n - (intOf i).toNat)
 case atStart => exact ⟨0, by omega, rfl, hZ (fun j x y h => by omega), Below.refl _ _⟩
 case round =>
  obtain ⟨k, hk, rfl, HP, hb⟩ := hrel;obtain ⟨wo, rfl⟩ : ∃ wo : World, wo = wr := ⟨_, rfl⟩;by_cases hlt : k < n
  ·obtain ⟨x, hx⟩ : ∃ x, l[k]? = some x := ⟨_, List.getElem?_eq_getElem (by rw [HQ.out]; exact hlt)⟩
   obtain ⟨y, hy⟩ : ∃ y, l'[k]? = some y := ⟨_, List.getElem?_eq_getElem (by rw [HQ'.out]; exact hlt)⟩;obtain ⟨g, o, rfl, hg, hc, -⟩ := HN.out.below hb k x hx;obtain ⟨g', o', rfl, hg', hc', -⟩ := HN'.out.below hb k y hy;have HX := hZ hx;have HY := hZ hy;clear hx hy;by_cases hxy : x = y
   ·have f1 : (x.toList == y.toList) = true := by rw [hxy]; simp
    have f2 : (!(x.toList == y.toList)) = false := by rw [f1]; rfl
    have HXY := hZ hxy;clear hxy;go_wp2_with fail
    go_quiet (fail)
    go_wp2_with fail
    go_roundw
    case rel => exact ⟨k + 1, by omega, by go_num, hZ (fun j a b hj ha hb => by
     rcases Nat.lt_or_ge j k with e | e
     ·exact HP.out j a b e ha hb
     ·rw [show j = k by omega, HX.out] at ha
      rw [show j = k by omega, HY.out] at hb;obtain rfl := Option.some.inj ha;obtain rfl := Option.some.inj hb;exact HXY.out), below_drewN hb _⟩
    case measure => simp [intOf]; omega
   ·have f1 : (x.toList == y.toList) = false := by
     rw [beq_eq_false_iff_ne, ne_eq, Lib.toList_data, Lib.toList_data, bytes_list];exact hxy
    have f2 : (!(x.toList == y.toList)) = true := by rw [f1]; rfl
    have f3 : ¬ x.toList = y.toList := by simpa using f1
    have R : Hid (decide (l = l') = false) := hZ (by
     simp;intro e; subst e
     have a := HX.out;rw [HY.out] at a;exact hxy (Option.some.inj a).symm)
    clear hxy;go_wp2_with fail
    go_quiet (fail)
    go_wp2_with fail
    go_ret;exact ⟨ret_bool R.out, below_drewN hb _⟩
  ·have R : Hid (decide (l = l') = true) := hZ (by
    simp
    exact list_ext' (by rw [HQ.out, HQ'.out]) (fun i x y hx hy => HP.out i x y (by
     have := (List.getElem?_eq_some_iff.1 hx).1
     rw [HQ.out] at this; omega) hx hy))
   go_wp2_with fail
   go_ret;exact ⟨ret_bool R.out, hb⟩
theorem equal_alike (A : Option Addr) (c n : Nat) (l : List Ty) (A' : Option Addr) (c' n' : Nat) (l' : List Ty) (w : World) (hn : l.length = n) (hn' : l'.length = n') (hz : n <= 9223372036854775807) (hz' : n' <= 9223372036854775807) (hS : SubsAt w A l) (hS' : SubsAt w A' l')
  (IH : ∀ s, s ∈ l -> ∀ (q : Ty) (v v' : Value) (w : World), TyV w v s -> TyV w v' q -> Calls Tryz.prog 182 #[v, v'] w fun e w' => e = .returned (.bool (sameT s q)) /\ Below w.heap.size w w') :
  Calls Tryz.prog 215 #[.slice A n c, .slice A' n' c', .func (.func 182) #[] #[]] w fun e w' => e = .returned (.bool (sameL l l')) /\ Below w.heap.size w w' := by
 have HN := hZ hS
 have HN' := hZ hS'
 have HQ := hZ hn
 have HQ' := hZ hn'
 have HIH := hZ IH
 clear hS hS' hn hn' IH
 by_cases hqq : n = n'
 rotate_left
 ·have R : Hid (sameL l l' = false) := hZ (by
   have h1 := HQ.out;have h2 := HQ'.out;exact sameL_no (fun e => by subst e; omega))
  have f1 : (((n : Nat) : Int) == ((n' : Nat) : Int)) = false := by simp; omega
  have f2 : (((n : Nat) : Int) != ((n' : Nat) : Int)) = true := by simp; omega
  rw [R.out];clear hqq;as_aux_lemma =>
  go_enter Tryz.func215, Tryz.ntmps215
  go_wp2_with fail
  go_ret;exact ⟨rfl, Below.refl _ _⟩
 subst hqq
 go_enter Tryz.func215, Tryz.ntmps215
 go_wp2_with fail
 go_loopw [17] (fun i wr => ∃ k : Nat, k <= n /\ i = .int .i64 k /\ Hid (∀ j x y, j < k -> l[j]? = some x -> l'[j]? = some y -> x = y) /\ Hid (Below w.heap.size w wr)) (fun i _ => n - (intOf i).toNat)
 case atStart => exact ⟨0, by omega, rfl, hZ (fun j x y h => by omega), hZ (Below.refl _ _)⟩
 case round =>
  obtain ⟨k, hk, rfl, HP, HB⟩ := hrel;obtain ⟨wo, rfl⟩ : ∃ wo : World, wo = wr := ⟨_, rfl⟩;by_cases hlt : k < n
  ·obtain ⟨x, hx⟩ : ∃ x, l[k]? = some x := ⟨_, List.getElem?_eq_getElem (by rw [HQ.out]; exact hlt)⟩
   obtain ⟨y, hy⟩ : ∃ y, l'[k]? = some y := ⟨_, List.getElem?_eq_getElem (by rw [HQ'.out]; exact hlt)⟩;obtain ⟨g, o, v0, v1, v2, v3, v4, v5, v6, rfl, hg, h0, h1, h2, h3, h4, h5, h6, hs7⟩ := HN.out.below HB.out k x hx;obtain ⟨g', o', z0, z1, z2, z3, z4, z5, z6, rfl, hg', e0, e1, e2, e3, e4, e5, e6, ht7⟩ := HN'.out.below HB.out k y hy;obtain ⟨Am, cm, At, ct, rfl, rfl, rfl, rfl, rfl, rfl, rfl⟩ := hs7.seven;obtain ⟨Bm, dm, Bt, dt, rfl, rfl, rfl, rfl, rfl, rfl, rfl⟩ := ht7.seven;have IHs := hZ (fun w' (hw : Below wo.heap.size wo w') => HIH.out x (List.mem_of_getElem? hx) y _ _ w' (TyV.below ⟨_, rfl, hs7⟩ hw) (TyV.below ⟨_, rfl, ht7⟩ hw));have HX := hZ hx;have HY := hZ hy;clear hx hy hs7 ht7;rcases hid_or (sameT x y) with hxy | hxy
   ·have R : Hid (sameL l l' = false) := hZ (sameL_no (fun e => by
     subst e;have a := HX.out;rw [HY.out] at a;have b := hxy.out;rw [Option.some.inj a] at b;rw [(sameT_iff x x).2 rfl] at b;cases b))
    go_wp2_with fail
    refine (IHs.out _ (below_new (below_new (Below.refl _ _) _) _)).mono ?_; rintro e w5 ⟨rfl, hb5⟩; rw [hxy.out]
    have HB5 := hZ ((below_new (below_new HB.out _) _).trans (hb5.mono (by have := HB.out.size; simp; omega)));clear h0 h1 h2 h3 h4 h5 h6 e0 e1 e2 e3 e4 e5 e6 hb5 IHs;go_wp2_with fail
    go_ret;exact ⟨ret_bool R.out, HB5.out⟩
   ·go_wp2_with fail
    refine (IHs.out _ (below_new (below_new (Below.refl _ _) _) _)).mono ?_; rintro e w5 ⟨rfl, hb5⟩; rw [hxy.out]
    have HB5 := hZ ((below_new (below_new HB.out _) _).trans (hb5.mono (by have := HB.out.size; simp; omega)));clear h0 h1 h2 h3 h4 h5 h6 e0 e1 e2 e3 e4 e5 e6 hb5 IHs;go_wp2_with fail
    go_roundw
    case rel => exact ⟨k + 1, by omega, by go_num, hZ (fun j a b hj ha hb => by
     rcases Nat.lt_or_ge j k with e | e
     ·exact HP.out j a b e ha hb
     ·rw [show j = k by omega, HX.out] at ha
      rw [show j = k by omega, HY.out] at hb;obtain rfl := Option.some.inj ha;obtain rfl := Option.some.inj hb;exact (sameT_iff _ _).1 hxy.out), HB5⟩
    case measure => simp [intOf]; omega
  ·have R : Hid (sameL l l' = true) := hZ (by
    rw [sameL_iff]
    exact list_ext' (by rw [HQ.out, HQ'.out]) (fun i x y hx hy => HP.out i x y (by
     have := (List.getElem?_eq_some_iff.1 hx).1
     rw [HQ.out] at this; omega) hx hy))
   go_wp2_with fail
   go_ret;exact ⟨ret_bool R.out, HB.out⟩
theorem alike_any (N : Nat) : ∀ (a b : Ty), many a <= N -> ∀ (v v' : Value) (w : World), TyV w v a -> TyV w v' b ->
  Calls Tryz.prog 182 #[v, v'] w fun e w' => e = .returned (.bool (sameT a b)) /\ Below w.heap.size w w' := by
 induction N with
 | zero => intro a b h; have := many_pos a; omega
 | succ N ih =>
 intro a b hN v v' w hv hv'
 have HIH := hZ (fun s (hs : s ∈ a.subs) (q : Ty) (v v' : Value) (w : World) (hv : TyV w v s) (hv' : TyV w v' q) => ih s q (by have := manyL_mem a.subs s hs; have := manyL_eq a; omega) v v' w hv hv')
 clear ih hN
 obtain ⟨l, rfl, hT⟩ := hv
 obtain ⟨An, cn, As, cs, rfl, -, -, -, hzn, hz, hNA, hS⟩ := hT.parts
 obtain ⟨l', rfl, hT'⟩ := hv'
 obtain ⟨Bn, cn', Bs, cs', rfl, -, -, -, hzn', hz', hNB, hS'⟩ := hT'.parts
 clear hT hT'
 obtain ⟨k, p, m, d, n, ns, ss⟩ := a
 obtain ⟨k', p', m', d', n', ns', ss'⟩ := b
 simp only [Ty.kind, Ty.pkg, Ty.major, Ty.mod, Ty.name, Ty.names, Ty.subs] at *
 have HNA := hZ hNA
 have HNB := hZ hNB
 have HSA := hZ hS
 have HSB := hZ hS'
 clear hNA hNB hS hS'
 generalize hq : ns.length = q at hzn
 generalize hq' : ns'.length = q' at hzn'
 generalize hr : ss.length = r at hz
 generalize hr' : ss'.length = r' at hz'
 have HQ := hZ hq
 have HQ' := hZ hq'
 have HR := hZ hr
 have HR' := hZ hr'
 clear hq hq' hr hr'
 by_cases h1 : k = k'
 rotate_left
 ·have R : Hid (sameT (.mk k p m d n ns ss) (.mk k' p' m' d' n' ns' ss') = false) := hZ (sameT_no (fun e => by injection e with e1 e2 e3 e4 e5 e6 e7; exact h1 e1))
  rw [R.out];have f1 : (k == k') = false := by simpa using h1
  clear h1;as_aux_lemma =>
  go_enter Tryz.func182, Tryz.ntmps182
  go_wp2_with fail
  go_ret;exact ⟨rfl, below_new (below_new (Below.refl _ _) _) _⟩
 subst h1
 by_cases h2 : p = p'
 rotate_left
 ·have R : Hid (sameT (.mk k p m d n ns ss) (.mk k p' m' d' n' ns' ss') = false) := hZ (sameT_no (fun e => by injection e with e1 e2 e3 e4 e5 e6 e7; exact h2 e2))
  rw [R.out]
  have f1 : (p.toList == p'.toList) = false := by
   rw [beq_eq_false_iff_ne, ne_eq, Lib.toList_data, Lib.toList_data, bytes_list];exact h2
  have f3 : ¬ p.toList = p'.toList := by simpa using f1
  clear h2;as_aux_lemma =>
  go_enter Tryz.func182, Tryz.ntmps182
  go_wp2_with fail
  go_ret;exact ⟨rfl, below_new (below_new (Below.refl _ _) _) _⟩
 subst h2
 by_cases h3 : m = m'
 rotate_left
 ·have R : Hid (sameT (.mk k p m d n ns ss) (.mk k p m' d' n' ns' ss') = false) := hZ (sameT_no (fun e => by injection e with e1 e2 e3 e4 e5 e6 e7; exact h3 e3))
  rw [R.out];have f1 : (m == m') = false := by simpa using h3
  clear h3;as_aux_lemma =>
  go_enter Tryz.func182, Tryz.ntmps182
  go_wp2_with fail
  go_ret;exact ⟨rfl, below_new (below_new (Below.refl _ _) _) _⟩
 subst h3
 by_cases h4 : d = d'
 rotate_left
 ·have R : Hid (sameT (.mk k p m d n ns ss) (.mk k p m d' n' ns' ss') = false) := hZ (sameT_no (fun e => by injection e with e1 e2 e3 e4 e5 e6 e7; exact h4 e4))
  rw [R.out]
  have f1 : (d.toList == d'.toList) = false := by
   rw [beq_eq_false_iff_ne, ne_eq, Lib.toList_data, Lib.toList_data, bytes_list];exact h4
  have f3 : ¬ d.toList = d'.toList := by simpa using f1
  clear h4;as_aux_lemma =>
  go_enter Tryz.func182, Tryz.ntmps182
  go_wp2_with fail
  go_ret;exact ⟨rfl, below_new (below_new (Below.refl _ _) _) _⟩
 subst h4
 by_cases h5 : n = n'
 rotate_left
 ·have R : Hid (sameT (.mk k p m d n ns ss) (.mk k p m d n' ns' ss') = false) := hZ (sameT_no (fun e => by injection e with e1 e2 e3 e4 e5 e6 e7; exact h5 e5))
  rw [R.out]
  have f1 : (n.toList == n'.toList) = false := by
   rw [beq_eq_false_iff_ne, ne_eq, Lib.toList_data, Lib.toList_data, bytes_list];exact h5
  have f3 : ¬ n.toList = n'.toList := by simpa using f1
  clear h5;as_aux_lemma =>
  go_enter Tryz.func182, Tryz.ntmps182
  go_wp2_with fail
  go_ret;exact ⟨rfl, below_new (below_new (Below.refl _ _) _) _⟩
 subst h5
 have HBX := hZ (below_new (below_new (Below.refl _ w) (.cells #[.int .i64 k, .string p, .int .i64 m, .string d, .string n, .slice An q cn, .slice As r cs] 55)) (.cells #[.int .i64 k, .string p, .int .i64 m, .string d, .string n, .slice Bn q' cn', .slice Bs r' cs'] 55))
 rcases hid_or (decide (ns = ns')) with hnn | hnn
 ·have R : Hid (sameT (.mk k p m d n ns ss) (.mk k p m d n ns' ss') = false) := hZ (sameT_no (fun e => by injection e with e1 e2 e3 e4 e5 e6 e7; have := hnn.out; simp at this; exact this e6))
  rw [R.out];as_aux_lemma =>
  go_enter Tryz.func182, Tryz.ntmps182
  go_wp2_with fail
  refine (equal_names An cn q ns Bn cn' q' ns' _ HQ.out HQ'.out hzn hzn' (HNA.out.below HBX.out) (HNB.out.below HBX.out)).mono ?_; rintro e w5 ⟨rfl, hb5⟩; rw [hnn.out]
  go_wp2_with fail
  go_ret;exact ⟨rfl, HBX.out.trans (hb5.mono HBX.out.size)⟩
 ·have R : Hid (sameT (.mk k p m d n ns ss) (.mk k p m d n ns' ss') = sameL ss ss') := hZ (by
   have h := hnn.out;simp at h;subst h;unfold sameT; simp)
  rw [R.out];as_aux_lemma =>
  go_enter Tryz.func182, Tryz.ntmps182
  go_wp2_with fail
  refine (equal_names An cn q ns Bn cn' q' ns' _ HQ.out HQ'.out hzn hzn' (HNA.out.below HBX.out) (HNB.out.below HBX.out)).mono ?_; rintro e w5 ⟨rfl, hb5⟩; rw [hnn.out]
  have HB5 := hZ (HBX.out.trans (hb5.mono HBX.out.size));obtain ⟨hc5, hf5⟩ := bcell hb5;have hz5 : w.heap.size + 1 + 1 <= w5.heap.size := by have := hb5.size; simpa using this
  have b6 : w5.cell? ⟨w.heap.size, 6, none⟩ = some (.slice As r cs) := by rw [hc5 _ _ (by simp; omega)]; go_simp
  have d6 : w5.cell? ⟨w.heap.size + 1, 6, none⟩ = some (.slice Bs r' cs') := by rw [hc5 _ _ (by simp)]; go_simp
  clear hb5 hc5 hf5;go_wp2_with fail
  refine (equal_alike As cs r ss Bs cs' r' ss' _ HR.out HR'.out hz hz' (HSA.out.below HB5.out) (HSB.out.below HB5.out) HIH.out).mono ?_; rintro e w6 ⟨rfl, hb6⟩
  go_wp2_with fail
  go_ret;exact ⟨rfl, HB5.out.trans (hb6.mono HB5.out.size)⟩
theorem sameK_any (a b : Ty) (v v' : Value) (w : World) (hv : TyV w v a) (hv' : TyV w v' b) :
  Calls Tryz.prog 131 #[v, v'] w fun e w' => e = .returned (.bool (mayT a && mayT b && sameT a b)) /\ Below w.heap.size w w' := by
 have HV := hZ hv
 have HV' := hZ hv'
 obtain ⟨l, rfl, hT⟩ := hv
 obtain ⟨An, cn, As, cs, rfl, -, -, -, hzn, hz, -, -⟩ := hT.parts
 obtain ⟨l', rfl, hT'⟩ := hv'
 obtain ⟨Bn, cn', Bs, cs', rfl, -, -, -, hzn', hz', -, -⟩ := hT'.parts
 clear hT hT'
 have HBX := hZ (below_new (below_new (Below.refl _ w) (.cells #[.int .i64 a.kind, .string a.pkg, .int .i64 a.major, .string a.mod, .string a.name, .slice An a.names.length cn, .slice As a.subs.length cs] 55)) (.cells #[.int .i64 b.kind, .string b.pkg, .int .i64 b.major, .string b.mod, .string b.name, .slice Bn b.names.length cn', .slice Bs b.subs.length cs'] 55))
 have FIRST : ∀ w5, Below ((w.alloc (.cells #[.int .i64 a.kind, .string a.pkg, .int .i64 a.major, .string a.mod, .string a.name, .slice An a.names.length cn, .slice As a.subs.length cs] 55)).alloc (.cells #[.int .i64 b.kind, .string b.pkg, .int .i64 b.major, .string b.mod, .string b.name, .slice Bn b.names.length cn', .slice Bs b.subs.length cs'] 55)).heap.size ((w.alloc (.cells #[.int .i64 a.kind, .string a.pkg, .int .i64 a.major, .string a.mod, .string a.name, .slice An a.names.length cn, .slice As a.subs.length cs] 55)).alloc (.cells #[.int .i64 b.kind, .string b.pkg, .int .i64 b.major, .string b.mod, .string b.name, .slice Bn b.names.length cn', .slice Bs b.subs.length cs'] 55)) w5 ->
   (∀ i v, (#[.int .i64 a.kind, .string a.pkg, .int .i64 a.major, .string a.mod, .string a.name, .slice An a.names.length cn, .slice As a.subs.length cs] : Array Value)[i]? = some v -> w5.cell? ⟨w.heap.size, i, none⟩ = some v) /\
   (∀ i v, (#[.int .i64 b.kind, .string b.pkg, .int .i64 b.major, .string b.mod, .string b.name, .slice Bn b.names.length cn', .slice Bs b.subs.length cs'] : Array Value)[i]? = some v -> w5.cell? ⟨w.heap.size + 1, i, none⟩ = some v) := fun w5 hb => by
  constructor
  ·intro i v hv
   rw [(bcell hb).1 _ _ (by simp; omega), cZ (cs := #[.int .i64 a.kind, .string a.pkg, .int .i64 a.major, .string a.mod, .string a.name, .slice An a.names.length cn, .slice As a.subs.length cs]) (T := 55) (fr := (0, 0))]
   ·exact hv
   ·rw [Lib.alloc_old _ _ _ (by simp)]; exact heap_alloc_new _ _
  ·intro i v hv
   rw [(bcell hb).1 _ _ (by simp), cZ (cs := #[.int .i64 b.kind, .string b.pkg, .int .i64 b.major, .string b.mod, .string b.name, .slice Bn b.names.length cn', .slice Bs b.subs.length cs']) (T := 55) (fr := (0, 0))]
   ·exact hv
   ·have e : w.heap.size + 1 = (w.alloc (.cells #[.int .i64 a.kind, .string a.pkg, .int .i64 a.major, .string a.mod, .string a.name, .slice An a.names.length cn, .slice As a.subs.length cs] 55)).heap.size := by simp
    rw [e]; exact heap_alloc_new _ _
 have HFI := hZ FIRST
 clear FIRST
 go_enter Tryz.func131, Tryz.ntmps131
 rcases hid_or (mayT a) with ha | ha
 ·have R : Hid ((mayT a && mayT b && sameT a b) = false) := hZ (by rw [ha.out]; rfl)
  go_wp2_with fail
  refine (mayK_any a _ _ (HV.out.below HBX.out)).mono ?_; rintro e w5 ⟨rfl, hb5⟩; rw [ha.out]
  have HB5 := hZ (HBX.out.trans (hb5.mono HBX.out.size));clear hb5;go_wp2_with fail
  go_ret;exact ⟨ret_bool R.out, HB5.out⟩
 go_wp2_with fail
 refine (mayK_any a _ _ (HV.out.below HBX.out)).mono ?_; rintro e w5 ⟨rfl, hb5⟩; rw [ha.out]
 obtain ⟨FA, FB⟩ := HFI.out w5 hb5
 have HB5 := hZ (HBX.out.trans (hb5.mono HBX.out.size))
 have hz5 : w.heap.size + 1 + 1 <= w5.heap.size := by have := hb5.size; simpa using this
 have a0 := FA 0 _ rfl
 have a1 := FA 1 _ rfl
 have a2 := FA 2 _ rfl
 have a3 := FA 3 _ rfl
 have a4 := FA 4 _ rfl
 have a5 := FA 5 _ rfl
 have a6 := FA 6 _ rfl
 have b0 := FB 0 _ rfl
 have b1 := FB 1 _ rfl
 have b2 := FB 2 _ rfl
 have b3 := FB 3 _ rfl
 have b4 := FB 4 _ rfl
 have b5 := FB 5 _ rfl
 have b6 := FB 6 _ rfl
 have HFA := hZ FA
 have HFB := hZ FB
 clear hb5 FA FB
 rcases hid_or (mayT b) with hb | hb
 ·have R : Hid ((mayT a && mayT b && sameT a b) = false) := hZ (by rw [ha.out, hb.out]; rfl)
  go_wp2_with fail
  refine (mayK_any b _ _ (HV'.out.below HB5.out)).mono ?_; rintro e w6 ⟨rfl, hb6⟩; rw [hb.out]
  have HB6 := hZ (HB5.out.trans (hb6.mono HB5.out.size));clear hb6;go_wp2_with fail
  go_ret;exact ⟨ret_bool R.out, HB6.out⟩
 have R : Hid ((mayT a && mayT b && sameT a b) = sameT a b) := hZ (by rw [ha.out, hb.out]; rfl)
 go_wp2_with fail
 refine (mayK_any b _ _ (HV'.out.below HB5.out)).mono ?_; rintro e w6 ⟨rfl, hb6⟩; rw [hb.out]
 have HB6 := hZ (HB5.out.trans (hb6.mono HB5.out.size))
 have tr : ∀ j i v, j < w5.heap.size -> w5.cell? ⟨j, i, none⟩ = some v -> w6.cell? ⟨j, i, none⟩ = some v := fun j i v hj hv => (hb6.cell (p := ⟨j, i, none⟩) hj).trans hv
 have a0' := tr _ _ _ (by omega) a0
 have a1' := tr _ _ _ (by omega) a1
 have a2' := tr _ _ _ (by omega) a2
 have a3' := tr _ _ _ (by omega) a3
 have a4' := tr _ _ _ (by omega) a4
 have a5' := tr _ _ _ (by omega) a5
 have a6' := tr _ _ _ (by omega) a6
 have b0' := tr _ _ _ (by omega) b0
 have b1' := tr _ _ _ (by omega) b1
 have b2' := tr _ _ _ (by omega) b2
 have b3' := tr _ _ _ (by omega) b3
 have b4' := tr _ _ _ (by omega) b4
 have b5' := tr _ _ _ (by omega) b5
 have b6' := tr _ _ _ (by omega) b6
 clear a0 a1 a2 a3 a4 a5 a6 b0 b1 b2 b3 b4 b5 b6 tr hb6
 go_wp2_with fail
 refine (alike_any _ a b (Nat.le_refl _) _ _ _ (HV.out.below HB6.out) (HV'.out.below HB6.out)).mono ?_; rintro e w7 ⟨rfl, hb7⟩
 go_wp2_with fail
 go_ret
 exact ⟨ret_bool R.out, HB6.out.trans (hb7.mono HB6.out.size)⟩
theorem plainK_any (t : Ty) (v : Value) (w : World) (hv : TyV w v t) :
  Calls Tryz.prog 183 #[v] w fun e w' => e = .returned (.bool (mayT t && plainT t)) /\ Below w.heap.size w w' := by
 have HV := hZ hv
 obtain ⟨l, rfl, hT⟩ := hv
 obtain ⟨An, cn, As, cs, rfl, -, -, -, hzn, hz, -, -⟩ := hT.parts
 clear hT
 have HB0 := hZ (below_new (Below.refl _ w) (.cells #[.int .i64 t.kind, .string t.pkg, .int .i64 t.major, .string t.mod, .string t.name, .slice An t.names.length cn, .slice As t.subs.length cs] 55))
 rcases hid_or (mayT t) with ha | ha
 ·have R : Hid ((mayT t && plainT t) = false) := hZ (by rw [ha.out]; rfl)
  rw [R.out];go_enter Tryz.func183, Tryz.ntmps183
  go_wp2_with fail
  refine (mayK_any t _ _ (HV.out.below HB0.out)).mono ?_; rintro e w5 ⟨rfl, hb5⟩; rw [ha.out]
  go_wp2_with fail
  go_ret;exact ⟨rfl, HB0.out.trans (hb5.mono HB0.out.size)⟩
 ·have R : Hid ((mayT t && plainT t) = plainT t) := hZ (by rw [ha.out]; rfl)
  rw [R.out];go_enter Tryz.func183, Tryz.ntmps183
  go_wp2_with fail
  refine (mayK_any t _ _ (HV.out.below HB0.out)).mono ?_; rintro e w5 ⟨rfl, hb5⟩; rw [ha.out]
  have hb5' : Below (boxed w #[.int .i64 t.kind, .string t.pkg, .int .i64 t.major, .string t.mod, .string t.name, .slice An t.names.length cn, .slice As t.subs.length cs]).heap.size (boxed w #[.int .i64 t.kind, .string t.pkg, .int .i64 t.major, .string t.mod, .string t.name, .slice An t.names.length cn, .slice As t.subs.length cs]) w5 := hb5
  have HB5 := hZ (box_below hb5');have c0 := box_cell hb5' 0; have c1 := box_cell hb5' 1; have c2 := box_cell hb5' 2; have c3 := box_cell hb5' 3; have c4 := box_cell hb5' 4; have c5 := box_cell hb5' 5; have c6 := box_cell hb5' 6
  simp at c0 c1 c2 c3 c4 c5 c6;clear hb5 hb5';go_wp2_with fail
  refine (local_any _ t (Nat.le_refl _) _ _ (HV.out.below HB5.out)).mono ?_; rintro e w6 ⟨rfl, hb6⟩
  go_wp2_with fail
  go_ret;exact ⟨ret_bool (by simp), HB5.out.trans (hb6.mono HB5.out.size)⟩
end Go.Proofs.YteecgiebimdbhaaGreatDoor
namespace Go.Proofs.YteecgiebimdbhaaGreatDoor
open Go Go.RowKit Go.Shelf
open Go.Sort Go.Maps
open M
def othM (m : Mo) (env : List If) (s n : ByteArray) : Ty × Int :=
  match impAt m s with
  | none => (zTy, 4)
  | some k => match m.imps[k]? with
    | none => (zTy, 4)
    | some x => if (mayT (gotT (gotI env x).types n) && plainT (gotT (gotI env x).types n)) = true then (gotT (gotI env x).types n, 0) else (zTy, 9)
def lookM (m : Mo) (pkg : ByteArray) (major : Int) (env : List If) (s n : ByteArray) : Ty × Int := if s.size = 0 then ownM m pkg major n else othM m env s n
def plV (a b : ByteArray) : Value := .agg #[.string a, .string b]
section
variable {ops : Array Oper} {rest : List Oper} {o : Oper} {act : Act} {Q : Exit -> Act -> World -> Prop}
end
def PlMap (w0 w : World) (kb : Nat) (m : Mo) (pkg : ByteArray) (major : Int) (env : List If) : Prop :=
  ∃ (es : Array MapEntry) (clock : Nat), w.heap[kb]? = some (.map es clock) /\ ∀ e ∈ es.toList, ∃ (a b : ByteArray) (l7 : List Value), e.key = plV a b /\ a.size <= 9223372036854775807 /\ b.size <= 9223372036854775807 /\
    e.val = .agg (l7 ++ [Value.int .i64 (lookM m pkg major env a b).2]).toArray /\ ∀ wz, Below w0.heap.size w0 wz -> TyAt wz l7 (lookM m pkg major env a b).1
theorem PlMap.kept {w0 w w' : World} {kb : Nat} {m : Mo} {pkg : ByteArray} {major : Int} {env : List If} (h : PlMap w0 w kb m pkg major env) (e : w'.heap[kb]? = w.heap[kb]?) : PlMap w0 w' kb m pkg major env := by
  obtain ⟨es, clock, hb, hk⟩ := h;exact ⟨es, clock, e.trans hb, hk⟩
theorem PlMap.made (w0 w : World) (m : Mo) (pkg : ByteArray) (major : Int) (env : List If) : PlMap w0 (w.alloc (.map #[] 0)) w.heap.size m pkg major env :=
  ⟨#[], 0, heap_alloc_new w _, fun e he => by simp at he⟩
section
variable {ops : Array Oper} {rest : List Oper} {o : Oper} {act : Act} {Q : Exit -> Act -> World -> Prop}
end
theorem row_grown {w w' : World} {r : Option Nat} (h : w.grownBy w' r) {b : Nat} (hb : w.heap.size <= b) (vs : Array Value) : w.grownBy (w'.setRow b vs) r :=
  ⟨h.os, h.tape, h.output, by rw [size_setRow]; exact h.size, fun k hk hne => (setRow_other _ _ _ _ (by omega)).trans (h.block k hk hne)⟩
mutual
def failT (mean : ByteArray -> ByteArray -> Ty × Int) (c : Int) : Ty -> Bool
  | .mk k _ _ d n _ ss => if k = 8 then (mean d n).2 == c else failL mean c ss
def failL (mean : ByteArray -> ByteArray -> Ty × Int) (c : Int) : List Ty -> Bool
  | [] => false
  | s :: r => failT mean c s || failL mean c r
end
theorem failL_any (mean : ByteArray -> ByteArray -> Ty × Int) (c : Int) : ∀ l : List Ty, failL mean c l = l.any (failT mean c)
  | [] => by simp [failL]
  | s :: r => by rw [failL, failL_any mean c r]; rfl
theorem failT_eq (mean : ByteArray -> ByteArray -> Ty × Int) (c : Int) (t : Ty) : failT mean c t = if t.kind = 8 then (mean t.mod t.name).2 == c else failL mean c t.subs := by
  cases t; rw [failT]; rfl
theorem below_grow {w0 w w' : World} {kb : Nat} (h : Below w0.heap.size w0 w) (hg : w.grownBy w' (some kb)) (hk : w0.heap.size <= kb) : Below w0.heap.size w0 w' :=
  ⟨hg.os.trans h.os, hg.tape.trans h.tape, hg.output.trans h.output, Nat.le_trans h.size hg.size, fun b hb => (hg.block b (Nat.lt_of_lt_of_le hb h.size) (fun e => by cases e; omega)).trans (h.block b hb)⟩
def FlOut (w0 w : World) (kb : Nat) (m : Mo) (pkg : ByteArray) (major : Int) (env : List If) (r : Bool) (e : Ending) (w' : World) : Prop :=
  e = .returned (.bool r) /\ PlMap w0 w' kb m pkg major env /\ w.grownBy w' (some kb)
theorem index_fails (w0 : World) (kb : Nat) (m : Mo) (pkg : ByteArray) (major : Int) (env : List If) (P : Ty -> Bool) (nb cb : Nat) (As : Option Addr) (cs n : Nat) (ss : List Ty) (w : World) (hn : ss.length = n) (hz : n <= 9223372036854775807) (hS : SubsAt w0 As ss)
    (hk0 : w0.heap.size <= kb) (hw : Below w0.heap.size w0 w) (hkm : PlMap w0 w kb m pkg major env)
    (IH : ∀ s, s ∈ ss -> ∀ (l : List Value) (wx : World), TyAt w0 l s -> Below w0.heap.size w0 wx -> PlMap w0 wx kb m pkg major env -> w.grownBy wx (some kb) -> Calls Tryz.prog 209 #[.agg l.toArray, .pointer (some ⟨nb, 0, none⟩), .pointer (some ⟨cb, 0, none⟩)] wx (FlOut w0 wx kb m pkg major env (P s))) :
    Calls Tryz.prog 210 #[.slice As n cs, .func (.func 209) #[] #[.pointer (some ⟨nb, 0, none⟩), .pointer (some ⟨cb, 0, none⟩)]] w fun e w' => ∃ r : Int, e = .returned (.int .i64 r) /\ decide (0 <= r) = ss.any P /\ PlMap w0 w' kb m pkg major env /\ w.grownBy w' (some kb) := by
  have HS := hZ hS;have HN := hZ hn;have HIH := hZ IH;have HW := hZ hw;have HKM := hZ hkm;have HK0 := hZ hk0;clear hS hn IH hw hkm hk0;go_enter Tryz.func210, Tryz.ntmps210
  go_wp2_with fail
  go_loopw [8] (fun i wr => ∃ k : Nat, k <= n /\ i = .int .i64 k /\ Hid (∀ j s, j < k -> ss[j]? = some s -> P s = false) /\ Hid (PlMap w0 wr kb m pkg major env /\ w.grownBy wr (some kb))) (fun i _ => n - (intOf i).toNat)
  case atStart => exact ⟨0, by omega, rfl, hZ (fun j s h => by omega), hZ ⟨HKM.out, grown_of (Below.refl _ _)⟩⟩
  case round =>
    obtain ⟨k, hk, rfl, HP, HB⟩ := hrel;obtain ⟨wo, rfl⟩ : ∃ wo : World, wo = wr := ⟨_, rfl⟩;have hbo := below_grow HW.out HB.out.2 HK0.out;by_cases hlt : k < n
    · obtain ⟨s, hs⟩ : ∃ s, ss[k]? = some s := ⟨_, List.getElem?_eq_getElem (by rw [HN.out]; exact hlt)⟩
      obtain ⟨g, o, v0, v1, v2, v3, v4, v5, v6, rfl, -, h0, h1, h2, h3, h4, h5, h6, -⟩ := HS.out.below hbo k s hs;obtain ⟨g', o', u0, u1, u2, u3, u4, u5, u6, e', hg', k0, k1, k2, k3, k4, k5, k6, hs7⟩ := HS.out k s hs;obtain ⟨rfl, rfl⟩ : g' = g /\ o' = o := by simp at e'; exact ⟨e'.1.symm, e'.2.symm⟩
      have same : ∀ {q : Nat} {u v : Value}, w0.cell? ⟨g', q, none⟩ = some u -> wo.cell? ⟨g', q, none⟩ = some v -> u = v := fun h1 h2 => by
        rw [hbo.cell (p := ⟨g', _, none⟩) hg', h1] at h2; exact Option.some.inj h2
      obtain rfl := same k0 h0;obtain rfl := same k1 h1;obtain rfl := same k2 h2;obtain rfl := same k3 h3;obtain rfl := same k4 h4;obtain rfl := same k5 h5;obtain rfl := same k6 h6;have IHs := hZ (HIH.out s (List.mem_of_getElem? hs) [u0, u1, u2, u3, u4, u5, u6] wo hs7 hbo HB.out.1 HB.out.2);have HSS := hZ hs;clear hs7 hs hbo same k0 k1 k2 k3 k4 k5 k6 e' hg';rcases hid_or (P s) with hp | hp
      · go_wp2_with fail
        refine IHs.out.mono ?_; rintro e w2 ⟨rfl, hm2, hg2⟩; rw [hp.out]
        have HB2 : Hid (PlMap w0 w2 kb m pkg major env /\ w.grownBy w2 (some kb)) := hZ ⟨hm2, grown_over HB.out.2 hg2⟩;clear h0 h1 h2 h3 h4 h5 h6 hm2 hg2;go_wp2_with fail
        go_roundw
        case rel => exact ⟨k + 1, by omega, by go_num, hZ (fun j q hj hq => by
          rcases Nat.lt_or_ge j k with a | a
          · exact HP.out j q a hq
          · rw [show j = k by omega, HSS.out] at hq
            obtain rfl := Option.some.inj hq;exact hp.out), HB2⟩
        case measure => simp [intOf]; omega
      · have R : Hid (decide (0 <= (k : Int)) = ss.any P) := hZ (by
          rw [List.any_eq_true.2 ⟨s, List.mem_of_getElem? HSS.out, hp.out⟩]; simp)
        go_wp2_with fail
        refine IHs.out.mono ?_; rintro e w2 ⟨rfl, hm2, hg2⟩; rw [hp.out]
        have HB2 : Hid (PlMap w0 w2 kb m pkg major env /\ w.grownBy w2 (some kb)) := hZ ⟨hm2, grown_over HB.out.2 hg2⟩;clear h0 h1 h2 h3 h4 h5 h6 hm2 hg2;go_wp2_with fail
        go_ret;exact ⟨_, rfl, R.out, HB2.out⟩
    · have R : Hid (decide (0 <= (-1 : Int)) = ss.any P) := hZ (by
        have : ss.any P = false := by
          rw [List.any_eq_false];intro s hs;obtain ⟨j, hj⟩ := List.getElem?_of_mem hs;have hjl := (List.getElem?_eq_some_iff.1 hj).1;rw [HP.out j s (by rw [HN.out] at hjl; omega) hj]; decide
        rw [this]; rfl)
      go_wp2_with fail
      go_ret;exact ⟨_, rfl, R.out, HB.out⟩
theorem contains_fails (w0 : World) (kb : Nat) (m : Mo) (pkg : ByteArray) (major : Int) (env : List If) (P : Ty -> Bool) (nb cb : Nat) (As : Option Addr) (cs n : Nat) (ss : List Ty) (w : World) (hn : ss.length = n) (hz : n <= 9223372036854775807) (hS : SubsAt w0 As ss)
    (hk0 : w0.heap.size <= kb) (hw : Below w0.heap.size w0 w) (hkm : PlMap w0 w kb m pkg major env)
    (IH : ∀ s, s ∈ ss -> ∀ (l : List Value) (wx : World), TyAt w0 l s -> Below w0.heap.size w0 wx -> PlMap w0 wx kb m pkg major env -> w.grownBy wx (some kb) -> Calls Tryz.prog 209 #[.agg l.toArray, .pointer (some ⟨nb, 0, none⟩), .pointer (some ⟨cb, 0, none⟩)] wx (FlOut w0 wx kb m pkg major env (P s))) :
    Calls Tryz.prog 176 #[.slice As n cs, .func (.func 209) #[] #[.pointer (some ⟨nb, 0, none⟩), .pointer (some ⟨cb, 0, none⟩)]] w (FlOut w0 w kb m pkg major env (ss.any P)) := by
  have HC := hZ (index_fails w0 kb m pkg major env P nb cb As cs n ss w hn hz hS hk0 hw hkm IH);clear hn hS IH hk0 hw hkm;go_enter Tryz.func176, Tryz.ntmps176
  go_wp2_with fail
  refine HC.out.mono ?_; rintro e w2 ⟨r, rfl, hr, hb2⟩
  have HR := hZ hr;clear hr HC;go_wp2_with fail
  go_ret;exact ⟨ret_bool HR.out.symm, hb2⟩
theorem kept_grown {w w' : World} {kb b : Nat} {o : Obj} (h : w.heap[b]? = some o) (hne : b ≠ kb) (hg : w.grownBy w' (some kb)) : w'.heap[b]? = some o :=
  (hg.block b (Array.getElem?_eq_some_iff.1 h).1 (fun e => by cases e; exact hne rfl)).trans h
theorem one_fails (w0 : World) (kb : Nat) (m : Mo) (pkg : ByteArray) (major : Int) (env : List If) (c : Int) (r : Bool) (nb cb : Nat) (Ai : Option Addr) (ci : Nat) (Ad : Option Addr) (cd : Nat) (Ae : Option Addr) (ce : Nat) (s : Ty) (l : List Value) (w : World)
    (hn : w.heap[nb]? = some (.cells #[.string m.name, .slice Ai m.imps.length ci, .slice Ad m.decs.length cd, .string pkg, .int .i64 major, .slice Ae env.length ce, .map (some kb)] 224 (0, 0))) (hc : w.heap[cb]? = some (.cells #[.int .i64 c] 32 (0, 0))) (hs : TyAt w0 l s) (hw : Below w0.heap.size w0 w) (hkm : PlMap w0 w kb m pkg major env)
    (H : ∀ wx, Below w0.heap.size w0 wx -> PlMap w0 wx kb m pkg major env -> Calls Tryz.prog 175 #[.agg #[.string m.name, .slice Ai m.imps.length ci, .slice Ad m.decs.length cd, .string pkg, .int .i64 major, .slice Ae env.length ce, .map (some kb)], .agg l.toArray, .int .i64 c] wx (FlOut w0 wx kb m pkg major env r)) :
    Calls Tryz.prog 209 #[.agg l.toArray, .pointer (some ⟨nb, 0, none⟩), .pointer (some ⟨cb, 0, none⟩)] w (FlOut w0 w kb m pkg major env r) := by
  obtain ⟨Bn, cB, Bs, dB, rfl, -⟩ := hs.parts;obtain ⟨wb, hwb⟩ : ∃ wb, wb = w.alloc (.cells #[.int .i64 s.kind, .string s.pkg, .int .i64 s.major, .string s.mod, .string s.name, .slice Bn s.names.length cB, .slice Bs s.subs.length dB] 55) := ⟨_, rfl⟩;have B0 : Below w.heap.size w wb := by rw [hwb]; exact below_new (Below.refl _ _) _
  have X0 : wb.heap[w.heap.size]? = some (.cells #[.int .i64 s.kind, .string s.pkg, .int .i64 s.major, .string s.mod, .string s.name, .slice Bn s.names.length cB, .slice Bs s.subs.length dB] 55 (0, 0)) := by rw [hwb]; exact heap_alloc_new w _
  have N0 := (B0.block _ (Array.getElem?_eq_some_iff.1 hn).1).trans hn;have C0 := (B0.block _ (Array.getElem?_eq_some_iff.1 hc).1).trans hc;obtain ⟨es, clock, hkb, -⟩ := id hkm;have CL := hZ (H wb (below_over hw B0) (hkm.kept (B0.block _ (Array.getElem?_eq_some_iff.1 hkb).1)));obtain ⟨x0, x1, x2, x3, x4, x5, x6⟩ := cq7 X0;obtain ⟨n0, n1, n2, n3, n4, n5, n6⟩ := cq7 N0;have c0 := cZ C0 0;simp at x0 x1 x2 x3 x4 x5 x6 n0 n1 n2 n3 n4 n5 n6 c0;have HB0 := hZ B0;have HWB := hZ hwb;clear hn hc hs hw hkm H hwb B0 X0 N0 C0 hkb;go_enter Tryz.func209, Tryz.ntmps209
  go_upto_region 1 with fail
  rw [<- HWB.out];go_wp2_with fail
  refine CL.out.mono ?_; rintro e w2 ⟨rfl, hm2, hg2⟩
  have HM2 := hZ hm2;have HG2 := hZ (grown_over (grown_of HB0.out) hg2);clear x0 x1 x2 x3 x4 x5 x6 n0 n1 n2 n3 n4 n5 n6 c0 hm2 hg2 CL;go_wp2_with fail
  go_ret;exact ⟨rfl, HM2.out, HG2.out⟩
theorem one_expand (w0 : World) (kb : Nat) (m : Mo) (pkg : ByteArray) (major : Int) (env : List If) (c : Int) (r : Bool) (nb cb : Nat) (Ai : Option Addr) (ci : Nat) (Ad : Option Addr) (cd : Nat) (Ae : Option Addr) (ce : Nat) (s : Ty) (l : List Value) (w : World)
    (hn : w.heap[nb]? = some (.cells #[.string m.name, .slice Ai m.imps.length ci, .slice Ad m.decs.length cd, .string pkg, .int .i64 major, .slice Ae env.length ce, .map (some kb)] 224 (0, 0))) (hc : w.heap[cb]? = some (.cells #[.int .i64 c] 32 (0, 0))) (hs : TyAt w0 l s) (hw : Below w0.heap.size w0 w) (hkm : PlMap w0 w kb m pkg major env)
    (H : ∀ wx, Below w0.heap.size w0 wx -> PlMap w0 wx kb m pkg major env -> Calls Tryz.prog 175 #[.agg #[.string m.name, .slice Ai m.imps.length ci, .slice Ad m.decs.length cd, .string pkg, .int .i64 major, .slice Ae env.length ce, .map (some kb)], .agg l.toArray, .int .i64 c] wx (FlOut w0 wx kb m pkg major env r)) :
    Calls Tryz.prog 174 #[.agg l.toArray, .pointer (some ⟨nb, 0, none⟩), .pointer (some ⟨cb, 0, none⟩)] w (FlOut w0 w kb m pkg major env r) := by
  obtain ⟨Bn, cB, Bs, dB, rfl, -⟩ := hs.parts;obtain ⟨wb, hwb⟩ : ∃ wb, wb = w.alloc (.cells #[.int .i64 s.kind, .string s.pkg, .int .i64 s.major, .string s.mod, .string s.name, .slice Bn s.names.length cB, .slice Bs s.subs.length dB] 55) := ⟨_, rfl⟩;have B0 : Below w.heap.size w wb := by rw [hwb]; exact below_new (Below.refl _ _) _
  have X0 : wb.heap[w.heap.size]? = some (.cells #[.int .i64 s.kind, .string s.pkg, .int .i64 s.major, .string s.mod, .string s.name, .slice Bn s.names.length cB, .slice Bs s.subs.length dB] 55 (0, 0)) := by rw [hwb]; exact heap_alloc_new w _
  have N0 := (B0.block _ (Array.getElem?_eq_some_iff.1 hn).1).trans hn;have C0 := (B0.block _ (Array.getElem?_eq_some_iff.1 hc).1).trans hc;obtain ⟨es, clock, hkb, -⟩ := id hkm;have CL := hZ (H wb (below_over hw B0) (hkm.kept (B0.block _ (Array.getElem?_eq_some_iff.1 hkb).1)));obtain ⟨x0, x1, x2, x3, x4, x5, x6⟩ := cq7 X0;obtain ⟨n0, n1, n2, n3, n4, n5, n6⟩ := cq7 N0;have c0 := cZ C0 0;simp at x0 x1 x2 x3 x4 x5 x6 n0 n1 n2 n3 n4 n5 n6 c0;have HB0 := hZ B0;have HWB := hZ hwb;clear hn hc hs hw hkm H hwb B0 X0 N0 C0 hkb;go_enter Tryz.func174, Tryz.ntmps174
  go_upto_region 1 with fail
  rw [<- HWB.out];go_wp2_with fail
  refine CL.out.mono ?_; rintro e w2 ⟨rfl, hm2, hg2⟩
  have HM2 := hZ hm2;have HG2 := hZ (grown_over (grown_of HB0.out) hg2);clear x0 x1 x2 x3 x4 x5 x6 n0 n1 n2 n3 n4 n5 n6 c0 hm2 hg2 CL;go_wp2_with fail
  go_ret;exact ⟨rfl, HM2.out, HG2.out⟩
def tR : Reads Ty := ⟨7, 55, TyAt, fun _ _ _ _ _ _ h hz hb => h.move hz hb, fun _ _ _ _ h hb => h.keep hb, fun _ _ _ _ h => h.free, fun _ _ _ h => h.len⟩
def stE (_ : World) (l : List Value) (s : ByteArray) : Prop := l = [.string s] /\ s.size <= 9223372036854775807
def stR : Reads ByteArray := ⟨1, 9, stE, fun _ _ _ _ _ _ h _ _ => h, fun _ _ _ _ h _ => h, fun _ _ _ _ h => h, fun _ l x h => by rw [h.1]; rfl⟩
theorem SubsAt.row {w : World} {A : Option Addr} {l : List Ty} (h : SubsAt w A l) : RowIn tR w A l := fun i t ht => by
  obtain ⟨g, o, v0, v1, v2, v3, v4, v5, v6, hA, hg, h0, h1, h2, h3, h4, h5, h6, hT⟩ := h i t ht;refine ⟨g, o, [v0, v1, v2, v3, v4, v5, v6], hA, hg, fun j v hv => ?_, hT⟩;have hj := (List.getElem?_eq_some_iff.1 hv).1;simp at hj;match j, hv with
  | 0, hv => simp at hv; subst hv; exact h0
  | 1, hv => simp at hv; subst hv; exact h1
  | 2, hv => simp at hv; subst hv; exact h2
  | 3, hv => simp at hv; subst hv; exact h3
  | 4, hv => simp at hv; subst hv; exact h4
  | 5, hv => simp at hv; subst hv; exact h5
  | 6, hv => simp at hv; subst hv; exact h6
  | j + 7, _ => omega
theorem NamesAt.row {w : World} {A : Option Addr} {l : List ByteArray} (h : NamesAt w A l) : RowIn stR w A l := fun i s hs => by
  obtain ⟨g, o, hA, hg, hc, hz⟩ := h i s hs;refine ⟨g, o, [.string s], hA, hg, fun j v hv => ?_, rfl, hz⟩;cases j with
  | zero =>
    simp at hv; subst hv
    show w.cell? ⟨g, o + i * 1 + 0, none⟩ = _
    rw [show o + i * 1 + 0 = o + i by omega]; exact hc
  | succ j => simp at hv
theorem RowIn.names {w : World} {A : Option Addr} {l : List ByteArray} (h : RowIn stR w A l) : NamesAt w A l := fun i s hs => by
  obtain ⟨g, o, l, hA, hg, hc, rfl, hz⟩ := h i s hs;refine ⟨g, o, hA, hg, ?_, hz⟩;have := hc 0 _ rfl
  rw [show o + i * stR.k + 0 = o + i by show o + i * 1 + 0 = o + i; omega] at this;exact this
theorem RowIn.none_nil {α : Type} {R : Reads α} {w : World} {xs : List α} (h : RowIn R w none xs) : xs = [] := by
  cases xs with
  | nil => rfl
  | cons x r => obtain ⟨g, o, l, e, -⟩ := h 0 x rfl; cases e
theorem ty_made {w : World} {t : Ty} {An As : Option Addr} {cn cs : Nat} (hp : t.pkg.size <= 9223372036854775807) (hm : t.mod.size <= 9223372036854775807) (hn : t.name.size <= 9223372036854775807) (hln : t.names.length <= 9223372036854775807) (hls : t.subs.length <= 9223372036854775807) (hcs : t.subs.length <= cs)
    (hN : NamesAt w An t.names) (hS : RowIn tR w As t.subs) : TyAt w [.int .i64 t.kind, .string t.pkg, .int .i64 t.major, .string t.mod, .string t.name, .slice An t.names.length cn, .slice As t.subs.length cs] t := by
  have hall : ∀ i : Nat, ∃ l : List Value, l.length = 7 /\ ∀ s, t.subs[i]? = some s -> TyAt w l s /\ ∃ g o, As = some ⟨g, o, none⟩ /\ g < w.heap.size /\ ∀ j v, l[j]? = some v -> w.cell? ⟨g, o + i * 7 + j, none⟩ = some v := fun i => by
    cases hs : t.subs[i]? with
    | none => exact ⟨[.int .i64 0, .string ⟨#[]⟩, .int .i64 0, .string ⟨#[]⟩, .string ⟨#[]⟩, .slice none 0 0, .slice none 0 0], rfl, fun s h => by cases h⟩
    | some s =>
      obtain ⟨g, o, l, hA, hg, hc, hE⟩ := hS i s hs;refine ⟨l, hE.len, fun s' h => ?_⟩;cases h
      exact ⟨hE, g, o, hA, hg, hc⟩
  obtain ⟨C, hC⟩ := Classical.axiomOfChoice hall;have hd : t = .mk t.kind t.pkg t.major t.mod t.name t.names t.subs := by cases t; rfl
  rw [show TyAt w [.int .i64 t.kind, .string t.pkg, .int .i64 t.major, .string t.mod, .string t.name, .slice An t.names.length cn, .slice As t.subs.length cs] t = TyAt w [.int .i64 t.kind, .string t.pkg, .int .i64 t.major, .string t.mod, .string t.name, .slice An t.names.length cn, .slice As t.subs.length cs] (.mk t.kind t.pkg t.major t.mod t.name t.names t.subs) by rw [<- hd]];exact .mk t.kind t.pkg t.major t.mod t.name t.names t.subs An cn As cs C hp hm hn hln hls hcs hN (fun i => (hC i).1) (fun i s hs => ((hC i).2 s hs).2) (fun i s hs => ((hC i).2 s hs).1)
structure Fill {α : Type} (R : Reads α) (lo g : Nat) (xs : List α) (j : Nat) (w : World) : Prop where
  hlo : lo <= g
  hg : g < w.heap.size
  there : w.there g 0 (xs.length * R.k)
  rows : ∀ i x, i < j -> xs[i]? = some x -> ∃ l : List Value, (∀ q v, l[q]? = some v -> w.cell? ⟨g, i * R.k + q, none⟩ = some v) /\ R.E (strike (fun b => b < lo \/ b = g) w) l x
theorem Fill.start {α : Type} (R : Reads α) {lo : Nat} {w : World} (hlo : lo <= w.heap.size) (cells : Array Value) (T : TypeId) (xs : List α) (hs : cells.size = xs.length * R.k) : Fill R lo w.heap.size xs 0 (w.alloc (.cells cells T)) := by
  have hb : (w.alloc (.cells cells T)).heap[w.heap.size]? = some (.cells cells T (0, 0)) := heap_alloc_new w _;refine ⟨hlo, by simp, fun j hj => ⟨?_, ?_⟩, fun i x hi => by omega⟩
  · rw [cZ hb, Nat.zero_add, Array.getElem?_eq_getElem (by omega)]; rfl
  · exact Lib.frozen_of_heap hb _
theorem Fill.keep {α : Type} {R : Reads α} {lo g j : Nat} {xs : List α} {w w' : World} (h : Fill R lo g xs j w) (hz : w.heap.size <= w'.heap.size) (hb : ∀ b, lo <= b -> b < w.heap.size -> w'.heap[b]? = w.heap[b]?) : Fill R lo g xs j w' := by
  have eg := hb g h.hlo h.hg;refine ⟨h.hlo, Nat.lt_of_lt_of_le h.hg hz, fun q hq => ?_, fun i x hi hx => ?_⟩
  · have := h.there q hq
    rw [World.cell?_of_block (w := w) (w' := w') (a := ⟨g, 0 + q, none⟩) eg];refine ⟨this.1, ?_⟩;have e2 : w'.frozen? ⟨g, 0 + q, none⟩ = w.frozen? ⟨g, 0 + q, none⟩ := by simp only [World.frozen?]; rw [eg]
    rw [e2]; exact this.2
  · obtain ⟨l, hc, hE⟩ := h.rows i x hi hx
    exact ⟨l, fun q v hv => (World.cell?_of_block (w := w) (w' := w') (a := ⟨g, _, none⟩) eg).trans (hc q v hv), R.move _ _ _ _ _ _ hE hz fun b hlt hS => ⟨hS, hb b (by
      rcases Nat.lt_or_ge b lo with c | c
      · exact absurd (.inl c) hS
      · exact c) hlt⟩⟩
theorem Fill.at {α : Type} {R : Reads α} {lo g j m : Nat} {xs : List α} {w : World} (h : Fill R lo g xs j w) (hj : j < xs.length) (hm : m = R.k) : w.there g (j * R.k) m := fun q hq => by
  have h1 : (j + 1) * R.k <= xs.length * R.k := Nat.mul_le_mul_right _ hj;rw [Nat.succ_mul] at h1;have := h.there (j * R.k + q) (by omega)
  rw [Nat.zero_add] at this;exact this
theorem Fill.put {α : Type} {R : Reads α} {lo g j B : Nat} {xs : List α} {w : World} {l : List Value} {x : α} (h : Fill R lo g xs j w) (hx : xs[j]? = some x) (hE : R.E (strike (· < B) w) l x) (hB : g < B) : Fill R lo g xs (j + 1) (w.setCells g (j * R.k) l) := by
  have hlen := R.len _ _ _ hE;have hj := (List.getElem?_eq_some_iff.1 hx).1;have hat := h.at hj hlen;have ot : ∀ b, b < w.heap.size -> b ≠ g -> (w.setCells g (j * R.k) l).heap[b]? = w.heap[b]? := fun b hb hne => World.heap_setCells_other w g (j * R.k) l hb hne
  have hsz : (w.setCells g (j * R.k) l).heap.size = w.heap.size := size_setCells g l _ w;refine ⟨h.hlo, by rw [hsz]; exact h.hg, World.there_setCells h.there _ _ _, fun i y hi hy => ?_⟩;rcases Nat.lt_or_ge i j with c | c
  · obtain ⟨l', hc, hE'⟩ := h.rows i y c hy
    have hl' := R.len _ _ _ hE'
    refine ⟨l', fun q v hv => ?_, R.move _ _ _ _ _ _ hE' (by rw [hsz]; exact Nat.le_refl _) fun b hb hS => ⟨hS, ot b hb fun e => hS (.inr e)⟩⟩;have hq := (List.getElem?_eq_some_iff.1 hv).1;rw [World.cell?_setCells_out]
    · exact hc q v hv
    · intro _ _
      have h1 : (i + 1) * R.k <= j * R.k := Nat.mul_le_mul_right _ c;rw [Nat.succ_mul] at h1;exact .inl (by show i * R.k + q < j * R.k; omega)
  · obtain rfl : i = j := by omega
    rw [hx] at hy;cases hy
    refine ⟨l, fun q v hv => ?_, R.move _ _ _ _ _ _ hE (by rw [hsz]; exact Nat.le_refl _) fun b hb hS => ⟨?_, ot b hb (by omega)⟩⟩
    · have hq := (List.getElem?_eq_some_iff.1 hv).1
      rw [World.cell?_setCells_in g l (i * R.k) w (fun q hq => (hat q hq).1) q hq];rw [<- hv, List.getElem?_eq_getElem hq]
    · have := h.hlo
      omega
theorem Fill.done {α : Type} {R : Reads α} {lo g j m : Nat} {xs : List α} {w : World} (h : Fill R lo g xs j w) (hj : xs.length <= j) (hm : m <= lo) : RowIn R (strike (· < m) w) (some ⟨g, 0, none⟩) xs := fun i x hx => by
  have hi := (List.getElem?_eq_some_iff.1 hx).1;obtain ⟨l, hc, hE⟩ := h.rows i x (by omega) hx;have := h.hlo
  refine ⟨g, 0, l, rfl, by rw [strike_size]; exact h.hg, fun q v hv => strike_cell.2 ⟨by omega, ?_⟩, R.move _ _ _ _ _ _ hE (Nat.le_refl _) fun b _ hS => ⟨fun e => hS (.inl (by omega)), rfl⟩⟩;rw [Nat.zero_add]; exact hc q v hv
theorem setCells_below {n : Nat} {w w' : World} (h : Below n w w') {g : Nat} (hg : n <= g) (o : Nat) (l : List Value) : Below n w (w'.setCells g o l) :=
  h.trans ⟨World.os_setCells _ _ _ _, by
    induction l generalizing o w' with
    | nil => rfl
    | cons v r ih => exact (ih (h.setCell hg v) (o + 1)).trans rfl, World.output_setCells _ _ _ _, by rw [size_setCells]; exact Nat.le_refl _, fun b hb => by
    rcases Nat.lt_or_ge b w'.heap.size with c | c
    · exact World.heap_setCells_other w' g o l c (by omega)
    · rw [Array.getElem?_eq_none c, Array.getElem?_eq_none (by rw [size_setCells]; exact c)]⟩
theorem cln_any (s : ByteArray) (w : World) (hs : s.size <= 281474976710656) : Calls Tryz.prog 104 #[.string s] w fun e w' => e = .returned (.string s) /\ Below w.heap.size w w' := by
  go_enter Tryz.func104, Tryz.ntmps104
  go_wp2_with fail
  refine (Tryz.stringslite_Clone _ _ hs).mono ?_; rintro e w1 ⟨rfl, hb1⟩
  go_wp2_with fail
  go_ret;exact ⟨rfl, hb1⟩
theorem listS_any (w0 w : World) (A : Option Addr) (n c : Nat) (xs : List ByteArray) (hn : xs.length = n) (hz : n <= 1000000) (hS : NamesAt w0 A xs) (hw : Below w0.heap.size w0 w) (hsz : ∀ s ∈ xs, s.size <= 281474976710656) :
    Calls Tryz.prog 252 #[.slice A n c, .func (.func 104) #[] #[]] w fun e w' => ∃ (A' : Option Addr) (c' : Nat), e = .returned (.slice A' n c') /\ NamesAt (strike (· < w.heap.size) w') A' xs /\ Below w.heap.size w w' := by
  have HN := hZ hn;have HS := hZ hS;have HW := hZ hw;have HSZ := hZ hsz;have EQ : ∀ wz : World, (binOp .eql 52 (.slice A n c) (.slice none 0 0)).run Tryz.prog wz = .ok (.bool A.isNone) wz := fun wz => Lib.run_eql_slice_nil wz _ _ _ _ _ _ _ Tryz.underlying52
  cases A with
  | none =>
    have h0 : xs = [] := hS.row.none_nil;have hn0 : n = 0 := by rw [<- hn, h0]; rfl
    have HX := hZ h0;subst hn0;clear hS hn h0 hw hsz;go_enter Tryz.func252, Tryz.ntmps252
    go_wp2_with fail
    go_ret;exact ⟨_, _, rfl, fun i s h => by rw [HX.out] at h; simp at h, Below.refl _ _⟩
  | some ad =>
    obtain ⟨i0, hi, hz0, hz1, hz2⟩ := info_parts str_info;obtain ⟨W1, hW1⟩ : ∃ W1, W1 = w.alloc (.cells (madeCells (Value.string ⟨#[]⟩).cells (n * 1)) 9) := ⟨_, rfl⟩;have MS := run_make (P := Tryz.prog) w 52 9 i0 (.string ⟨#[]⟩) Tryz.underlying52 hi hz0 .i64 .i64 (n : Int) (n : Int) (by omega) (by omega) (by rw [hz2]; omega) (by omega);rw [hz1] at MS;simp only [Int.toNat_natCast] at MS;rw [<- hW1] at MS;have START : Hid (Fill stR w.heap.size w.heap.size xs 0 W1) := hZ (by rw [hW1]; exact Fill.start stR (Nat.le_refl _) _ _ xs (by rw [size_madeCells, hn]; rfl));have HB1 : Hid (Below w.heap.size w W1) := hZ (by rw [hW1]; exact below_new (Below.refl _ _) _);have EQ' : ∀ wz : World, (binOp .eql 52 (.slice (some ad) n c) (.slice none 0 0)).run Tryz.prog wz = .ok (.bool false) wz := EQ
    clear EQ hW1 hS hn hw hsz;go_enter Tryz.func252, Tryz.ntmps252
    go_wp2_with fail
    go_loopw [15] (fun s15 wr => ∃ k : Nat, k <= n /\ s15 = .int .i64 k /\ Hid (Fill stR w.heap.size w.heap.size xs k wr) /\ Hid (Below w.heap.size w wr)) (fun s15 _ => n - (intOf s15).toNat)
    case atStart => exact ⟨0, by omega, rfl, START, HB1⟩
    case round =>
      obtain ⟨k, hk, rfl, HF, HB⟩ := hrel;obtain ⟨wo, rfl⟩ : ∃ wo : World, wo = wr := ⟨_, rfl⟩;clear MS EQ' START HB1;by_cases hlt : k < n
      · obtain ⟨s, hs⟩ : ∃ s, xs[k]? = some s := ⟨_, List.getElem?_eq_getElem (by rw [HN.out]; exact hlt)⟩
        obtain ⟨g, o, e1, hg, hc, -⟩ := HS.out k s hs;obtain rfl := Option.some.inj e1;have hc' := ((below_over HW.out HB.out).cell (p := ⟨g, _, none⟩) hg).trans hc
        have CL := hZ (cln_any s wo (HSZ.out s (List.mem_of_getElem? hs)));have HSS := hZ hs;clear hs hc hg e1;go_upto_region 7 with fail
        clear hc';go_wp2_with fail
        refine CL.out.mono ?_; rintro e w2 ⟨rfl, hb2⟩
        have hlw : w.heap.size < wo.heap.size := HF.out.hg;have F2 := HF.out.keep hb2.size (fun b _ hb => hb2.block b hb);have HT := F2.at (m := 1) (by rw [HN.out]; exact hlt) rfl;have t0 := (HT 0 (by omega)).1;have f0 := (HT 0 (by omega)).2;rw [show k * stR.k + 0 = k by show k * 1 + 0 = k; omega] at t0 f0;obtain ⟨u0, t0⟩ := Option.isSome_iff_exists.1 t0
        have F3 : Hid (Fill stR w.heap.size w.heap.size xs (k + 1) (w2.setCell ⟨w.heap.size, k, none⟩ (.string s))) := hZ (by
          have := F2.put HSS.out (l := [.string s]) (B := wo.heap.size) ⟨rfl, by have := HSZ.out s (List.mem_of_getElem? HSS.out); omega⟩ hlw
          rw [show k * stR.k = k by show k * 1 = k; omega] at this;exact this)
        have B3 : Hid (Below w.heap.size w (w2.setCell ⟨w.heap.size, k, none⟩ (.string s))) := hZ (below_put (below_over HB.out hb2) (Nat.le_refl _) _);clear F2 HT hb2 CL;go_wp2_with fail
        go_roundw
        case rel => exact ⟨k + 1, by omega, by go_num, F3, B3⟩
        case measure => simp [intOf]; omega
      · have hkn : k = n := by omega
        have DONE := hZ (HF.out.done (m := w.heap.size) (by rw [HN.out]; omega) (Nat.le_refl _));clear hkn;go_wp2_with fail
        go_ret;exact ⟨_, _, rfl, DONE.out.names, HB.out⟩
end Go.Proofs.YteecgiebimdbhaaGreatDoor
