/-
  Several texts in one.
-/
import Derived.Test.YteecgiebimdbhaaGreatDoorK18
import Derived.DeepKeys3
set_option maxRecDepth 100000
set_option maxHeartbeats 16000000
namespace Go.Proofs.YteecgiebimdbhaaGreatDoor
open Go.RowKit
open Go.Sort
open M
theorem sameL_no {a b : List Ty} (h : a ≠ b) : sameL a b = false := by
 rw [Bool.eq_false_iff, ne_eq, sameL_iff]; exact h
theorem equal_names (A : Option Addr) (c n : Nat) (l : List ByteArray) (A' : Option Addr) (c' n' : Nat) (l' : List ByteArray) (w : World) (hn : l.length = n) (hn' : l'.length = n') (hz : n <= 9223372036854775807) (hz' : n' <= 9223372036854775807) (hN : NamesAt w A l) (hN' : NamesAt w A' l') :
  Calls Tryz.prog 214 #[.slice A n c, .slice A' n' c'] w fun e w' => e = .returned (.bool (decide (l = l'))) /\ Below w.heap.size w w' := by
 have HN := hZ hN
 have HN' := hZ hN'
 have HQ := hZ hn
 have HQ' := hZ hn'
 clear hN hN' hn hn'
 by_cases hqq : n = n'
 rotate_left
 ·have R : Hid (decide (l = l') = false) := hZ (by
   have h1 := HQ.out;have h2 := HQ'.out;simp;intro e; subst e; omega)
  have f1 : (((n : Nat) : Int) == ((n' : Nat) : Int)) = false := by simp; omega
  have f2 : (((n : Nat) : Int) != ((n' : Nat) : Int)) = true := by simp; omega
  rw [R.out];clear hqq;as_aux_lemma =>
  go_enter Tryz.func214, Tryz.ntmps214
  go_wp2_with fail
  go_ret;exact ⟨rfl, Below.refl _ _⟩
 subst hqq
 go_enter Tryz.func214, Tryz.ntmps214
 go_wp2_with fail
 go_loopw [13] (fun i wr => ∃ k : Nat, k <= n /\ i = .int .i64 k /\ Hid (∀ j x y, j < k -> l[j]? = some x -> l'[j]? = some y -> x = y) /\ Below w.heap.size w wr) (fun i _ => n - (intOf i).toNat)
 case atStart => exact ⟨0, by omega, rfl, hZ (fun j x y h => by omega), Below.refl _ _⟩
 case round =>
  obtain ⟨k, hk, rfl, HP, hb⟩ := hrel;obtain ⟨wo, rfl⟩ : ∃ wo : World, wo = wr := ⟨_, rfl⟩;by_cases hlt : k < n
  ·obtain ⟨x, hx⟩ : ∃ x, l[k]? = some x := ⟨_, List.getElem?_eq_getElem (by rw [HQ.out]; exact hlt)⟩
   obtain ⟨y, hy⟩ : ∃ y, l'[k]? = some y := ⟨_, List.getElem?_eq_getElem (by rw [HQ'.out]; exact hlt)⟩;obtain ⟨g, o, rfl, hg, hc, -⟩ := HN.out.below hb k x hx;obtain ⟨g', o', rfl, hg', hc', -⟩ := HN'.out.below hb k y hy;have HX := hZ hx;have HY := hZ hy;clear hx hy;by_cases hxy : x = y
   ·have f1 : (x.toList == y.toList) = true := by rw [hxy]; simp
    have f2 : (!(x.toList == y.toList)) = false := by rw [f1]; rfl
    have HXY := hZ hxy;clear hxy;go_wp2_with fail
    go_quiet (fail)
    go_wp2_with fail
    go_roundw
    case rel => exact ⟨k + 1, by omega, by go_num, hZ (fun j a b hj ha hb => by
     rcases Nat.lt_or_ge j k with e | e
     ·exact HP.out j a b e ha hb
     ·rw [show j = k by omega, HX.out] at ha
      rw [show j = k by omega, HY.out] at hb;obtain rfl := Option.some.inj ha;obtain rfl := Option.some.inj hb;exact HXY.out), below_drewN hb _⟩
    case measure => simp [intOf]; omega
   ·have f1 : (x.toList == y.toList) = false := by
     rw [beq_eq_false_iff_ne, ne_eq, Lib.toList_data, Lib.toList_data, bytes_list];exact hxy
    have f2 : (!(x.toList == y.toList)) = true := by rw [f1]; rfl
    have f3 : ¬ x.toList = y.toList := by simpa using f1
    have R : Hid (decide (l = l') = false) := hZ (by
     simp;intro e; subst e
     have a := HX.out;rw [HY.out] at a;exact hxy (Option.some.inj a).symm)
    clear hxy;go_wp2_with fail
    go_quiet (fail)
    go_wp2_with fail
    go_ret;exact ⟨ret_bool R.out, below_drewN hb _⟩
  ·have R : Hid (decide (l = l') = true) := hZ (by
    simp
    exact list_ext' (by rw [HQ.out, HQ'.out]) (fun i x y hx hy => HP.out i x y (by
     have := (List.getElem?_eq_some_iff.1 hx).1
     rw [HQ.out] at this; omega) hx hy))
   go_wp2_with fail
   go_ret;exact ⟨ret_bool R.out, hb⟩
theorem equal_alike (A : Option Addr) (c n : Nat) (l : List Ty) (A' : Option Addr) (c' n' : Nat) (l' : List Ty) (w : World) (hn : l.length = n) (hn' : l'.length = n') (hz : n <= 9223372036854775807) (hz' : n' <= 9223372036854775807) (hS : SubsAt w A l) (hS' : SubsAt w A' l')
  (IH : ∀ s, s ∈ l -> ∀ (q : Ty) (v v' : Value) (w : World), TyV w v s -> TyV w v' q -> Calls Tryz.prog 182 #[v, v'] w fun e w' => e = .returned (.bool (sameT s q)) /\ Below w.heap.size w w') :
  Calls Tryz.prog 215 #[.slice A n c, .slice A' n' c', .func (.func 182) #[] #[]] w fun e w' => e = .returned (.bool (sameL l l')) /\ Below w.heap.size w w' := by
 have HN := hZ hS
 have HN' := hZ hS'
 have HQ := hZ hn
 have HQ' := hZ hn'
 have HIH := hZ IH
 clear hS hS' hn hn' IH
 by_cases hqq : n = n'
 rotate_left
 ·have R : Hid (sameL l l' = false) := hZ (by
   have h1 := HQ.out;have h2 := HQ'.out;exact sameL_no (fun e => by subst e; omega))
  have f1 : (((n : Nat) : Int) == ((n' : Nat) : Int)) = false := by simp; omega
  have f2 : (((n : Nat) : Int) != ((n' : Nat) : Int)) = true := by simp; omega
  rw [R.out];clear hqq;as_aux_lemma =>
  go_enter Tryz.func215, Tryz.ntmps215
  go_wp2_with fail
  go_ret;exact ⟨rfl, Below.refl _ _⟩
 subst hqq
 go_enter Tryz.func215, Tryz.ntmps215
 go_wp2_with fail
 go_loopw [17] (fun i wr => ∃ k : Nat, k <= n /\ i = .int .i64 k /\ Hid (∀ j x y, j < k -> l[j]? = some x -> l'[j]? = some y -> x = y) /\ Hid (Below w.heap.size w wr)) (fun i _ => n - (intOf i).toNat)
 case atStart => exact ⟨0, by omega, rfl, hZ (fun j x y h => by omega), hZ (Below.refl _ _)⟩
 case round =>
  obtain ⟨k, hk, rfl, HP, HB⟩ := hrel;obtain ⟨wo, rfl⟩ : ∃ wo : World, wo = wr := ⟨_, rfl⟩;by_cases hlt : k < n
  ·obtain ⟨x, hx⟩ : ∃ x, l[k]? = some x := ⟨_, List.getElem?_eq_getElem (by rw [HQ.out]; exact hlt)⟩
   obtain ⟨y, hy⟩ : ∃ y, l'[k]? = some y := ⟨_, List.getElem?_eq_getElem (by rw [HQ'.out]; exact hlt)⟩;obtain ⟨g, o, v0, v1, v2, v3, v4, v5, v6, rfl, hg, h0, h1, h2, h3, h4, h5, h6, hs7⟩ := HN.out.below HB.out k x hx;obtain ⟨g', o', z0, z1, z2, z3, z4, z5, z6, rfl, hg', e0, e1, e2, e3, e4, e5, e6, ht7⟩ := HN'.out.below HB.out k y hy;obtain ⟨Am, cm, At, ct, rfl, rfl, rfl, rfl, rfl, rfl, rfl⟩ := hs7.seven;obtain ⟨Bm, dm, Bt, dt, rfl, rfl, rfl, rfl, rfl, rfl, rfl⟩ := ht7.seven;have IHs := hZ (fun w' (hw : Below wo.heap.size wo w') => HIH.out x (List.mem_of_getElem? hx) y _ _ w' (TyV.below ⟨_, rfl, hs7⟩ hw) (TyV.below ⟨_, rfl, ht7⟩ hw));have HX := hZ hx;have HY := hZ hy;clear hx hy hs7 ht7;rcases hid_or (sameT x y) with hxy | hxy
   ·have R : Hid (sameL l l' = false) := hZ (sameL_no (fun e => by
     subst e;have a := HX.out;rw [HY.out] at a;have b := hxy.out;rw [Option.some.inj a] at b;rw [(sameT_iff x x).2 rfl] at b;cases b))
    go_wp2_with fail
    refine (IHs.out _ (below_new (below_new (Below.refl _ _) _) _)).mono ?_; rintro e w5 ⟨rfl, hb5⟩; rw [hxy.out]
    have HB5 := hZ ((below_new (below_new HB.out _) _).trans (hb5.mono (by have := HB.out.size; simp; omega)));clear h0 h1 h2 h3 h4 h5 h6 e0 e1 e2 e3 e4 e5 e6 hb5 IHs;go_wp2_with fail
    go_ret;exact ⟨ret_bool R.out, HB5.out⟩
   ·go_wp2_with fail
    refine (IHs.out _ (below_new (below_new (Below.refl _ _) _) _)).mono ?_; rintro e w5 ⟨rfl, hb5⟩; rw [hxy.out]
    have HB5 := hZ ((below_new (below_new HB.out _) _).trans (hb5.mono (by have := HB.out.size; simp; omega)));clear h0 h1 h2 h3 h4 h5 h6 e0 e1 e2 e3 e4 e5 e6 hb5 IHs;go_wp2_with fail
    go_roundw
    case rel => exact ⟨k + 1, by omega, by go_num, hZ (fun j a b hj ha hb => by
     rcases Nat.lt_or_ge j k with e | e
     ·exact HP.out j a b e ha hb
     ·rw [show j = k by omega, HX.out] at ha
      rw [show j = k by omega, HY.out] at hb;obtain rfl := Option.some.inj ha;obtain rfl := Option.some.inj hb;exact (sameT_iff _ _).1 hxy.out), HB5⟩
    case measure => simp [intOf]; omega
  ·have R : Hid (sameL l l' = true) := hZ (by
    rw [sameL_iff]
    exact list_ext' (by rw [HQ.out, HQ'.out]) (fun i x y hx hy => HP.out i x y (by
     have := (List.getElem?_eq_some_iff.1 hx).1
     rw [HQ.out] at this; omega) hx hy))
   go_wp2_with fail
   go_ret;exact ⟨ret_bool R.out, HB.out⟩
theorem alike_any (N : Nat) : ∀ (a b : Ty), many a <= N -> ∀ (v v' : Value) (w : World), TyV w v a -> TyV w v' b ->
  Calls Tryz.prog 182 #[v, v'] w fun e w' => e = .returned (.bool (sameT a b)) /\ Below w.heap.size w w' := by
 induction N with
 | zero => intro a b h; have := many_pos a; omega
 | succ N ih =>
 intro a b hN v v' w hv hv'
 have HIH := hZ (fun s (hs : s ∈ a.subs) (q : Ty) (v v' : Value) (w : World) (hv : TyV w v s) (hv' : TyV w v' q) => ih s q (by have := manyL_mem a.subs s hs; have := manyL_eq a; omega) v v' w hv hv')
 clear ih hN
 obtain ⟨l, rfl, hT⟩ := hv
 obtain ⟨An, cn, As, cs, rfl, -, -, -, hzn, hz, hNA, hS⟩ := hT.parts
 obtain ⟨l', rfl, hT'⟩ := hv'
 obtain ⟨Bn, cn', Bs, cs', rfl, -, -, -, hzn', hz', hNB, hS'⟩ := hT'.parts
 clear hT hT'
 obtain ⟨k, p, m, d, n, ns, ss⟩ := a
 obtain ⟨k', p', m', d', n', ns', ss'⟩ := b
 simp only [Ty.kind, Ty.pkg, Ty.major, Ty.mod, Ty.name, Ty.names, Ty.subs] at *
 have HNA := hZ hNA
 have HNB := hZ hNB
 have HSA := hZ hS
 have HSB := hZ hS'
 clear hNA hNB hS hS'
 generalize hq : ns.length = q at hzn
 generalize hq' : ns'.length = q' at hzn'
 generalize hr : ss.length = r at hz
 generalize hr' : ss'.length = r' at hz'
 have HQ := hZ hq
 have HQ' := hZ hq'
 have HR := hZ hr
 have HR' := hZ hr'
 clear hq hq' hr hr'
 by_cases h1 : k = k'
 rotate_left
 ·have R : Hid (sameT (.mk k p m d n ns ss) (.mk k' p' m' d' n' ns' ss') = false) := hZ (sameT_no (fun e => by injection e with e1 e2 e3 e4 e5 e6 e7; exact h1 e1))
  rw [R.out];have f1 : (k == k') = false := by simpa using h1
  clear h1;as_aux_lemma =>
  go_enter Tryz.func182, Tryz.ntmps182
  go_wp2_with fail
  go_ret;exact ⟨rfl, below_new (below_new (Below.refl _ _) _) _⟩
 subst h1
 by_cases h2 : p = p'
 rotate_left
 ·have R : Hid (sameT (.mk k p m d n ns ss) (.mk k p' m' d' n' ns' ss') = false) := hZ (sameT_no (fun e => by injection e with e1 e2 e3 e4 e5 e6 e7; exact h2 e2))
  rw [R.out]
  have f1 : (p.toList == p'.toList) = false := by
   rw [beq_eq_false_iff_ne, ne_eq, Lib.toList_data, Lib.toList_data, bytes_list];exact h2
  have f3 : ¬ p.toList = p'.toList := by simpa using f1
  clear h2;as_aux_lemma =>
  go_enter Tryz.func182, Tryz.ntmps182
  go_wp2_with fail
  go_ret;exact ⟨rfl, below_new (below_new (Below.refl _ _) _) _⟩
 subst h2
 by_cases h3 : m = m'
 rotate_left
 ·have R : Hid (sameT (.mk k p m d n ns ss) (.mk k p m' d' n' ns' ss') = false) := hZ (sameT_no (fun e => by injection e with e1 e2 e3 e4 e5 e6 e7; exact h3 e3))
  rw [R.out];have f1 : (m == m') = false := by simpa using h3
  clear h3;as_aux_lemma =>
  go_enter Tryz.func182, Tryz.ntmps182
  go_wp2_with fail
  go_ret;exact ⟨rfl, below_new (below_new (Below.refl _ _) _) _⟩
 subst h3
 by_cases h4 : d = d'
 rotate_left
 ·have R : Hid (sameT (.mk k p m d n ns ss) (.mk k p m d' n' ns' ss') = false) := hZ (sameT_no (fun e => by injection e with e1 e2 e3 e4 e5 e6 e7; exact h4 e4))
  rw [R.out]
  have f1 : (d.toList == d'.toList) = false := by
   rw [beq_eq_false_iff_ne, ne_eq, Lib.toList_data, Lib.toList_data, bytes_list];exact h4
  have f3 : ¬ d.toList = d'.toList := by simpa using f1
  clear h4;as_aux_lemma =>
  go_enter Tryz.func182, Tryz.ntmps182
  go_wp2_with fail
  go_ret;exact ⟨rfl, below_new (below_new (Below.refl _ _) _) _⟩
 subst h4
 by_cases h5 : n = n'
 rotate_left
 ·have R : Hid (sameT (.mk k p m d n ns ss) (.mk k p m d n' ns' ss') = false) := hZ (sameT_no (fun e => by injection e with e1 e2 e3 e4 e5 e6 e7; exact h5 e5))
  rw [R.out]
  have f1 : (n.toList == n'.toList) = false := by
   rw [beq_eq_false_iff_ne, ne_eq, Lib.toList_data, Lib.toList_data, bytes_list];exact h5
  have f3 : ¬ n.toList = n'.toList := by simpa using f1
  clear h5;as_aux_lemma =>
  go_enter Tryz.func182, Tryz.ntmps182
  go_wp2_with fail
  go_ret;exact ⟨rfl, below_new (below_new (Below.refl _ _) _) _⟩
 subst h5
 have HBX := hZ (below_new (below_new (Below.refl _ w) (.cells #[.int .i64 k, .string p, .int .i64 m, .string d, .string n, .slice An q cn, .slice As r cs] 55)) (.cells #[.int .i64 k, .string p, .int .i64 m, .string d, .string n, .slice Bn q' cn', .slice Bs r' cs'] 55))
 rcases hid_or (decide (ns = ns')) with hnn | hnn
 ·have R : Hid (sameT (.mk k p m d n ns ss) (.mk k p m d n ns' ss') = false) := hZ (sameT_no (fun e => by injection e with e1 e2 e3 e4 e5 e6 e7; have := hnn.out; simp at this; exact this e6))
  rw [R.out];as_aux_lemma =>
  go_enter Tryz.func182, Tryz.ntmps182
  go_wp2_with fail
  refine (equal_names An cn q ns Bn cn' q' ns' _ HQ.out HQ'.out hzn hzn' (HNA.out.below HBX.out) (HNB.out.below HBX.out)).mono ?_; rintro e w5 ⟨rfl, hb5⟩; rw [hnn.out]
  go_wp2_with fail
  go_ret;exact ⟨rfl, HBX.out.trans (hb5.mono HBX.out.size)⟩
 ·have R : Hid (sameT (.mk k p m d n ns ss) (.mk k p m d n ns' ss') = sameL ss ss') := hZ (by
   have h := hnn.out;simp at h;subst h;unfold sameT; simp)
  rw [R.out];as_aux_lemma =>
  go_enter Tryz.func182, Tryz.ntmps182
  go_wp2_with fail
  refine (equal_names An cn q ns Bn cn' q' ns' _ HQ.out HQ'.out hzn hzn' (HNA.out.below HBX.out) (HNB.out.below HBX.out)).mono ?_; rintro e w5 ⟨rfl, hb5⟩; rw [hnn.out]
  have HB5 := hZ (HBX.out.trans (hb5.mono HBX.out.size));obtain ⟨hc5, hf5⟩ := bcell hb5;have hz5 : w.heap.size + 1 + 1 <= w5.heap.size := by have := hb5.size; simpa using this
  have b6 : w5.cell? ⟨w.heap.size, 6, none⟩ = some (.slice As r cs) := by rw [hc5 _ _ (by simp; omega)]; go_simp
  have d6 : w5.cell? ⟨w.heap.size + 1, 6, none⟩ = some (.slice Bs r' cs') := by rw [hc5 _ _ (by simp)]; go_simp
  clear hb5 hc5 hf5;go_wp2_with fail
  refine (equal_alike As cs r ss Bs cs' r' ss' _ HR.out HR'.out hz hz' (HSA.out.below HB5.out) (HSB.out.below HB5.out) HIH.out).mono ?_; rintro e w6 ⟨rfl, hb6⟩
  go_wp2_with fail
  go_ret;exact ⟨rfl, HB5.out.trans (hb6.mono HB5.out.size)⟩
theorem sameK_any (a b : Ty) (v v' : Value) (w : World) (hv : TyV w v a) (hv' : TyV w v' b) :
  Calls Tryz.prog 131 #[v, v'] w fun e w' => e = .returned (.bool (mayT a && mayT b && sameT a b)) /\ Below w.heap.size w w' := by
 have HV := hZ hv
 have HV' := hZ hv'
 obtain ⟨l, rfl, hT⟩ := hv
 obtain ⟨An, cn, As, cs, rfl, -, -, -, hzn, hz, -, -⟩ := hT.parts
 obtain ⟨l', rfl, hT'⟩ := hv'
 obtain ⟨Bn, cn', Bs, cs', rfl, -, -, -, hzn', hz', -, -⟩ := hT'.parts
 clear hT hT'
 have HBX := hZ (below_new (below_new (Below.refl _ w) (.cells #[.int .i64 a.kind, .string a.pkg, .int .i64 a.major, .string a.mod, .string a.name, .slice An a.names.length cn, .slice As a.subs.length cs] 55)) (.cells #[.int .i64 b.kind, .string b.pkg, .int .i64 b.major, .string b.mod, .string b.name, .slice Bn b.names.length cn', .slice Bs b.subs.length cs'] 55))
 have FIRST : ∀ w5, Below ((w.alloc (.cells #[.int .i64 a.kind, .string a.pkg, .int .i64 a.major, .string a.mod, .string a.name, .slice An a.names.length cn, .slice As a.subs.length cs] 55)).alloc (.cells #[.int .i64 b.kind, .string b.pkg, .int .i64 b.major, .string b.mod, .string b.name, .slice Bn b.names.length cn', .slice Bs b.subs.length cs'] 55)).heap.size ((w.alloc (.cells #[.int .i64 a.kind, .string a.pkg, .int .i64 a.major, .string a.mod, .string a.name, .slice An a.names.length cn, .slice As a.subs.length cs] 55)).alloc (.cells #[.int .i64 b.kind, .string b.pkg, .int .i64 b.major, .string b.mod, .string b.name, .slice Bn b.names.length cn', .slice Bs b.subs.length cs'] 55)) w5 ->
   (∀ i v, (#[.int .i64 a.kind, .string a.pkg, .int .i64 a.major, .string a.mod, .string a.name, .slice An a.names.length cn, .slice As a.subs.length cs] : Array Value)[i]? = some v -> w5.cell? ⟨w.heap.size, i, none⟩ = some v) /\
   (∀ i v, (#[.int .i64 b.kind, .string b.pkg, .int .i64 b.major, .string b.mod, .string b.name, .slice Bn b.names.length cn', .slice Bs b.subs.length cs'] : Array Value)[i]? = some v -> w5.cell? ⟨w.heap.size + 1, i, none⟩ = some v) := fun w5 hb => by
  constructor
  ·intro i v hv
   rw [(bcell hb).1 _ _ (by simp; omega), cZ (cs := #[.int .i64 a.kind, .string a.pkg, .int .i64 a.major, .string a.mod, .string a.name, .slice An a.names.length cn, .slice As a.subs.length cs]) (T := 55) (fr := (0, 0))]
   ·exact hv
   ·rw [Lib.alloc_old _ _ _ (by simp)]; exact heap_alloc_new _ _
  ·intro i v hv
   rw [(bcell hb).1 _ _ (by simp), cZ (cs := #[.int .i64 b.kind, .string b.pkg, .int .i64 b.major, .string b.mod, .string b.name, .slice Bn b.names.length cn', .slice Bs b.subs.length cs']) (T := 55) (fr := (0, 0))]
   ·exact hv
   ·have e : w.heap.size + 1 = (w.alloc (.cells #[.int .i64 a.kind, .string a.pkg, .int .i64 a.major, .string a.mod, .string a.name, .slice An a.names.length cn, .slice As a.subs.length cs] 55)).heap.size := by simp
    rw [e]; exact heap_alloc_new _ _
 have HFI := hZ FIRST
 clear FIRST
 go_enter Tryz.func131, Tryz.ntmps131
 rcases hid_or (mayT a) with ha | ha
 ·have R : Hid ((mayT a && mayT b && sameT a b) = false) := hZ (by rw [ha.out]; rfl)
  go_wp2_with fail
  refine (mayK_any a _ _ (HV.out.below HBX.out)).mono ?_; rintro e w5 ⟨rfl, hb5⟩; rw [ha.out]
  have HB5 := hZ (HBX.out.trans (hb5.mono HBX.out.size));clear hb5;go_wp2_with fail
  go_ret;exact ⟨ret_bool R.out, HB5.out⟩
 go_wp2_with fail
 refine (mayK_any a _ _ (HV.out.below HBX.out)).mono ?_; rintro e w5 ⟨rfl, hb5⟩; rw [ha.out]
 obtain ⟨FA, FB⟩ := HFI.out w5 hb5
 have HB5 := hZ (HBX.out.trans (hb5.mono HBX.out.size))
 have hz5 : w.heap.size + 1 + 1 <= w5.heap.size := by have := hb5.size; simpa using this
 have a0 := FA 0 _ rfl
 have a1 := FA 1 _ rfl
 have a2 := FA 2 _ rfl
 have a3 := FA 3 _ rfl
 have a4 := FA 4 _ rfl
 have a5 := FA 5 _ rfl
 have a6 := FA 6 _ rfl
 have b0 := FB 0 _ rfl
 have b1 := FB 1 _ rfl
 have b2 := FB 2 _ rfl
 have b3 := FB 3 _ rfl
 have b4 := FB 4 _ rfl
 have b5 := FB 5 _ rfl
 have b6 := FB 6 _ rfl
 have HFA := hZ FA
 have HFB := hZ FB
 clear hb5 FA FB
 rcases hid_or (mayT b) with hb | hb
 ·have R : Hid ((mayT a && mayT b && sameT a b) = false) := hZ (by rw [ha.out, hb.out]; rfl)
  go_wp2_with fail
  refine (mayK_any b _ _ (HV'.out.below HB5.out)).mono ?_; rintro e w6 ⟨rfl, hb6⟩; rw [hb.out]
  have HB6 := hZ (HB5.out.trans (hb6.mono HB5.out.size));clear hb6;go_wp2_with fail
  go_ret;exact ⟨ret_bool R.out, HB6.out⟩
 have R : Hid ((mayT a && mayT b && sameT a b) = sameT a b) := hZ (by rw [ha.out, hb.out]; rfl)
 go_wp2_with fail
 refine (mayK_any b _ _ (HV'.out.below HB5.out)).mono ?_; rintro e w6 ⟨rfl, hb6⟩; rw [hb.out]
 have HB6 := hZ (HB5.out.trans (hb6.mono HB5.out.size))
 have tr : ∀ j i v, j < w5.heap.size -> w5.cell? ⟨j, i, none⟩ = some v -> w6.cell? ⟨j, i, none⟩ = some v := fun j i v hj hv => (hb6.cell (p := ⟨j, i, none⟩) hj).trans hv
 have a0' := tr _ _ _ (by omega) a0
 have a1' := tr _ _ _ (by omega) a1
 have a2' := tr _ _ _ (by omega) a2
 have a3' := tr _ _ _ (by omega) a3
 have a4' := tr _ _ _ (by omega) a4
 have a5' := tr _ _ _ (by omega) a5
 have a6' := tr _ _ _ (by omega) a6
 have b0' := tr _ _ _ (by omega) b0
 have b1' := tr _ _ _ (by omega) b1
 have b2' := tr _ _ _ (by omega) b2
 have b3' := tr _ _ _ (by omega) b3
 have b4' := tr _ _ _ (by omega) b4
 have b5' := tr _ _ _ (by omega) b5
 have b6' := tr _ _ _ (by omega) b6
 clear a0 a1 a2 a3 a4 a5 a6 b0 b1 b2 b3 b4 b5 b6 tr hb6
 go_wp2_with fail
 refine (alike_any _ a b (Nat.le_refl _) _ _ _ (HV.out.below HB6.out) (HV'.out.below HB6.out)).mono ?_; rintro e w7 ⟨rfl, hb7⟩
 go_wp2_with fail
 go_ret
 exact ⟨ret_bool R.out, HB6.out.trans (hb7.mono HB6.out.size)⟩
theorem plainK_any (t : Ty) (v : Value) (w : World) (hv : TyV w v t) :
  Calls Tryz.prog 183 #[v] w fun e w' => e = .returned (.bool (mayT t && plainT t)) /\ Below w.heap.size w w' := by
 have HV := hZ hv
 obtain ⟨l, rfl, hT⟩ := hv
 obtain ⟨An, cn, As, cs, rfl, -, -, -, hzn, hz, -, -⟩ := hT.parts
 clear hT
 have HB0 := hZ (below_new (Below.refl _ w) (.cells #[.int .i64 t.kind, .string t.pkg, .int .i64 t.major, .string t.mod, .string t.name, .slice An t.names.length cn, .slice As t.subs.length cs] 55))
 rcases hid_or (mayT t) with ha | ha
 ·have R : Hid ((mayT t && plainT t) = false) := hZ (by rw [ha.out]; rfl)
  rw [R.out];go_enter Tryz.func183, Tryz.ntmps183
  go_wp2_with fail
  refine (mayK_any t _ _ (HV.out.below HB0.out)).mono ?_; rintro e w5 ⟨rfl, hb5⟩; rw [ha.out]
  go_wp2_with fail
  go_ret;exact ⟨rfl, HB0.out.trans (hb5.mono HB0.out.size)⟩
 ·have R : Hid ((mayT t && plainT t) = plainT t) := hZ (by rw [ha.out]; rfl)
  rw [R.out];go_enter Tryz.func183, Tryz.ntmps183
  go_wp2_with fail
  refine (mayK_any t _ _ (HV.out.below HB0.out)).mono ?_; rintro e w5 ⟨rfl, hb5⟩; rw [ha.out]
  have hb5' : Below (boxed w #[.int .i64 t.kind, .string t.pkg, .int .i64 t.major, .string t.mod, .string t.name, .slice An t.names.length cn, .slice As t.subs.length cs]).heap.size (boxed w #[.int .i64 t.kind, .string t.pkg, .int .i64 t.major, .string t.mod, .string t.name, .slice An t.names.length cn, .slice As t.subs.length cs]) w5 := hb5
  have HB5 := hZ (box_below hb5');have c0 := box_cell hb5' 0; have c1 := box_cell hb5' 1; have c2 := box_cell hb5' 2; have c3 := box_cell hb5' 3; have c4 := box_cell hb5' 4; have c5 := box_cell hb5' 5; have c6 := box_cell hb5' 6
  simp at c0 c1 c2 c3 c4 c5 c6;clear hb5 hb5';go_wp2_with fail
  refine (local_any _ t (Nat.le_refl _) _ _ (HV.out.below HB5.out)).mono ?_; rintro e w6 ⟨rfl, hb6⟩
  go_wp2_with fail
  go_ret;exact ⟨ret_bool (by simp), HB5.out.trans (hb6.mono HB5.out.size)⟩
end Go.Proofs.YteecgiebimdbhaaGreatDoor
namespace Go.Proofs.YteecgiebimdbhaaGreatDoor
open Go Go.RowKit Go.Shelf
open Go.Sort Go.Maps
open M
def othM (m : Mo) (env : List If) (s n : ByteArray) : Ty × Int :=
 match impAt m s with
 | none => (zTy, 4)
 | some k => match m.imps[k]? with
  | none => (zTy, 4)
  | some x => if (mayT (gotT (gotI env x).types n) && plainT (gotT (gotI env x).types n)) = true then (gotT (gotI env x).types n, 0) else (zTy, 9)
theorem othM_no {m : Mo} {env : List If} {s n : ByteArray} (h : impAt m s = none) : othM m env s n = (zTy, 4) := by unfold othM; rw [h]
theorem othM_at {m : Mo} {env : List If} {s n : ByteArray} {k : Nat} {x : Im} (h : impAt m s = some k) (hx : m.imps[k]? = some x) : othM m env s n = if (mayT (gotT (gotI env x).types n) && plainT (gotT (gotI env x).types n)) = true then (gotT (gotI env x).types n, 0) else (zTy, 9) := by unfold othM; rw [h]; simp only []; rw [hx]
theorem impAt_idx (m : Mo) (s : ByteArray) : impAt m s = m.imps.findIdx? (isAs s) := rfl
theorem othersN_any (m : Mo) (pkg : ByteArray) (major : Int) (env : List If) (kb : Nat) (s nm : ByteArray) (l : List Value) (w0 w : World) (h : NsAt w0 l m pkg major env kb) (hw : Below w0.heap.size w0 w) :
  Calls Tryz.prog 276 #[.agg l.toArray, .agg #[.string s, .string nm]] w (MeOut w0 w (othM m env s nm).1 (othM m env s nm).2) := by
 have HB0w := hZ hw
 obtain ⟨Ai, ci, Ad, cd, Ae, ce, rfl, -, hz2, -, -, hz5, hI, -, hE⟩ := h
 obtain ⟨ni, hni⟩ : ∃ ni, ni = m.imps.length := ⟨_, rfl⟩
 obtain ⟨ne, hne⟩ : ∃ ne, ne = env.length := ⟨_, rfl⟩
 obtain ⟨W2, hW2, B2, O0, O1, hl2⟩ := two_boxes w #[.string m.name, .slice Ai ni ci, .slice Ad m.decs.length cd, .string pkg, .int .i64 major, .slice Ae ne ce, .map (some kb)] #[.string s, .string nm] 224 292
 have s2 : W2.heap.size = w.heap.size + 1 + 1 := by rw [hW2]; simp
 obtain ⟨W3, hW3⟩ : ∃ W3, W3 = W2.alloc (.cells #[.int .i64 0, .string ⟨#[]⟩, .int .i64 0, .string ⟨#[]⟩, .string ⟨#[]⟩, .slice none 0 0, .slice none 0 0, .int .i64 0] 252) := ⟨_, rfl⟩
 have B3 : Below W2.heap.size W2 W3 := by rw [hW3]; exact below_new (Below.refl _ _) _
 have s3 : W3.heap.size = w.heap.size + 1 + 1 + 1 := by rw [hW3]; simp [s2]
 have O2 : W3.heap[w.heap.size + 1 + 1]? = some (.cells #[.int .i64 0, .string ⟨#[]⟩, .int .i64 0, .string ⟨#[]⟩, .string ⟨#[]⟩, .slice none 0 0, .slice none 0 0, .int .i64 0] 252 (0, 0)) := by rw [hW3, <- s2]; exact heap_alloc_new W2 _
 have HB3 : Hid (Below w.heap.size w W3) := hZ (below_over B2 B3)
 have HM : Hid (∀ wx, Below W3.heap.size W3 wx -> wx.heap[w.heap.size]? = some (.cells #[.string m.name, .slice Ai ni ci, .slice Ad m.decs.length cd, .string pkg, .int .i64 major, .slice Ae ne ce, .map (some kb)] 224 (0, 0))) := hZ (fun wx hb => (hb.block _ (by omega)).trans ((B3.block _ (by omega)).trans O0))
 have HT : Hid (∀ wx, Below W3.heap.size W3 wx -> wx.heap[w.heap.size + 1]? = some (.cells #[.string s, .string nm] 292 (0, 0))) := hZ (fun wx hb => (hb.block _ (by omega)).trans ((B3.block _ (by omega)).trans O1))
 have HR : Hid (∀ wx, Below W3.heap.size W3 wx -> wx.heap[w.heap.size + 1 + 1]? = some (.cells #[.int .i64 0, .string ⟨#[]⟩, .int .i64 0, .string ⟨#[]⟩, .string ⟨#[]⟩, .slice none 0 0, .slice none 0 0, .int .i64 0] 252 (0, 0))) := hZ (fun wx hb => (hb.block _ (by omega)).trans O2)
 have HI0 := hZ hI
 have HI : Hid (∀ wx, Below W3.heap.size W3 wx -> RowIn imR wx Ai m.imps) := hZ (fun wx hb => hI.below (below_over HB0w.out (below_over HB3.out hb)))
 have HW : Hid (((w.alloc (.cells #[.string m.name, .slice Ai ni ci, .slice Ad m.decs.length cd, .string pkg, .int .i64 major, .slice Ae ne ce, .map (some kb)] 224)).alloc (.cells #[.string s, .string nm] 292)).alloc (.cells #[.int .i64 0, .string ⟨#[]⟩, .int .i64 0, .string ⟨#[]⟩, .string ⟨#[]⟩, .slice none 0 0, .slice none 0 0, .int .i64 0] 252) = W3) := hZ (by rw [hW3, hW2])
 have hbl : w.heap.size <= w.heap.size + 1 + 1 := by omega
 have IX := hZ (lkImport_any Ai ci m.imps s W3 W3 (HI.out W3 (Below.refl _ _)) (Below.refl _ _) hz2)
 rw [<- hni] at IX
 have HNI := hZ hni
 have HNE := hZ hne
 have HFD := hZ (fun (x : Im) (wx : World) (hh : Below w0.heap.size w0 wx) => lkIface_any Ae ce env x w0 wx hE hh hz5)
 rw [<- hne] at HFD
 have M3' := HM.out W3 (Below.refl _ _)
 have T3' := HT.out W3 (Below.refl _ _)
 have x1 := cZ M3' 1
 have t0 := cZ T3' 0
 simp at x1 t0
 rw [<- hni] at hz2 ⊢
 rw [<- hne] at hz5 ⊢
 have s33 := hZ s3
 clear hI hE hw hW2 hW3 B2 B3 O0 O1 O2 s2 hl2 hni hne M3' T3'
 go_enter Tryz.func276, Tryz.ntmps276
 go_upto_region 1 with fail
 rw [HW.out]
 clear HW
 go_wp2_with (first | fail)
 refine IX.out.mono ?_; rintro e w2 ⟨rfl, hb2⟩
 obtain ⟨x, hx⟩ : ∃ x, x = gotM m.imps s := ⟨_, rfl⟩
 obtain ⟨q, hq⟩ : ∃ q, (m.imps.findIdx? (isAs s)).isSome = q := ⟨_, rfl⟩
 rw [hq, <- hx]
 obtain ⟨wi, hwi⟩ : ∃ wi, wi = w2.alloc (.cells #[.string x.pkg, .int .i64 x.major, .string x.mod, .string x.asn] 71) := ⟨_, rfl⟩
 have Bi : Below w2.heap.size w2 wi := by rw [hwi]; exact below_new (Below.refl _ _) _
 have Oi : wi.heap[w2.heap.size]? = some (.cells #[.string x.pkg, .int .i64 x.major, .string x.mod, .string x.asn] 71 (0, 0)) := by rw [hwi]; exact heap_alloc_new w2 _
 have HBI : Hid (Below W3.heap.size W3 wi) := hZ (below_over hb2 Bi)
 have HOI := hZ Oi
 have HWI := hZ hwi
 have HXX := hZ hx
 have HQQ := hZ hq
 clear hb2 IX x1 t0 hwi Bi Oi hx hq
 go_upto_region 2 with fail
 rw [<- HWI.out]
 clear HWI
 cases hk : impAt m s with
 | none =>
  obtain rfl : q = false := by rw [<- HQQ.out, <- impAt_idx, hk]; rfl
  have X5 := HR.out wi HBI.out;have HX5 := hZ X5;have FIN : Hid (MeOut w0 w (othM m env s nm).1 (othM m env s nm).2 (.returned (.agg #[.int .i64 0, .string ⟨#[]⟩, .int .i64 0, .string ⟨#[]⟩, .string ⟨#[]⟩, .slice none 0 0, .slice none 0 0, .int .i64 4])) (wi.setRow (w.heap.size + 1 + 1) #[.int .i64 0, .string ⟨#[]⟩, .int .i64 0, .string ⟨#[]⟩, .string ⟨#[]⟩, .slice none 0 0, .slice none 0 0, .int .i64 4])) := hZ ⟨[.int .i64 0, .string ⟨#[]⟩, .int .i64 0, .string ⟨#[]⟩, .string ⟨#[]⟩, .slice none 0 0, .slice none 0 0], by rw [othM_no hk]; rfl, by rw [othM_no hk]; exact fun wz _ => zero_at _, setRow_below (below_over HB3.out HBI.out) hbl _⟩;clear hk;go_upto_region 3 with fail
  go_wp2_with (first | ((with_reducible refine wpList_putRow 252 (w.heap.size + 1 + 1) #[.int .i64 0, .string ⟨#[]⟩, .int .i64 0, .string ⟨#[]⟩, .string ⟨#[]⟩, .slice none 0 0, .slice none 0 0, .int .i64 4] _ _ X5 ?_ ?_ ?_ ?_ ?_ ?_); exact meSize; rfl; exact meOne; iterate 2 (focus (first | (go_simp; done) | rfl))))
  exact ret_agg1 (fn := Tryz.f276) (vs := [.int .i64 0, .string ⟨#[]⟩, .int .i64 0, .string ⟨#[]⟩, .string ⟨#[]⟩, .slice none 0 0, .slice none 0 0, .int .i64 4]) (b := w.heap.size + 1 + 1) rfl rfl Tryz.underlying252 (by kernel_rfl) (cell8 (setRow_heap wi (w.heap.size + 1 + 1) _ _ _ _ HX5.out)) rfl FIN.out
 | some k =>
   obtain rfl : q = true := by rw [<- HQQ.out, <- impAt_idx, hk]; rfl
   have hkl : k < m.imps.length := idx_lt hk
   have hxk : m.imps[k]? = some x := by
    obtain ⟨y, hy⟩ : ∃ y, m.imps[k]? = some y := ⟨_, List.getElem?_eq_getElem hkl⟩;rw [HXX.out, gotM_at hk hy]; exact hy
   have EQ := hZ (othM_at (env := env) (n := nm) hk hxk);obtain ⟨y, hy⟩ : ∃ y, y = gotI env x := ⟨_, rfl⟩;have HY := hZ hy;have CF := hZ (HFD.out x wi (below_over HB0w.out (below_over HB3.out HBI.out)));have m5 := cZ (HM.out wi HBI.out) 5;obtain ⟨c0, c1, c2, c3⟩ := cq4 HOI.out;simp at m5 c0 c1 c2 c3;clear hk hxk hkl hy HOI;go_wp2_with (first | fail)
   refine CF.out.mono ?_; rintro e w5 ⟨l5, rfl, hL, hb5⟩
   rw [<- HY.out] at hL;have hL0 := hL w0 (Below.refl _ _);obtain ⟨At, ct, Av, cv, rfl, -, -, hlt, -, -, -⟩ := hL0
   have hT : ∀ wz, Below w0.heap.size w0 wz -> RowIn nmR wz At y.types := fun wz hb => by
    obtain ⟨A', c', A'', c'', e', -, -, -, -, h6, -⟩ := hL wz hb;simp at e';rw [e'.1.1]; exact h6
   obtain ⟨q2, hq2⟩ : ∃ q2, (findI env x.pkg x.major x.mod).isSome = q2 := ⟨_, rfl⟩;rw [hq2];obtain ⟨wc', hwc⟩ : ∃ wc', wc' = w5.alloc (.cells #[.string y.pkg, .int .i64 y.major, .string y.mod, .slice At y.types.length ct, .slice Av y.vals.length cv] 50) := ⟨_, rfl⟩;have Bc : Below w5.heap.size w5 wc' := by rw [hwc]; exact below_new (Below.refl _ _) _
   have hbx : wc'.heap[w5.heap.size]? = some (.cells #[.string y.pkg, .int .i64 y.major, .string y.mod, .slice At y.types.length ct, .slice Av y.vals.length cv] 50 (0, 0)) := by rw [hwc]; exact heap_alloc_new w5 _
   have HBC : Hid (Below W3.heap.size W3 wc') := hZ (below_over HBI.out (below_over hb5 Bc));have i3 := cZ hbx 3;have t1 := cZ (HT.out wc' HBC.out) 1;simp at i3 t1;have OC := hZ (lkType_any At ct y.types nm w0 wc' (hT w0 (Below.refl _ _)) (below_over HB0w.out (below_over HB3.out HBC.out)) hlt);have HWC := hZ hwc;clear hbx hT hlt hb5 hL Bc hwc CF m5 c0 c1 c2 c3 hq2;go_upto_region 5 with fail
   rw [<- HWC.out];clear HWC;go_wp2_with (first | fail)
   refine OC.out.mono ?_; rintro e w6 ⟨l7, rfl, hL, hb6⟩
   obtain ⟨t, ht⟩ : ∃ t, t = gotT y.types nm := ⟨_, rfl⟩;rw [<- ht] at hL;have hL0 := hL w0 (Below.refl _ _);obtain ⟨Bn, cB, Bs, dB, rfl, -⟩ := hL0.parts;have HL := hZ hL;have HB6 : Hid (Below W3.heap.size W3 w6) := hZ (below_over HBC.out hb6);obtain ⟨q3, hq3⟩ : ∃ q3, (ofI y.types nm).isSome = q3 := ⟨_, rfl⟩;rw [hq3];clear hq3;obtain ⟨w7, hw7⟩ : ∃ w7, w7 = w6.alloc (.cells #[.int .i64 t.kind, .string t.pkg, .int .i64 t.major, .string t.mod, .string t.name, .slice Bn t.names.length cB, .slice Bs t.subs.length dB] 55) := ⟨_, rfl⟩;have B7 : Below w6.heap.size w6 w7 := by rw [hw7]; exact below_new (Below.refl _ _) _
   have O7 : w7.heap[w6.heap.size]? = some (.cells #[.int .i64 t.kind, .string t.pkg, .int .i64 t.major, .string t.mod, .string t.name, .slice Bn t.names.length cB, .slice Bs t.subs.length dB] 55 (0, 0)) := by rw [hw7]; exact heap_alloc_new w6 _
   have hl7 : w6.heap.size < w7.heap.size := by rw [hw7]; simp
   have HB7 : Hid (Below W3.heap.size W3 w7) := hZ (below_over HB6.out B7);have HO7 := hZ O7;have HW7 := hZ hw7;have EQ2 : Hid (othM m env s nm = if (mayT t && plainT t) = true then (t, 0) else (zTy, 9)) := hZ (by rw [EQ.out, ht, HY.out]);have PC := hZ (plainK_any t (.agg #[.int .i64 t.kind, .string t.pkg, .int .i64 t.major, .string t.mod, .string t.name, .slice Bn t.names.length cB, .slice Bs t.subs.length dB]) w7 ⟨_, rfl, HL.out w7 (below_over HB0w.out (below_over HB3.out HB7.out))⟩);clear hL hL0 hb6 hw7 B7 O7 i3 t1 ht OC;go_upto_region 6 with fail
   rw [<- HW7.out];have o7 := HO7.out;obtain ⟨r0, r1, r2, r3, r4, r5, r6⟩ := cq7 o7;simp at r0 r1 r2 r3 r4 r5 r6;clear o7 HW7;go_wp2_with fail
   refine PC.out.mono ?_; rintro e w8 ⟨rfl, hb8⟩
   obtain ⟨q, hq⟩ : ∃ q, q = (mayT t && plainT t) := ⟨_, rfl⟩;rw [<- hq];have HB8 : Hid (Below W3.heap.size W3 w8) := hZ (below_over HB7.out hb8);have o8 := (hb8.block _ hl7).trans HO7.out;have HQ := hZ hq;clear r0 r1 r2 r3 r4 r5 r6 hb8 hq PC;obtain ⟨r0, r1, r2, r3, r4, r5, r6⟩ := cq7 o8;simp at r0 r1 r2 r3 r4 r5 r6;clear o8;have X5 := HR.out w8 HB8.out;have HX5 := hZ X5;cases q with
   | false =>
    have FIN : Hid (MeOut w0 w (othM m env s nm).1 (othM m env s nm).2 (.returned (.agg #[.int .i64 0, .string ⟨#[]⟩, .int .i64 0, .string ⟨#[]⟩, .string ⟨#[]⟩, .slice none 0 0, .slice none 0 0, .int .i64 9])) (w8.setRow (w.heap.size + 1 + 1) #[.int .i64 0, .string ⟨#[]⟩, .int .i64 0, .string ⟨#[]⟩, .string ⟨#[]⟩, .slice none 0 0, .slice none 0 0, .int .i64 9])) := hZ ⟨[.int .i64 0, .string ⟨#[]⟩, .int .i64 0, .string ⟨#[]⟩, .string ⟨#[]⟩, .slice none 0 0, .slice none 0 0], by rw [EQ2.out, <- HQ.out]; rfl, by rw [EQ2.out, <- HQ.out]; exact fun wz _ => zero_at _, setRow_below (below_over HB3.out HB8.out) hbl _⟩;go_upto_region 7 with fail
    go_wp2_with (first | ((with_reducible refine wpList_putRow 252 (w.heap.size + 1 + 1) #[.int .i64 0, .string ⟨#[]⟩, .int .i64 0, .string ⟨#[]⟩, .string ⟨#[]⟩, .slice none 0 0, .slice none 0 0, .int .i64 9] _ _ X5 ?_ ?_ ?_ ?_ ?_ ?_); exact meSize; rfl; exact meOne; iterate 2 (focus (first | (go_simp; done) | rfl))))
    exact ret_agg1 (fn := Tryz.f276) (vs := [.int .i64 0, .string ⟨#[]⟩, .int .i64 0, .string ⟨#[]⟩, .string ⟨#[]⟩, .slice none 0 0, .slice none 0 0, .int .i64 9]) (b := w.heap.size + 1 + 1) rfl rfl Tryz.underlying252 (by kernel_rfl) (cell8 (setRow_heap w8 (w.heap.size + 1 + 1) _ _ _ _ HX5.out)) rfl FIN.out
   | true =>
    have FIN : Hid (MeOut w0 w (othM m env s nm).1 (othM m env s nm).2 (.returned (.agg #[.int .i64 t.kind, .string t.pkg, .int .i64 t.major, .string t.mod, .string t.name, .slice Bn t.names.length cB, .slice Bs t.subs.length dB, .int .i64 0])) (w8.setRow (w.heap.size + 1 + 1) #[.int .i64 t.kind, .string t.pkg, .int .i64 t.major, .string t.mod, .string t.name, .slice Bn t.names.length cB, .slice Bs t.subs.length dB, .int .i64 0])) := hZ (by
     have hb := setRow_below (below_over HB3.out HB8.out) hbl #[.int .i64 t.kind, .string t.pkg, .int .i64 t.major, .string t.mod, .string t.name, .slice Bn t.names.length cB, .slice Bs t.subs.length dB, .int .i64 0];exact ⟨[.int .i64 t.kind, .string t.pkg, .int .i64 t.major, .string t.mod, .string t.name, .slice Bn t.names.length cB, .slice Bs t.subs.length dB], by rw [EQ2.out, <- HQ.out]; rfl, by rw [EQ2.out, <- HQ.out]; exact fun wz hz => HL.out wz hz, hb⟩)
    go_upto_region 8 with fail
    go_wp2_with (first | ((with_reducible refine wpList_putRow 252 (w.heap.size + 1 + 1) #[.int .i64 t.kind, .string t.pkg, .int .i64 t.major, .string t.mod, .string t.name, .slice Bn t.names.length cB, .slice Bs t.subs.length dB, .int .i64 0] _ _ X5 ?_ ?_ ?_ ?_ ?_ ?_); exact meSize; rfl; exact meOne; iterate 2 (focus (first | (go_simp; done) | rfl))))
    exact ret_agg1 (fn := Tryz.f276) (vs := [.int .i64 t.kind, .string t.pkg, .int .i64 t.major, .string t.mod, .string t.name, .slice Bn t.names.length cB, .slice Bs t.subs.length dB, .int .i64 0]) (b := w.heap.size + 1 + 1) rfl rfl Tryz.underlying252 (by kernel_rfl) (cell8 (setRow_heap w8 (w.heap.size + 1 + 1) _ _ _ _ HX5.out)) rfl FIN.out
def lookM (m : Mo) (pkg : ByteArray) (major : Int) (env : List If) (s n : ByteArray) : Ty × Int := if s.size = 0 then ownM m pkg major n else othM m env s n
theorem lookN_any (m : Mo) (pkg : ByteArray) (major : Int) (env : List If) (kb : Nat) (s nm : ByteArray) (hnm : nm.size <= 9223372036854775807) (l : List Value) (w0 w : World) (h : NsAt w0 l m pkg major env kb) (hw : Below w0.heap.size w0 w) :
  Calls Tryz.prog 251 #[.agg l.toArray, .agg #[.string s, .string nm]] w (MeOut w0 w (lookM m pkg major env s nm).1 (lookM m pkg major env s nm).2) := by
 have HN := hZ h
 have HB0w := hZ hw
 have HCN := hZ (fun (wx : World) (hb : Below w0.heap.size w0 wx) => ownN_any m pkg major env kb nm hnm l w0 wx h hb)
 have HCO := hZ (fun (wx : World) (hb : Below w0.heap.size w0 wx) => othersN_any m pkg major env kb s nm l w0 wx h hb)
 obtain ⟨Ai, ci, Ad, cd, Ae, ce, rfl, -⟩ := h
 obtain ⟨W2, hW2, B2, O0, O1, hl2⟩ := two_boxes w #[.string m.name, .slice Ai m.imps.length ci, .slice Ad m.decs.length cd, .string pkg, .int .i64 major, .slice Ae env.length ce, .map (some kb)] #[.string s, .string nm] 224 292
 have s2 : W2.heap.size = w.heap.size + 1 + 1 := by rw [hW2]; simp
 obtain ⟨W3, hW3⟩ : ∃ W3, W3 = W2.alloc (.cells #[.int .i64 0, .string ⟨#[]⟩, .int .i64 0, .string ⟨#[]⟩, .string ⟨#[]⟩, .slice none 0 0, .slice none 0 0, .int .i64 0] 252) := ⟨_, rfl⟩
 have B3 : Below W2.heap.size W2 W3 := by rw [hW3]; exact below_new (Below.refl _ _) _
 have s3 : W3.heap.size = w.heap.size + 1 + 1 + 1 := by rw [hW3]; simp [s2]
 have O2 : W3.heap[w.heap.size + 1 + 1]? = some (.cells #[.int .i64 0, .string ⟨#[]⟩, .int .i64 0, .string ⟨#[]⟩, .string ⟨#[]⟩, .slice none 0 0, .slice none 0 0, .int .i64 0] 252 (0, 0)) := by rw [hW3, <- s2]; exact heap_alloc_new W2 _
 have HB3 : Hid (Below w.heap.size w W3) := hZ (below_over B2 B3)
 have X0 := (B3.block w.heap.size (by omega)).trans O0
 have X1 := (B3.block (w.heap.size + 1) (by omega)).trans O1
 have HO2 := hZ O2
 have HW : Hid (((w.alloc (.cells #[.string m.name, .slice Ai m.imps.length ci, .slice Ad m.decs.length cd, .string pkg, .int .i64 major, .slice Ae env.length ce, .map (some kb)] 224)).alloc (.cells #[.string s, .string nm] 292)).alloc (.cells #[.int .i64 0, .string ⟨#[]⟩, .int .i64 0, .string ⟨#[]⟩, .string ⟨#[]⟩, .slice none 0 0, .slice none 0 0, .int .i64 0] 252) = W3) := hZ (by rw [hW3, hW2])
 have hbl : w.heap.size <= w.heap.size + 1 + 1 := by omega
 obtain ⟨x0, x1, x2, x3, x4, x5, x6⟩ := cq7 X0
 obtain ⟨p0, p1⟩ := cq2 X1
 simp at x0 x1 x2 x3 x4 x5 x6 p0 p1
 have CN := hZ (HCN.out W3 (below_over HB0w.out HB3.out))
 have CO := hZ (HCO.out W3 (below_over HB0w.out HB3.out))
 obtain ⟨D, hD⟩ : ∃ D, D = lookM m pkg major env s nm := ⟨_, rfl⟩
 rw [<- hD]
 have HD := hZ hD
 clear hw hW2 hW3 B2 B3 O0 O1 O2 s2 hl2 X0 X1 hD
 by_cases hz : s.size = 0
 ·obtain ⟨z1, z2⟩ := empty_facts _ hz
  have ED : Hid (ownM m pkg major nm = D) := hZ (by rw [HD.out]; unfold lookM; rw [if_pos hz]);rw [ED.out] at CN;clear hz;go_enter Tryz.func251, Tryz.ntmps251
  go_upto_region 1 with fail
  rw [HW.out];go_wp2_with fail
  refine CN.out.mono ?_; rintro e w4 ⟨l7, rfl, hL, hb4⟩
  have X5 := (hb4.block _ (by omega : w.heap.size + 1 + 1 < W3.heap.size)).trans HO2.out;have HX5 := hZ X5;obtain ⟨Bn, cB, Bs, dB, rfl, -⟩ := (hL w0 (Below.refl _ _)).parts;have hb := setRow_below (below_over HB3.out hb4) hbl #[.int .i64 D.1.kind, .string D.1.pkg, .int .i64 D.1.major, .string D.1.mod, .string D.1.name, .slice Bn D.1.names.length cB, .slice Bs D.1.subs.length dB, .int .i64 D.2];have FIN : Hid (MeOut w0 w D.1 D.2 (.returned (.agg #[.int .i64 D.1.kind, .string D.1.pkg, .int .i64 D.1.major, .string D.1.mod, .string D.1.name, .slice Bn D.1.names.length cB, .slice Bs D.1.subs.length dB, .int .i64 D.2])) (w4.setRow (w.heap.size + 1 + 1) #[.int .i64 D.1.kind, .string D.1.pkg, .int .i64 D.1.major, .string D.1.mod, .string D.1.name, .slice Bn D.1.names.length cB, .slice Bs D.1.subs.length dB, .int .i64 D.2])) := hZ ⟨[.int .i64 D.1.kind, .string D.1.pkg, .int .i64 D.1.major, .string D.1.mod, .string D.1.name, .slice Bn D.1.names.length cB, .slice Bs D.1.subs.length dB], rfl, hL, hb⟩;clear hL hb4 x0 x1 x2 x3 x4 x5 x6 p0 p1 z1 z2 hb;go_wp2_with (first | ((with_reducible refine wpList_putRow 252 (w.heap.size + 1 + 1) #[.int .i64 D.1.kind, .string D.1.pkg, .int .i64 D.1.major, .string D.1.mod, .string D.1.name, .slice Bn D.1.names.length cB, .slice Bs D.1.subs.length dB, .int .i64 D.2] _ _ X5 ?_ ?_ ?_ ?_ ?_ ?_); exact meSize; rfl; exact meOne; iterate 2 (focus (first | (go_simp; done) | rfl))))
  exact ret_agg1 (fn := Tryz.f251) (vs := [.int .i64 D.1.kind, .string D.1.pkg, .int .i64 D.1.major, .string D.1.mod, .string D.1.name, .slice Bn D.1.names.length cB, .slice Bs D.1.subs.length dB, .int .i64 D.2]) (b := w.heap.size + 1 + 1) rfl rfl Tryz.underlying252 (by kernel_rfl) (cell8 (setRow_heap w4 (w.heap.size + 1 + 1) _ _ _ _ HX5.out)) rfl FIN.out
 ·obtain ⟨z1, z2⟩ := full_facts _ hz
  have ED : Hid (othM m env s nm = D) := hZ (by rw [HD.out]; unfold lookM; rw [if_neg hz]);rw [ED.out] at CO;clear hz;go_enter Tryz.func251, Tryz.ntmps251
  go_upto_region 1 with fail
  rw [HW.out];go_wp2_with fail
  refine CO.out.mono ?_; rintro e w4 ⟨l7, rfl, hL, hb4⟩
  have X5 := (hb4.block _ (by omega : w.heap.size + 1 + 1 < W3.heap.size)).trans HO2.out;have HX5 := hZ X5;obtain ⟨Bn, cB, Bs, dB, rfl, -⟩ := (hL w0 (Below.refl _ _)).parts;have hb := setRow_below (below_over HB3.out hb4) hbl #[.int .i64 D.1.kind, .string D.1.pkg, .int .i64 D.1.major, .string D.1.mod, .string D.1.name, .slice Bn D.1.names.length cB, .slice Bs D.1.subs.length dB, .int .i64 D.2];have FIN : Hid (MeOut w0 w D.1 D.2 (.returned (.agg #[.int .i64 D.1.kind, .string D.1.pkg, .int .i64 D.1.major, .string D.1.mod, .string D.1.name, .slice Bn D.1.names.length cB, .slice Bs D.1.subs.length dB, .int .i64 D.2])) (w4.setRow (w.heap.size + 1 + 1) #[.int .i64 D.1.kind, .string D.1.pkg, .int .i64 D.1.major, .string D.1.mod, .string D.1.name, .slice Bn D.1.names.length cB, .slice Bs D.1.subs.length dB, .int .i64 D.2])) := hZ ⟨[.int .i64 D.1.kind, .string D.1.pkg, .int .i64 D.1.major, .string D.1.mod, .string D.1.name, .slice Bn D.1.names.length cB, .slice Bs D.1.subs.length dB], rfl, hL, hb⟩;clear hL hb4 x0 x1 x2 x3 x4 x5 x6 p0 p1 z1 z2 hb;go_wp2_with (first | ((with_reducible refine wpList_putRow 252 (w.heap.size + 1 + 1) #[.int .i64 D.1.kind, .string D.1.pkg, .int .i64 D.1.major, .string D.1.mod, .string D.1.name, .slice Bn D.1.names.length cB, .slice Bs D.1.subs.length dB, .int .i64 D.2] _ _ X5 ?_ ?_ ?_ ?_ ?_ ?_); exact meSize; rfl; exact meOne; iterate 2 (focus (first | (go_simp; done) | rfl))))
  exact ret_agg1 (fn := Tryz.f251) (vs := [.int .i64 D.1.kind, .string D.1.pkg, .int .i64 D.1.major, .string D.1.mod, .string D.1.name, .slice Bn D.1.names.length cB, .slice Bs D.1.subs.length dB, .int .i64 D.2]) (b := w.heap.size + 1 + 1) rfl rfl Tryz.underlying252 (by kernel_rfl) (cell8 (setRow_heap w4 (w.heap.size + 1 + 1) _ _ _ _ HX5.out)) rfl FIN.out
theorem lawPlace : WideMaps.KeyLaw Tryz.prog 292 := deep_law (m := 2) (by omega) (by kernel_rfl) (by kernel_rfl) (by kernel_rfl)
def plV (a b : ByteArray) : Value := .agg #[.string a, .string b]
theorem keyPl (a b : ByteArray) (ha : a.size <= 9223372036854775807) (hb : b.size <= 9223372036854775807) : ∃ l, keyOf Tryz.prog 292 (plV a b) = some l := by
  have ha' : a.size <= maxLen := by unfold maxLen; omega
  have hb' : b.size <= maxLen := by unfold maxLen; omega
  have key : ∀ d, Tryz.prog.keyLits (d + 2) 292 [.string a, .string b] = some [.string a.data.toList, .string b.data.toList] := by
    intro d;unfold Program.keyLits
    rw [Tryz.underlying292];simp only [];rw [if_pos ⟨by kernel_rfl, by kernel_rfl⟩];have e1 : Tryz.prog.cellsOf 9 = 1 := tyCellsStr;simp [List.mapM_cons, Program.keyLits, Tryz.underlying9, ha', hb', e1]
  refine ⟨.string (keyBytes [.string a.data.toList, .string b.data.toList]), ?_⟩;unfold keyOf
  rw [Tryz.underlying292];simp only [];have hk : Tryz.prog.keyType 292 = true := by kernel_rfl
  have hf : (plV a b).formed Tryz.prog 292 = true := by
    unfold plV Value.formed
    rw [Tryz.underlying292];kernel_rfl
  have hs : Tryz.prog.types.size + 1 = (Tryz.prog.types.size - 1) + 2 := by
    have : 1 <= Tryz.prog.types.size := of_decide_eq_true (by kernel_rfl)
    omega
  rw [hk, hf, hs];have hc : (plV a b).cells.toList = [.string a, .string b] := rfl;rw [hc, key];rfl
def PlKeys (es : Array MapEntry) : Prop := ∀ e ∈ es.toList, ∃ x y : ByteArray, e.key = plV x y /\ x.size <= 9223372036854775807 /\ y.size <= 9223372036854775807
theorem PlKeys.keys {es : Array MapEntry} (h : PlKeys es) : ∀ e ∈ es.toList, ∃ l, keyOf Tryz.prog 292 e.key = some l := fun e he => by
  obtain ⟨x, y, hk, h1, h2⟩ := h e he;rw [hk]; exact keyPl x y h1 h2
theorem run_lookup_pl (w : World) {kb : Nat} {es : Array MapEntry} {clock : Nat} (hb : w.heap[kb]? = some (.map es clock)) (hK : PlKeys es) (a b : ByteArray) (ha : a.size <= 9223372036854775807) (hb2 : b.size <= 9223372036854775807)
    {z : Value} (hz : (zeroValue 252).run Tryz.prog w = .ok z w) :
    (Instr.lookup 222 (.map (some kb)) (plV a b) true).run Tryz.prog w = .ok (.tuple #[z, .bool false]) w \/
    ∃ e ∈ es.toList, e.key = plV a b /\ (Instr.lookup 222 (.map (some kb)) (plV a b) true).run Tryz.prog w = .ok (.tuple #[e.val, .bool true]) w := by
  obtain ⟨l, hl⟩ := keyPl a b ha hb2;have hu := Tryz.underlying222;rcases lawPlace.find w hl es.toList hK.keys with ⟨h1, -⟩ | ⟨j, e, h1, h2, h3⟩
  · exact .inl (by simp [Instr.lookup, run_underlying hu, MapKept.run_getObj_map hb, lawPlace.check w _ hl, h1, hz, Result.andThen])
  · exact .inr ⟨e, List.mem_of_getElem? h2, h3, by simp [Instr.lookup, run_underlying hu, MapKept.run_getObj_map hb, lawPlace.check w _ hl, h1, Result.andThen]⟩
theorem run_update_pl (w : World) {kb : Nat} {es : Array MapEntry} {clock : Nat} (hb : w.heap[kb]? = some (.map es clock)) (hK : PlKeys es) (a b : ByteArray) (ha : a.size <= 9223372036854775807) (hb2 : b.size <= 9223372036854775807) (v : Value) :
    ∃ es' clock', (Instr.mapUpdate 222 (.map (some kb)) (plV a b) v).run Tryz.prog w = .ok () (ChangeMaps.setBlock w kb (.map es' clock')) /\ ∀ e ∈ es'.toList, e ∈ es.toList \/ (e.key = plV a b /\ e.val = v) := by
  obtain ⟨l, hl⟩ := keyPl a b ha hb2;have hu := Tryz.underlying222;rcases lawPlace.find w hl es.toList hK.keys with ⟨h1, -⟩ | ⟨j, e0, h1, h2, h3⟩
  · refine ⟨es.push ⟨plV a b, v, clock⟩, clock + 1, ?_, fun e he => ?_⟩
    · simp [Instr.mapUpdate, run_underlying hu, MapKept.run_getObj_map hb, lawPlace.check w false hl, h1, MapKept.run_setObj_map _ hb, Result.andThen, ChangeMaps.setBlock]
    · rw [Array.toList_push] at he
      rcases List.mem_append.1 he with h | h
      · exact .inl h
      · rw [List.mem_singleton.1 h]; exact .inr ⟨rfl, rfl⟩
  · have h2' : es[j]? = some e0 := by rw [<- Array.getElem?_toList]; exact h2
    refine ⟨es.modify j fun e => { e with key := plV a b, val := v }, clock, ?_, fun e he => ?_⟩
    · simp [Instr.mapUpdate, run_underlying hu, MapKept.run_getObj_map hb, lawPlace.check w false hl, h1, h2', h3, lawPlace.stays w hl, MapKept.run_setObj_map _ hb, Result.andThen, ChangeMaps.setBlock]
    · obtain ⟨i, hi⟩ := List.mem_iff_getElem?.1 he
      rw [Array.getElem?_toList, Array.getElem?_modify] at hi;by_cases hj : j = i
      · rw [if_pos hj] at hi
        cases he2 : es[i]? with
        | none => rw [he2] at hi; cases hi
        | some y => rw [he2] at hi; simp at hi; rw [<- hi]; exact .inr ⟨rfl, rfl⟩
      · rw [if_neg hj] at hi
        exact .inl (List.mem_of_getElem? (by rw [Array.getElem?_toList]; exact hi))
section
variable {ops : Array Oper} {rest : List Oper} {o : Oper} {act : Act} {Q : Exit -> Act -> World -> Prop}
theorem wpList_lookup_pl (w : World) (hg : o.guard = none) (m x : Operand) (hop : o.op = Op.lookup 222 m x true) {kb : Nat} {es : Array MapEntry} {clock : Nat} (hb : w.heap[kb]? = some (.map es clock)) (hK : PlKeys es)
    (hm : act.eval m = .map (some kb)) (a b : ByteArray) (hx : act.eval x = plV a b) (ha : a.size <= 9223372036854775807) (hb2 : b.size <= 9223372036854775807) {z : Value} (hz : (zeroValue 252).run Tryz.prog w = .ok z w)
    (h0 : wpList Tryz.prog ops Q rest (act.put o.dst (.tuple #[z, .bool false])) w) (h1 : ∀ e ∈ es.toList, e.key = plV a b -> wpList Tryz.prog ops Q rest (act.put o.dst (.tuple #[e.val, .bool true])) w) :
    wpList Tryz.prog ops Q (o :: rest) act w := by
  refine wpList_plain hg fun K' hK' => ?_
  unfold Oper.wp
  rcases run_lookup_pl w hb hK a b ha hb2 hz with hrun | ⟨e, he, hk, hrun⟩
  · simp [execOp, hop, hm, hx, hrun, Result.andThen]
    exact hK' _ _ h0
  · simp [execOp, hop, hm, hx, hrun, Result.andThen]
    exact hK' _ _ (h1 e he hk)
theorem wpList_update_pl (w : World) (hg : o.guard = none) (m x v : Operand) (hop : o.op = Op.mapUpdate 222 m x v) {kb : Nat} {es : Array MapEntry} {clock : Nat} (hb : w.heap[kb]? = some (.map es clock)) (hK : PlKeys es)
    (hm : act.eval m = .map (some kb)) (a b : ByteArray) (val : Value) (hx : act.eval x = plV a b) (hv : act.eval v = val) (ha : a.size <= 9223372036854775807) (hb2 : b.size <= 9223372036854775807)
    (h : ∀ es' clock', (∀ e ∈ es'.toList, e ∈ es.toList \/ (e.key = plV a b /\ e.val = val)) -> wpList Tryz.prog ops Q rest (act.put o.dst undef) (ChangeMaps.setBlock w kb (.map es' clock'))) :
    wpList Tryz.prog ops Q (o :: rest) act w := by
  refine wpList_plain hg fun K' hK' => ?_
  obtain ⟨es', clock', hrun, hes⟩ := run_update_pl w hb hK a b ha hb2 val;unfold Oper.wp
  simp [execOp, hop, hm, hx, hv, hrun, Result.andThen];exact hK' _ _ (h es' clock' hes)
end
end Go.Proofs.YteecgiebimdbhaaGreatDoor
