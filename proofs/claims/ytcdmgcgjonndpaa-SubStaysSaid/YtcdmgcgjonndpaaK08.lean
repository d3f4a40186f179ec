/-
  Several texts in one:  ·  ·  ·  ·  ·  · 
-/
import Derived.Test.YtcdmgcgjonndpaaK04
import Derived.Test.YtcdmgcgjonndpaaK06
import Derived.Test.YtcdmgcgjonndpaaK07
import Derived.DeepKeys3
import Derived.Test.YtcdmgcgjonndpaaK03
/-  -/
namespace Go.Proofs.Ytcdmgcgjonndpaa
open Go.RowKit
open Go.Sort
open M
theorem sameL_no {a b : List Ty} (h : a ≠ b) : sameL a b = false := by
 rw [Bool.eq_false_iff, ne_eq, sameL_iff]; exact h
set_option maxRecDepth 100000 in
set_option maxHeartbeats 4000000 in
theorem equal_names (A : Option Addr) (c n : Nat) (l : List ByteArray) (A' : Option Addr) (c' n' : Nat) (l' : List ByteArray) (w : World) (hn : l.length = n) (hn' : l'.length = n') (hz : n ≤ 9223372036854775807) (hz' : n' ≤ 9223372036854775807) (hN : NamesAt w A l) (hN' : NamesAt w A' l') :
  Calls Try.prog 60 #[.slice A n c, .slice A' n' c'] w fun e w' => e = .returned (.bool (decide (l = l'))) ∧ Below w.heap.size w w' := by
 have HN := Lib.hid hN
 have HN' := Lib.hid hN'
 have HQ := Lib.hid hn
 have HQ' := Lib.hid hn'
 clear hN hN' hn hn'
 by_cases hqq : n = n'
 rotate_left
 ·have R : Hid (decide (l = l') = false) := Lib.hid (by
   have h1 := HQ.out
   have h2 := HQ'.out
   simp
   intro e; subst e; omega)
  have f1 : (((n : Nat) : Int) == ((n' : Nat) : Int)) = false := by simp; omega
  have f2 : (((n : Nat) : Int) != ((n' : Nat) : Int)) = true := by simp; omega
  rw [R.out]
  clear hqq
  as_aux_lemma =>
  go_enter Try.func60, Try.ntmps60
  go_wp2_with fail
  go_ret
  exact ⟨rfl, Below.refl _ _⟩
 subst hqq
 go_enter Try.func60, Try.ntmps60
 go_wp2_with fail
 go_loopw [13] (fun i wr => ∃ k : Nat, k ≤ n ∧ i = .int .i64 k ∧ Hid (∀ j x y, j < k → l[j]? = some x → l'[j]? = some y → x = y) ∧ Below w.heap.size w wr) (fun i _ => n - (intOf i).toNat)
 case atStart => exact ⟨0, by omega, rfl, Lib.hid (fun j x y h => by omega), Below.refl _ _⟩
 case round =>
  obtain ⟨k, hk, rfl, HP, hb⟩ := hrel
  obtain ⟨wo, rfl⟩ : ∃ wo : World, wo = wr := ⟨_, rfl⟩
  by_cases hlt : k < n
  ·obtain ⟨x, hx⟩ : ∃ x, l[k]? = some x := ⟨_, List.getElem?_eq_getElem (by rw [HQ.out]; exact hlt)⟩
   obtain ⟨y, hy⟩ : ∃ y, l'[k]? = some y := ⟨_, List.getElem?_eq_getElem (by rw [HQ'.out]; exact hlt)⟩
   obtain ⟨g, o, rfl, hg, hc, -⟩ := HN.out.below hb k x hx
   obtain ⟨g', o', rfl, hg', hc', -⟩ := HN'.out.below hb k y hy
   have HX := Lib.hid hx
   have HY := Lib.hid hy
   clear hx hy
   by_cases hxy : x = y
   ·have f1 : (x.toList == y.toList) = true := by rw [hxy]; simp
    have f2 : (!(x.toList == y.toList)) = false := by rw [f1]; rfl
    have HXY := Lib.hid hxy
    clear hxy
    go_wp2_with fail
    go_quiet (fail)
    go_wp2_with fail
    go_roundw
    case rel => exact ⟨k + 1, by omega, by go_num, Lib.hid (fun j a b hj ha hb => by
     rcases Nat.lt_or_ge j k with e | e
     ·exact HP.out j a b e ha hb
     ·rw [show j = k by omega, HX.out] at ha
      rw [show j = k by omega, HY.out] at hb
      obtain rfl := Option.some.inj ha
      obtain rfl := Option.some.inj hb
      exact HXY.out), below_drewN hb _⟩
    case measure => simp [intOf]; omega
   ·have f1 : (x.toList == y.toList) = false := by
     rw [beq_eq_false_iff_ne, ne_eq, Lib.toList_data, Lib.toList_data, bytes_list]
     exact hxy
    have f2 : (!(x.toList == y.toList)) = true := by rw [f1]; rfl
    have f3 : ¬ x.toList = y.toList := by simpa using f1
    have R : Hid (decide (l = l') = false) := Lib.hid (by
     simp
     intro e; subst e
     have a := HX.out
     rw [HY.out] at a
     exact hxy (Option.some.inj a).symm)
    clear hxy
    go_wp2_with fail
    go_quiet (fail)
    go_wp2_with fail
    go_ret
    exact ⟨ret_bool R.out, below_drewN hb _⟩
  ·have R : Hid (decide (l = l') = true) := Lib.hid (by
    simp
    exact list_ext' (by rw [HQ.out, HQ'.out]) (fun i x y hx hy => HP.out i x y (by
     have := (List.getElem?_eq_some_iff.1 hx).1
     rw [HQ.out] at this; omega) hx hy))
   go_wp2_with fail
   go_ret
   exact ⟨ret_bool R.out, hb⟩
set_option maxRecDepth 100000 in
set_option maxHeartbeats 4000000 in
theorem equal_alike (A : Option Addr) (c n : Nat) (l : List Ty) (A' : Option Addr) (c' n' : Nat) (l' : List Ty) (w : World) (hn : l.length = n) (hn' : l'.length = n') (hz : n ≤ 9223372036854775807) (hz' : n' ≤ 9223372036854775807) (hS : SubsAt w A l) (hS' : SubsAt w A' l')
  (IH : ∀ s, s ∈ l → ∀ (q : Ty) (v v' : Value) (w : World), TyV w v s → TyV w v' q → Calls Try.prog 48 #[v, v'] w fun e w' => e = .returned (.bool (sameT s q)) ∧ Below w.heap.size w w') :
  Calls Try.prog 61 #[.slice A n c, .slice A' n' c', .func (.func 48) #[] #[]] w fun e w' => e = .returned (.bool (sameL l l')) ∧ Below w.heap.size w w' := by
 have HN := Lib.hid hS
 have HN' := Lib.hid hS'
 have HQ := Lib.hid hn
 have HQ' := Lib.hid hn'
 have HIH := Lib.hid IH
 clear hS hS' hn hn' IH
 by_cases hqq : n = n'
 rotate_left
 ·have R : Hid (sameL l l' = false) := Lib.hid (by
   have h1 := HQ.out
   have h2 := HQ'.out
   exact sameL_no (fun e => by subst e; omega))
  have f1 : (((n : Nat) : Int) == ((n' : Nat) : Int)) = false := by simp; omega
  have f2 : (((n : Nat) : Int) != ((n' : Nat) : Int)) = true := by simp; omega
  rw [R.out]
  clear hqq
  as_aux_lemma =>
  go_enter Try.func61, Try.ntmps61
  go_wp2_with fail
  go_ret
  exact ⟨rfl, Below.refl _ _⟩
 subst hqq
 go_enter Try.func61, Try.ntmps61
 go_wp2_with fail
 go_loopw [17] (fun i wr => ∃ k : Nat, k ≤ n ∧ i = .int .i64 k ∧ Hid (∀ j x y, j < k → l[j]? = some x → l'[j]? = some y → x = y) ∧ Hid (Below w.heap.size w wr)) (fun i _ => n - (intOf i).toNat)
 case atStart => exact ⟨0, by omega, rfl, Lib.hid (fun j x y h => by omega), Lib.hid (Below.refl _ _)⟩
 case round =>
  obtain ⟨k, hk, rfl, HP, HB⟩ := hrel
  obtain ⟨wo, rfl⟩ : ∃ wo : World, wo = wr := ⟨_, rfl⟩
  by_cases hlt : k < n
  ·obtain ⟨x, hx⟩ : ∃ x, l[k]? = some x := ⟨_, List.getElem?_eq_getElem (by rw [HQ.out]; exact hlt)⟩
   obtain ⟨y, hy⟩ : ∃ y, l'[k]? = some y := ⟨_, List.getElem?_eq_getElem (by rw [HQ'.out]; exact hlt)⟩
   obtain ⟨g, o, v0, v1, v2, v3, v4, v5, v6, rfl, hg, h0, h1, h2, h3, h4, h5, h6, hs7⟩ := HN.out.below HB.out k x hx
   obtain ⟨g', o', z0, z1, z2, z3, z4, z5, z6, rfl, hg', e0, e1, e2, e3, e4, e5, e6, ht7⟩ := HN'.out.below HB.out k y hy
   obtain ⟨Am, cm, At, ct, rfl, rfl, rfl, rfl, rfl, rfl, rfl⟩ := hs7.seven
   obtain ⟨Bm, dm, Bt, dt, rfl, rfl, rfl, rfl, rfl, rfl, rfl⟩ := ht7.seven
   have IHs := Lib.hid (fun w' (hw : Below wo.heap.size wo w') => HIH.out x (List.mem_of_getElem? hx) y _ _ w' (TyV.below ⟨_, rfl, hs7⟩ hw) (TyV.below ⟨_, rfl, ht7⟩ hw))
   have HX := Lib.hid hx
   have HY := Lib.hid hy
   clear hx hy hs7 ht7
   rcases hid_or (sameT x y) with hxy | hxy
   ·have R : Hid (sameL l l' = false) := Lib.hid (sameL_no (fun e => by
     subst e
     have a := HX.out
     rw [HY.out] at a
     have b := hxy.out
     rw [Option.some.inj a] at b
     rw [(sameT_iff x x).2 rfl] at b
     cases b))
    go_wp2_with fail
    refine (IHs.out _ (below_new (below_new (Below.refl _ _) _) _)).mono ?_; rintro e w5 ⟨rfl, hb5⟩; rw [hxy.out]
    have HB5 := Lib.hid ((below_new (below_new HB.out _) _).trans (hb5.mono (by have := HB.out.size; simp; omega)))
    clear h0 h1 h2 h3 h4 h5 h6 e0 e1 e2 e3 e4 e5 e6 hb5 IHs
    go_wp2_with fail
    go_ret
    exact ⟨ret_bool R.out, HB5.out⟩
   ·go_wp2_with fail
    refine (IHs.out _ (below_new (below_new (Below.refl _ _) _) _)).mono ?_; rintro e w5 ⟨rfl, hb5⟩; rw [hxy.out]
    have HB5 := Lib.hid ((below_new (below_new HB.out _) _).trans (hb5.mono (by have := HB.out.size; simp; omega)))
    clear h0 h1 h2 h3 h4 h5 h6 e0 e1 e2 e3 e4 e5 e6 hb5 IHs
    go_wp2_with fail
    go_roundw
    case rel => exact ⟨k + 1, by omega, by go_num, Lib.hid (fun j a b hj ha hb => by
     rcases Nat.lt_or_ge j k with e | e
     ·exact HP.out j a b e ha hb
     ·rw [show j = k by omega, HX.out] at ha
      rw [show j = k by omega, HY.out] at hb
      obtain rfl := Option.some.inj ha
      obtain rfl := Option.some.inj hb
      exact (sameT_iff _ _).1 hxy.out), HB5⟩
    case measure => simp [intOf]; omega
  ·have R : Hid (sameL l l' = true) := Lib.hid (by
    rw [sameL_iff]
    exact list_ext' (by rw [HQ.out, HQ'.out]) (fun i x y hx hy => HP.out i x y (by
     have := (List.getElem?_eq_some_iff.1 hx).1
     rw [HQ.out] at this; omega) hx hy))
   go_wp2_with fail
   go_ret
   exact ⟨ret_bool R.out, HB.out⟩
set_option maxRecDepth 100000 in
set_option maxHeartbeats 8000000 in
theorem alike_any (N : Nat) : ∀ (a b : Ty), many a ≤ N → ∀ (v v' : Value) (w : World), TyV w v a → TyV w v' b →
  Calls Try.prog 48 #[v, v'] w fun e w' => e = .returned (.bool (sameT a b)) ∧ Below w.heap.size w w' := by
 induction N with
 | zero => intro a b h; have := many_pos a; omega
 | succ N ih =>
 intro a b hN v v' w hv hv'
 have HIH := Lib.hid (fun s (hs : s ∈ a.subs) (q : Ty) (v v' : Value) (w : World) (hv : TyV w v s) (hv' : TyV w v' q) => ih s q (by have := manyL_mem a.subs s hs; have := manyL_eq a; omega) v v' w hv hv')
 clear ih hN
 obtain ⟨l, rfl, hT⟩ := hv
 obtain ⟨An, cn, As, cs, rfl, -, -, -, hzn, hz, hNA, hS⟩ := hT.parts
 obtain ⟨l', rfl, hT'⟩ := hv'
 obtain ⟨Bn, cn', Bs, cs', rfl, -, -, -, hzn', hz', hNB, hS'⟩ := hT'.parts
 clear hT hT'
 obtain ⟨k, p, m, d, n, ns, ss⟩ := a
 obtain ⟨k', p', m', d', n', ns', ss'⟩ := b
 simp only [Ty.kind, Ty.pkg, Ty.major, Ty.mod, Ty.name, Ty.names, Ty.subs] at *
 have HNA := Lib.hid hNA
 have HNB := Lib.hid hNB
 have HSA := Lib.hid hS
 have HSB := Lib.hid hS'
 clear hNA hNB hS hS'
 generalize hq : ns.length = q at hzn
 generalize hq' : ns'.length = q' at hzn'
 generalize hr : ss.length = r at hz
 generalize hr' : ss'.length = r' at hz'
 have HQ := Lib.hid hq
 have HQ' := Lib.hid hq'
 have HR := Lib.hid hr
 have HR' := Lib.hid hr'
 clear hq hq' hr hr'
 by_cases h1 : k = k'
 rotate_left
 ·have R : Hid (sameT (.mk k p m d n ns ss) (.mk k' p' m' d' n' ns' ss') = false) := Lib.hid (sameT_no (fun e => by injection e with e1 e2 e3 e4 e5 e6 e7; exact h1 e1))
  rw [R.out]
  have f1 : (k == k') = false := by simpa using h1
  clear h1
  as_aux_lemma =>
  go_enter Try.func48, Try.ntmps48
  go_wp2_with fail
  go_ret
  exact ⟨rfl, below_new (below_new (Below.refl _ _) _) _⟩
 subst h1
 by_cases h2 : p = p'
 rotate_left
 ·have R : Hid (sameT (.mk k p m d n ns ss) (.mk k p' m' d' n' ns' ss') = false) := Lib.hid (sameT_no (fun e => by injection e with e1 e2 e3 e4 e5 e6 e7; exact h2 e2))
  rw [R.out]
  have f1 : (p.toList == p'.toList) = false := by
   rw [beq_eq_false_iff_ne, ne_eq, Lib.toList_data, Lib.toList_data, bytes_list]
   exact h2
  have f3 : ¬ p.toList = p'.toList := by simpa using f1
  clear h2
  as_aux_lemma =>
  go_enter Try.func48, Try.ntmps48
  go_wp2_with fail
  go_ret
  exact ⟨rfl, below_new (below_new (Below.refl _ _) _) _⟩
 subst h2
 by_cases h3 : m = m'
 rotate_left
 ·have R : Hid (sameT (.mk k p m d n ns ss) (.mk k p m' d' n' ns' ss') = false) := Lib.hid (sameT_no (fun e => by injection e with e1 e2 e3 e4 e5 e6 e7; exact h3 e3))
  rw [R.out]
  have f1 : (m == m') = false := by simpa using h3
  clear h3
  as_aux_lemma =>
  go_enter Try.func48, Try.ntmps48
  go_wp2_with fail
  go_ret
  exact ⟨rfl, below_new (below_new (Below.refl _ _) _) _⟩
 subst h3
 by_cases h4 : d = d'
 rotate_left
 ·have R : Hid (sameT (.mk k p m d n ns ss) (.mk k p m d' n' ns' ss') = false) := Lib.hid (sameT_no (fun e => by injection e with e1 e2 e3 e4 e5 e6 e7; exact h4 e4))
  rw [R.out]
  have f1 : (d.toList == d'.toList) = false := by
   rw [beq_eq_false_iff_ne, ne_eq, Lib.toList_data, Lib.toList_data, bytes_list]
   exact h4
  have f3 : ¬ d.toList = d'.toList := by simpa using f1
  clear h4
  as_aux_lemma =>
  go_enter Try.func48, Try.ntmps48
  go_wp2_with fail
  go_ret
  exact ⟨rfl, below_new (below_new (Below.refl _ _) _) _⟩
 subst h4
 by_cases h5 : n = n'
 rotate_left
 ·have R : Hid (sameT (.mk k p m d n ns ss) (.mk k p m d n' ns' ss') = false) := Lib.hid (sameT_no (fun e => by injection e with e1 e2 e3 e4 e5 e6 e7; exact h5 e5))
  rw [R.out]
  have f1 : (n.toList == n'.toList) = false := by
   rw [beq_eq_false_iff_ne, ne_eq, Lib.toList_data, Lib.toList_data, bytes_list]
   exact h5
  have f3 : ¬ n.toList = n'.toList := by simpa using f1
  clear h5
  as_aux_lemma =>
  go_enter Try.func48, Try.ntmps48
  go_wp2_with fail
  go_ret
  exact ⟨rfl, below_new (below_new (Below.refl _ _) _) _⟩
 subst h5
 have HBX := Lib.hid (below_new (below_new (Below.refl _ w) (.cells #[.int .i64 k, .string p, .int .i64 m, .string d, .string n, .slice An q cn, .slice As r cs] 25)) (.cells #[.int .i64 k, .string p, .int .i64 m, .string d, .string n, .slice Bn q' cn', .slice Bs r' cs'] 25))
 rcases hid_or (decide (ns = ns')) with hnn | hnn
 ·have R : Hid (sameT (.mk k p m d n ns ss) (.mk k p m d n ns' ss') = false) := Lib.hid (sameT_no (fun e => by injection e with e1 e2 e3 e4 e5 e6 e7; have := hnn.out; simp at this; exact this e6))
  rw [R.out]
  as_aux_lemma =>
  go_enter Try.func48, Try.ntmps48
  go_wp2_with fail
  refine (equal_names An cn q ns Bn cn' q' ns' _ HQ.out HQ'.out hzn hzn' (HNA.out.below HBX.out) (HNB.out.below HBX.out)).mono ?_; rintro e w5 ⟨rfl, hb5⟩; rw [hnn.out]
  go_wp2_with fail
  go_ret
  exact ⟨rfl, HBX.out.trans (hb5.mono HBX.out.size)⟩
 ·have R : Hid (sameT (.mk k p m d n ns ss) (.mk k p m d n ns' ss') = sameL ss ss') := Lib.hid (by
   have h := hnn.out
   simp at h
   subst h
   unfold sameT; simp)
  rw [R.out]
  as_aux_lemma =>
  go_enter Try.func48, Try.ntmps48
  go_wp2_with fail
  refine (equal_names An cn q ns Bn cn' q' ns' _ HQ.out HQ'.out hzn hzn' (HNA.out.below HBX.out) (HNB.out.below HBX.out)).mono ?_; rintro e w5 ⟨rfl, hb5⟩; rw [hnn.out]
  have HB5 := Lib.hid (HBX.out.trans (hb5.mono HBX.out.size))
  obtain ⟨hc5, hf5⟩ := bcell hb5
  have hz5 : w.heap.size + 1 + 1 ≤ w5.heap.size := by have := hb5.size; simpa using this
  have b6 : w5.cell? ⟨w.heap.size, 6, none⟩ = some (.slice As r cs) := by rw [hc5 _ _ (by simp; omega)]; go_simp
  have d6 : w5.cell? ⟨w.heap.size + 1, 6, none⟩ = some (.slice Bs r' cs') := by rw [hc5 _ _ (by simp)]; go_simp
  clear hb5 hc5 hf5
  go_wp2_with fail
  refine (equal_alike As cs r ss Bs cs' r' ss' _ HR.out HR'.out hz hz' (HSA.out.below HB5.out) (HSB.out.below HB5.out) HIH.out).mono ?_; rintro e w6 ⟨rfl, hb6⟩
  go_wp2_with fail
  go_ret
  exact ⟨rfl, HB5.out.trans (hb6.mono HB5.out.size)⟩
set_option maxRecDepth 100000 in
set_option maxHeartbeats 4000000 in
theorem sameK_any (a b : Ty) (v v' : Value) (w : World) (hv : TyV w v a) (hv' : TyV w v' b) :
  Calls Try.prog 38 #[v, v'] w fun e w' => e = .returned (.bool (mayT a && mayT b && sameT a b)) ∧ Below w.heap.size w w' := by
 have HV := Lib.hid hv
 have HV' := Lib.hid hv'
 obtain ⟨l, rfl, hT⟩ := hv
 obtain ⟨An, cn, As, cs, rfl, -, -, -, hzn, hz, -, -⟩ := hT.parts
 obtain ⟨l', rfl, hT'⟩ := hv'
 obtain ⟨Bn, cn', Bs, cs', rfl, -, -, -, hzn', hz', -, -⟩ := hT'.parts
 clear hT hT'
 have HBX := Lib.hid (below_new (below_new (Below.refl _ w) (.cells #[.int .i64 a.kind, .string a.pkg, .int .i64 a.major, .string a.mod, .string a.name, .slice An a.names.length cn, .slice As a.subs.length cs] 25)) (.cells #[.int .i64 b.kind, .string b.pkg, .int .i64 b.major, .string b.mod, .string b.name, .slice Bn b.names.length cn', .slice Bs b.subs.length cs'] 25))
 have FIRST : ∀ w5, Below ((w.alloc (.cells #[.int .i64 a.kind, .string a.pkg, .int .i64 a.major, .string a.mod, .string a.name, .slice An a.names.length cn, .slice As a.subs.length cs] 25)).alloc (.cells #[.int .i64 b.kind, .string b.pkg, .int .i64 b.major, .string b.mod, .string b.name, .slice Bn b.names.length cn', .slice Bs b.subs.length cs'] 25)).heap.size ((w.alloc (.cells #[.int .i64 a.kind, .string a.pkg, .int .i64 a.major, .string a.mod, .string a.name, .slice An a.names.length cn, .slice As a.subs.length cs] 25)).alloc (.cells #[.int .i64 b.kind, .string b.pkg, .int .i64 b.major, .string b.mod, .string b.name, .slice Bn b.names.length cn', .slice Bs b.subs.length cs'] 25)) w5 →
   (∀ i v, (#[.int .i64 a.kind, .string a.pkg, .int .i64 a.major, .string a.mod, .string a.name, .slice An a.names.length cn, .slice As a.subs.length cs] : Array Value)[i]? = some v → w5.cell? ⟨w.heap.size, i, none⟩ = some v) ∧
   (∀ i v, (#[.int .i64 b.kind, .string b.pkg, .int .i64 b.major, .string b.mod, .string b.name, .slice Bn b.names.length cn', .slice Bs b.subs.length cs'] : Array Value)[i]? = some v → w5.cell? ⟨w.heap.size + 1, i, none⟩ = some v) := fun w5 hb => by
  constructor
  ·intro i v hv
   rw [(bcell hb).1 _ _ (by simp; omega), Lib.cell_of_heap (cs := #[.int .i64 a.kind, .string a.pkg, .int .i64 a.major, .string a.mod, .string a.name, .slice An a.names.length cn, .slice As a.subs.length cs]) (T := 25) (fr := (0, 0))]
   ·exact hv
   ·rw [Lib.alloc_old _ _ _ (by simp)]; exact heap_alloc_new _ _
  ·intro i v hv
   rw [(bcell hb).1 _ _ (by simp), Lib.cell_of_heap (cs := #[.int .i64 b.kind, .string b.pkg, .int .i64 b.major, .string b.mod, .string b.name, .slice Bn b.names.length cn', .slice Bs b.subs.length cs']) (T := 25) (fr := (0, 0))]
   ·exact hv
   ·have e : w.heap.size + 1 = (w.alloc (.cells #[.int .i64 a.kind, .string a.pkg, .int .i64 a.major, .string a.mod, .string a.name, .slice An a.names.length cn, .slice As a.subs.length cs] 25)).heap.size := by simp
    rw [e]; exact heap_alloc_new _ _
 have HFI := Lib.hid FIRST
 clear FIRST
 go_enter Try.func38, Try.ntmps38
 rcases hid_or (mayT a) with ha | ha
 ·have R : Hid ((mayT a && mayT b && sameT a b) = false) := Lib.hid (by rw [ha.out]; rfl)
  go_wp2_with fail
  refine (mayK_any a _ _ (HV.out.below HBX.out)).mono ?_; rintro e w5 ⟨rfl, hb5⟩; rw [ha.out]
  have HB5 := Lib.hid (HBX.out.trans (hb5.mono HBX.out.size))
  clear hb5
  go_wp2_with fail
  go_ret
  exact ⟨ret_bool R.out, HB5.out⟩
 go_wp2_with fail
 refine (mayK_any a _ _ (HV.out.below HBX.out)).mono ?_; rintro e w5 ⟨rfl, hb5⟩; rw [ha.out]
 obtain ⟨FA, FB⟩ := HFI.out w5 hb5
 have HB5 := Lib.hid (HBX.out.trans (hb5.mono HBX.out.size))
 have hz5 : w.heap.size + 1 + 1 ≤ w5.heap.size := by have := hb5.size; simpa using this
 have a0 := FA 0 _ rfl
 have a1 := FA 1 _ rfl
 have a2 := FA 2 _ rfl
 have a3 := FA 3 _ rfl
 have a4 := FA 4 _ rfl
 have a5 := FA 5 _ rfl
 have a6 := FA 6 _ rfl
 have b0 := FB 0 _ rfl
 have b1 := FB 1 _ rfl
 have b2 := FB 2 _ rfl
 have b3 := FB 3 _ rfl
 have b4 := FB 4 _ rfl
 have b5 := FB 5 _ rfl
 have b6 := FB 6 _ rfl
 have HFA := Lib.hid FA
 have HFB := Lib.hid FB
 clear hb5 FA FB
 rcases hid_or (mayT b) with hb | hb
 ·have R : Hid ((mayT a && mayT b && sameT a b) = false) := Lib.hid (by rw [ha.out, hb.out]; rfl)
  go_wp2_with fail
  refine (mayK_any b _ _ (HV'.out.below HB5.out)).mono ?_; rintro e w6 ⟨rfl, hb6⟩; rw [hb.out]
  have HB6 := Lib.hid (HB5.out.trans (hb6.mono HB5.out.size))
  clear hb6
  go_wp2_with fail
  go_ret
  exact ⟨ret_bool R.out, HB6.out⟩
 have R : Hid ((mayT a && mayT b && sameT a b) = sameT a b) := Lib.hid (by rw [ha.out, hb.out]; rfl)
 go_wp2_with fail
 refine (mayK_any b _ _ (HV'.out.below HB5.out)).mono ?_; rintro e w6 ⟨rfl, hb6⟩; rw [hb.out]
 have HB6 := Lib.hid (HB5.out.trans (hb6.mono HB5.out.size))
 have tr : ∀ j i v, j < w5.heap.size → w5.cell? ⟨j, i, none⟩ = some v → w6.cell? ⟨j, i, none⟩ = some v := fun j i v hj hv => (hb6.cell (p := ⟨j, i, none⟩) hj).trans hv
 have a0' := tr _ _ _ (by omega) a0
 have a1' := tr _ _ _ (by omega) a1
 have a2' := tr _ _ _ (by omega) a2
 have a3' := tr _ _ _ (by omega) a3
 have a4' := tr _ _ _ (by omega) a4
 have a5' := tr _ _ _ (by omega) a5
 have a6' := tr _ _ _ (by omega) a6
 have b0' := tr _ _ _ (by omega) b0
 have b1' := tr _ _ _ (by omega) b1
 have b2' := tr _ _ _ (by omega) b2
 have b3' := tr _ _ _ (by omega) b3
 have b4' := tr _ _ _ (by omega) b4
 have b5' := tr _ _ _ (by omega) b5
 have b6' := tr _ _ _ (by omega) b6
 clear a0 a1 a2 a3 a4 a5 a6 b0 b1 b2 b3 b4 b5 b6 tr hb6
 go_wp2_with fail
 refine (alike_any _ a b (Nat.le_refl _) _ _ _ (HV.out.below HB6.out) (HV'.out.below HB6.out)).mono ?_; rintro e w7 ⟨rfl, hb7⟩
 go_wp2_with fail
 go_ret
 exact ⟨ret_bool R.out, HB6.out.trans (hb7.mono HB6.out.size)⟩
set_option maxRecDepth 100000 in
set_option maxHeartbeats 4000000 in
theorem plainK_any (t : Ty) (v : Value) (w : World) (hv : TyV w v t) :
  Calls Try.prog 23 #[v] w fun e w' => e = .returned (.bool (mayT t && plainT t)) ∧ Below w.heap.size w w' := by
 have HV := Lib.hid hv
 obtain ⟨l, rfl, hT⟩ := hv
 obtain ⟨An, cn, As, cs, rfl, -, -, -, hzn, hz, -, -⟩ := hT.parts
 clear hT
 have HB0 := Lib.hid (below_new (Below.refl _ w) (.cells #[.int .i64 t.kind, .string t.pkg, .int .i64 t.major, .string t.mod, .string t.name, .slice An t.names.length cn, .slice As t.subs.length cs] 25))
 rcases hid_or (mayT t) with ha | ha
 ·have R : Hid ((mayT t && plainT t) = false) := Lib.hid (by rw [ha.out]; rfl)
  rw [R.out]
  go_enter Try.func23, Try.ntmps23
  go_wp2_with fail
  refine (mayK_any t _ _ (HV.out.below HB0.out)).mono ?_; rintro e w5 ⟨rfl, hb5⟩; rw [ha.out]
  go_wp2_with fail
  go_ret
  exact ⟨rfl, HB0.out.trans (hb5.mono HB0.out.size)⟩
 ·have R : Hid ((mayT t && plainT t) = plainT t) := Lib.hid (by rw [ha.out]; rfl)
  rw [R.out]
  go_enter Try.func23, Try.ntmps23
  go_wp2_with fail
  refine (mayK_any t _ _ (HV.out.below HB0.out)).mono ?_; rintro e w5 ⟨rfl, hb5⟩; rw [ha.out]
  have hb5' : Below (boxed w #[.int .i64 t.kind, .string t.pkg, .int .i64 t.major, .string t.mod, .string t.name, .slice An t.names.length cn, .slice As t.subs.length cs]).heap.size (boxed w #[.int .i64 t.kind, .string t.pkg, .int .i64 t.major, .string t.mod, .string t.name, .slice An t.names.length cn, .slice As t.subs.length cs]) w5 := hb5
  have HB5 := Lib.hid (box_below hb5')
  have c0 := box_cell hb5' 0; have c1 := box_cell hb5' 1; have c2 := box_cell hb5' 2; have c3 := box_cell hb5' 3; have c4 := box_cell hb5' 4; have c5 := box_cell hb5' 5; have c6 := box_cell hb5' 6
  simp at c0 c1 c2 c3 c4 c5 c6
  clear hb5 hb5'
  go_wp2_with fail
  refine (local_any _ t (Nat.le_refl _) _ _ (HV.out.below HB5.out)).mono ?_; rintro e w6 ⟨rfl, hb6⟩
  go_wp2_with fail
  go_ret
  exact ⟨ret_bool (by simp), HB5.out.trans (hb6.mono HB5.out.size)⟩
end Go.Proofs.Ytcdmgcgjonndpaa

/-  -/
namespace Go.Proofs.Ytcdmgcgjonndpaa
open Go Go.RowKit Go.Shelf
open Go.Sort Go.Maps
open M
end Go.Proofs.Ytcdmgcgjonndpaa

/-  -/
namespace Go.Proofs.Ytcdmgcgjonndpaa
open Go Go.RowKit Go.Shelf
open Go.Sort Go.Maps
open M
section
variable {ops : Array Oper} {rest : List Oper} {o : Oper} {act : Act} {Q : Exit → Act → World → Prop}
end
end Go.Proofs.Ytcdmgcgjonndpaa

/-  -/
namespace Go.Proofs.Ytcdmgcgjonndpaa
open Go Go.RowKit Go.Shelf
open Go.Sort Go.Maps
open M
section
variable {ops : Array Oper} {rest : List Oper} {o : Oper} {act : Act} {Q : Exit → Act → World → Prop}
end
theorem row_grown {w w' : World} {r : Option Nat} (h : w.grownBy w' r) {b : Nat} (hb : w.heap.size ≤ b) (vs : Array Value) : w.grownBy (w'.setRow b vs) r :=
  ⟨h.os, h.tape, h.output, by rw [size_setRow]; exact h.size, fun k hk hne => (setRow_other _ _ _ _ (by omega)).trans (h.block k hk hne)⟩
end Go.Proofs.Ytcdmgcgjonndpaa

/-  -/
namespace Go.Proofs.Ytcdmgcgjonndpaa
open Go Go.RowKit Go.Shelf
open Go.Sort Go.Maps
open M
theorem below_grow {w0 w w' : World} {kb : Nat} (h : Below w0.heap.size w0 w) (hg : w.grownBy w' (some kb)) (hk : w0.heap.size ≤ kb) : Below w0.heap.size w0 w' :=
  ⟨hg.os.trans h.os, hg.tape.trans h.tape, hg.output.trans h.output, Nat.le_trans h.size hg.size, fun b hb => (hg.block b (Nat.lt_of_lt_of_le hb h.size) (fun e => by cases e; omega)).trans (h.block b hb)⟩
end Go.Proofs.Ytcdmgcgjonndpaa

/-  -/
namespace Go.Proofs.Ytcdmgcgjonndpaa
open Go Go.RowKit Go.Shelf
open Go.Sort Go.Maps
open M
end Go.Proofs.Ytcdmgcgjonndpaa

/-  -/
namespace Go.Proofs.Ytcdmgcgjonndpaa
open Go Go.RowKit Go.Shelf
open Go.Sort Go.Maps
open M
abbrev cpO (L : Int) (mv : Value) : Obj := .cells #[.int .i64 L, mv] 47 (0, 0)
mutual
def fitT : Ty → Prop
  | .mk _ p _ d n ns ss => (p.size ≤ 281474976710656 ∧ d.size ≤ 281474976710656 ∧ n.size ≤ 281474976710656 ∧ ns.length ≤ 200 ∧ ∀ s ∈ ns, s.size ≤ 281474976710656) ∧ fitL ss
def fitL : List Ty → Prop
  | [] => True
  | t :: r => fitT t ∧ fitL r
end
theorem fitL_mem : ∀ l : List Ty, fitL l ↔ ∀ t ∈ l, fitT t
  | [] => by simp [fitL]
  | t :: r => by simp [fitL, fitL_mem r]
theorem fitT_own {t : Ty} (h : fitT t) : (t.pkg.size ≤ 281474976710656 ∧ t.mod.size ≤ 281474976710656 ∧ t.name.size ≤ 281474976710656 ∧ t.names.length ≤ 200 ∧ ∀ s ∈ t.names, s.size ≤ 281474976710656) ∧ ∀ s ∈ t.subs, fitT s := by
  cases t with
  | mk k p m d n ns ss =>
    unfold fitT at h
    exact ⟨h.1, (fitL_mem ss).1 h.2⟩
def leftAt (L : Int) (ss : List Ty) (i : Nat) : Int := L - ss.length - manyL (ss.take i) + i
theorem manyL_drop : ∀ (l : List Ty) (i : Nat), manyL l = manyL (l.take i) + manyL (l.drop i)
  | [], i => by simp [manyL]
  | a :: r, 0 => by simp [manyL]
  | a :: r, i + 1 => by
    have := manyL_drop r i
    simp only [List.take_succ_cons, List.drop_succ_cons, manyL]
    omega
theorem left_many {L : Int} {ss : List Ty} {i : Nat} {s : Ty} (hs : ss[i]? = some s) (hL : (manyL ss : Int) + 1 ≤ L) : (many s : Int) ≤ leftAt L ss i ∧ leftAt L ss i ≤ L := by
  have hi := (List.getElem?_eq_some_iff.1 hs).1
  have h1 := manyL_drop ss i
  have h2 := manyL_take ss i s hs
  have h3 := manyL_drop ss (i + 1)
  have h4 := manyL_len (ss.drop (i + 1))
  rw [List.length_drop] at h4
  have h5 := manyL_len (ss.take i)
  rw [List.length_take] at h5
  unfold leftAt
  omega
theorem left_zero (L : Int) (ss : List Ty) : leftAt L ss 0 = L - ss.length := by unfold leftAt; simp [manyL]
theorem left_end (L : Int) (ss : List Ty) : leftAt L ss ss.length = L - manyL ss := by unfold leftAt; rw [List.take_length]; omega
theorem left_step {L : Int} {ss : List Ty} {i : Nat} {s : Ty} (hs : ss[i]? = some s) : leftAt L ss i - (many s - 1) = leftAt L ss (i + 1) := by
  have h2 := manyL_take ss i s hs
  unfold leftAt
  omega
theorem grown_put {w w' : World} {r : Option Nat} (h : w.grownBy w' r) {g : Nat} (hg : w.heap.size ≤ g) (o : Nat) (l : List Value) : w.grownBy (w'.setCells g o l) r := by
  have hb : Below w'.heap.size w' w' := Below.refl _ _
  refine ⟨?_, ?_, ?_, by rw [size_setCells]; exact h.size, fun b hb hne => ?_⟩
  · rw [World.os_setCells]; exact h.os
  · exact (setCells_below (n := 0) (Below.refl 0 w') (Nat.zero_le g) o l).tape.trans h.tape
  · rw [World.output_setCells]; exact h.output
  · rw [World.heap_setCells_other w' g o l (Nat.lt_of_lt_of_le hb h.size) (by omega)]
    exact h.block b hb hne
set_option maxRecDepth 100000 in
set_option maxHeartbeats 8000000 in
theorem listT_any (w0 w : World) (kb : Nat) (A : Option Addr) (n c : Nat) (ss : List Ty) (O : Nat → Obj) (hn : ss.length = n) (hz : n ≤ 1000000) (hS : SubsAt w0 A ss) (hw : Below w0.heap.size w0 w) (hk0 : w0.heap.size ≤ kb) (hkl : kb < w.heap.size) (hO : w.heap[kb]? = some (O 0))
    (IH : ∀ i s, ss[i]? = some s → ∀ (l : List Value) (wx : World), TyAt w0 l s → Below w0.heap.size w0 wx → kb < wx.heap.size → wx.heap[kb]? = some (O i) →
      Calls Try.prog 49 #[.pointer (some ⟨kb, 0, none⟩), .agg l.toArray] wx fun e w' => ∃ l' : List Value, e = .returned (.agg l'.toArray) ∧ TyAt (strike (· < wx.heap.size) w') l' s ∧ w'.heap[kb]? = some (O (i + 1)) ∧ wx.grownBy w' (some kb)) :
    Calls Try.prog 74 #[.slice A n c, .func (.func 49) #[.pointer (some ⟨kb, 0, none⟩)] #[]] w fun e w' => ∃ (A' : Option Addr) (c' : Nat), e = .returned (.slice A' n c') ∧ n ≤ c' ∧ RowIn tR (strike (· < w.heap.size) w') A' ss ∧ w'.heap[kb]? = some (O n) ∧ w.grownBy w' (some kb) := by
  have HN := Lib.hid hn
  have HS := Lib.hid hS
  have HW := Lib.hid hw
  have HIH := Lib.hid IH
  have HO := Lib.hid hO
  have EQ : ∀ wz : World, (binOp .eql 23 (.slice A n c) (.slice none 0 0)).run Try.prog wz = .ok (.bool A.isNone) wz := fun wz => Lib.run_eql_slice_nil wz _ _ _ _ _ _ _ Try.underlying23
  cases A with
  | none =>
    have h0 : ss = [] := hS.row.none_nil
    have hn0 : n = 0 := by rw [← hn, h0]; rfl
    have HX := Lib.hid h0
    subst hn0
    clear hS hn h0 hw IH hO
    go_enter Try.func74, Try.ntmps74
    go_wp2_with fail
    go_ret
    exact ⟨_, _, rfl, Nat.le_refl _, fun i s h => by rw [HX.out] at h; simp at h, HO.out, grown_of (Below.refl _ _)⟩
  | some ad =>
    obtain ⟨i0, hi, hz0, hz1, hz2⟩ := info_parts typ_info
    obtain ⟨W1, hW1⟩ : ∃ W1, W1 = w.alloc (.cells (madeCells (Value.agg #[.int .i64 0, .string ⟨#[]⟩, .int .i64 0, .string ⟨#[]⟩, .string ⟨#[]⟩, .slice none 0 0, .slice none 0 0]).cells (n * 7)) 25) := ⟨_, rfl⟩
    have MS := run_make (P := Try.prog) w 23 25 i0 (.agg #[.int .i64 0, .string ⟨#[]⟩, .int .i64 0, .string ⟨#[]⟩, .string ⟨#[]⟩, .slice none 0 0, .slice none 0 0]) Try.underlying23 hi hz0 .i64 .i64 (n : Int) (n : Int) (by omega) (by omega) (by rw [hz2]; omega) (by omega)
    rw [hz1] at MS
    simp only [Int.toNat_natCast] at MS
    rw [← hW1] at MS
    have START : Hid (Fill tR w.heap.size w.heap.size ss 0 W1) := Lib.hid (by rw [hW1]; exact Fill.start tR (Nat.le_refl _) _ _ ss (by rw [size_madeCells, hn]; rfl))
    have HB1 : Hid (w.grownBy W1 (some kb) ∧ W1.heap[kb]? = some (O 0)) := Lib.hid (by rw [hW1]; exact ⟨grown_of (below_new (Below.refl _ _) _), (Lib.alloc_old w _ kb hkl).trans hO⟩)
    have EQ' : ∀ wz : World, (binOp .eql 23 (.slice (some ad) n c) (.slice none 0 0)).run Try.prog wz = .ok (.bool false) wz := EQ
    clear EQ hW1 hS hn hw IH hO
    go_enter Try.func74, Try.ntmps74
    go_wp2_with fail
    go_loopw [15] (fun s15 wr => ∃ k : Nat, k ≤ n ∧ s15 = .int .i64 k ∧ Hid (Fill tR w.heap.size w.heap.size ss k wr) ∧ Hid (w.grownBy wr (some kb) ∧ wr.heap[kb]? = some (O k))) (fun s15 _ => n - (intOf s15).toNat)
    case atStart => exact ⟨0, by omega, rfl, START, HB1⟩
    case round =>
      obtain ⟨k, hk, rfl, HF, HB⟩ := hrel
      obtain ⟨wo, rfl⟩ : ∃ wo : World, wo = wr := ⟨_, rfl⟩
      clear MS EQ' START HB1
      by_cases hlt : k < n
      · obtain ⟨s, hs⟩ : ∃ s, ss[k]? = some s := ⟨_, List.getElem?_eq_getElem (by rw [HN.out]; exact hlt)⟩
        obtain ⟨g, o, v0, v1, v2, v3, v4, v5, v6, e1, hg, a0, a1, a2, a3, a4, a5, a6, us⟩ := HS.out k s hs
        obtain ⟨Bn, cB, Bs, dB, ev, -⟩ := us.parts
        simp only [List.cons.injEq, and_true] at ev
        obtain ⟨rfl, rfl, rfl, rfl, rfl, rfl, rfl⟩ := ev
        obtain rfl := Option.some.inj e1
        have hBo : Below w0.heap.size w0 wo := below_grow HW.out HB.out.1 hk0
        have q := fun o v (hv : w0.cell? ⟨g, o, none⟩ = some v) => (hBo.cell (p := ⟨g, o, none⟩) hg).trans hv
        have c0 := q _ _ a0
        have c1 := q _ _ a1
        have c2 := q _ _ a2
        have c3 := q _ _ a3
        have c4 := q _ _ a4
        have c5 := q _ _ a5
        have c6 := q _ _ a6
        obtain ⟨w8, hw8⟩ : ∃ w8, w8 = wo.alloc (.cells #[.int .i64 s.kind, .string s.pkg, .int .i64 s.major, .string s.mod, .string s.name, .slice Bn s.names.length cB, .slice Bs s.subs.length dB] 25) := ⟨_, rfl⟩
        have B8 : Below wo.heap.size wo w8 := by rw [hw8]; exact below_new (Below.refl _ _) _
        have Y8 : w8.heap[wo.heap.size]? = some (.cells #[.int .i64 s.kind, .string s.pkg, .int .i64 s.major, .string s.mod, .string s.name, .slice Bn s.names.length cB, .slice Bs s.subs.length dB] 25 (0, 0)) := by rw [hw8]; exact heap_alloc_new wo _
        have s8 : w8.heap.size = wo.heap.size + 1 := by rw [hw8]; simp
        have hkw : kb < wo.heap.size := Nat.lt_of_lt_of_le hkl HB.out.1.size
        have CL := Lib.hid (HIH.out k s hs _ w8 us (below_grow hBo (grown_of B8) hk0) (by omega) ((B8.block _ hkw).trans HB.out.2))
        have HSS := Lib.hid hs
        have HB8 := Lib.hid B8
        have HW8 := Lib.hid hw8
        have HY8 := Lib.hid Y8
        clear hs us hg e1 hBo q a0 a1 a2 a3 a4 a5 a6 B8 hw8
        go_upto_region 7 with fail
        rw [← HW8.out]
        clear c0 c1 c2 c3 c4 c5 c6
        have y0 := Lib.cell_of_heap Y8 0
        have y1 := Lib.cell_of_heap Y8 1
        have y2 := Lib.cell_of_heap Y8 2
        have y3 := Lib.cell_of_heap Y8 3
        have y4 := Lib.cell_of_heap Y8 4
        have y5 := Lib.cell_of_heap Y8 5
        have y6 := Lib.cell_of_heap Y8 6
        simp at y0 y1 y2 y3 y4 y5 y6
        clear Y8
        go_wp2_with fail
        refine CL.out.mono ?_; rintro e w2 ⟨l', rfl, hT2, hO2, hg2⟩
        obtain ⟨Cn, cC, Cs, dC, rfl, -⟩ := hT2.parts
        have hlw : w.heap.size < wo.heap.size := HF.out.hg
        have hs2 := hg2.size
        have F2 : Fill tR w.heap.size w.heap.size ss k w2 := HF.out.keep (by omega) (fun b h1 hb => (hg2.block b (by omega) (fun e => by cases e; omega)).trans (HB8.out.block b hb))
        have HT := F2.at (m := 7) (by rw [HN.out]; exact hlt) rfl
        have F3 : Hid (Fill tR w.heap.size w.heap.size ss (k + 1) (w2.setCells w.heap.size (k * 7) [.int .i64 s.kind, .string s.pkg, .int .i64 s.major, .string s.mod, .string s.name, .slice Cn s.names.length cC, .slice Cs s.subs.length dC])) := Lib.hid (F2.put HSS.out (B := w8.heap.size) hT2 (by omega))
        have B3 : Hid (w.grownBy (w2.setCells w.heap.size (k * 7) [.int .i64 s.kind, .string s.pkg, .int .i64 s.major, .string s.mod, .string s.name, .slice Cn s.names.length cC, .slice Cs s.subs.length dC]) (some kb) ∧ (w2.setCells w.heap.size (k * 7) [.int .i64 s.kind, .string s.pkg, .int .i64 s.major, .string s.mod, .string s.name, .slice Cn s.names.length cC, .slice Cs s.subs.length dC]).heap[kb]? = some (O (k + 1))) := Lib.hid
          ⟨grown_put (grown_over HB.out.1 (grown_over (grown_of HB8.out) hg2)) (Nat.le_refl _) _ _, by rw [World.heap_setCells_other _ _ _ _ (by omega) (by omega)]; exact hO2⟩
        clear F2 hg2 hT2 hO2 CL y0 y1 y2 y3 y4 y5 y6 HB8 HW8 HY8
        go_upto_region 8 with (first | ((with_reducible refine wpList_putMid 25 w.heap.size (k * 7) #[.int .i64 s.kind, .string s.pkg, .int .i64 s.major, .string s.mod, .string s.name, .slice Cn s.names.length cC, .slice Cs s.subs.length dC] ?_ ?_ ?_ ?_ ?_ ?_); exact HT; exact tySize; exact tyOne; rfl; rfl))
        obtain ⟨w9, hw9⟩ : ∃ w9, w9 = w2.setCells w.heap.size (k * 7) [.int .i64 s.kind, .string s.pkg, .int .i64 s.major, .string s.mod, .string s.name, .slice Cn s.names.length cC, .slice Cs s.subs.length dC] := ⟨_, rfl⟩
        rw [← hw9] at F3 B3
        have HW9 := Lib.hid hw9
        clear hw9 HT
        try rw [← HW9.out]
        go_wp2_with fail
        go_roundw
        case rel => exact ⟨k + 1, by omega, by go_num, F3, B3⟩
        case measure => simp [intOf]; omega
      · have hkn : k = n := by omega
        have DONE := Lib.hid (HF.out.done (m := w.heap.size) (by rw [HN.out]; omega) (Nat.le_refl _))
        have HKN := Lib.hid hkn
        clear hkn
        go_wp2_with fail
        go_ret
        exact ⟨_, _, rfl, Nat.le_refl _, DONE.out, by rw [← HKN.out]; exact HB.out.2, HB.out.1⟩
end Go.Proofs.Ytcdmgcgjonndpaa
