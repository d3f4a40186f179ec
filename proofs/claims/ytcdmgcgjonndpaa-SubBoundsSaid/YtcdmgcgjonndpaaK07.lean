/-
  Several texts in one:  ·  ·  ·  ·  ·  ·  · 
-/
import Derived.Test.YtcdmgcgjonndpaaK06
import Derived.Test.YtcdmgcgjonndpaaK03
import Derived.Test.YtcdmgcgjonndpaaK01
import Derived.Test.YtcdmgcgjonndpaaK04
import Derived.Lib.QuietBelow
import Derived.BigQuiet
/-  -/
namespace Go.Proofs.Ytcdmgcgjonndpaa
open Go.RowKit
open Go.Sort Go.Maps
open M
end Go.Proofs.Ytcdmgcgjonndpaa

/-  -/
namespace Go.Proofs.Ytcdmgcgjonndpaa
open Go Go.RowKit
open Go.Sort
section
variable {P : Program} {w : World}
end
theorem below_grown {B : Nat} {w w1 w2 : World} {v : Value} {e : TypeId} {z n : Nat} {xs : List Value} (hb : Below B w w1) (hB : B ≤ w1.heap.size) (hown : w1.ownsRow B e z v n xs) (hg : w1.grownBy w2 v.ownBlock) : Below B w w2 :=
  hb.trans ⟨hg.os, hg.tape, hg.output, hg.size, fun b h => hg.block b (Nat.lt_of_lt_of_le h hB) (fun e => by have := (hown.lt b e.symm).1; omega)⟩
end Go.Proofs.Ytcdmgcgjonndpaa

/-  -/
namespace Go.Proofs.Ytcdmgcgjonndpaa
open Go.RowKit Go.Shelf
open Go.Sort Go.Maps
open M
def ShL (l : List Value) (t : Ty) : Prop := ∃ (An : Option Addr) (cn : Nat) (As : Option Addr) (cs : Nat), l = [.int .i64 t.kind, .string t.pkg, .int .i64 t.major, .string t.mod, .string t.name, .slice An t.names.length cn, .slice As t.subs.length cs]
end Go.Proofs.Ytcdmgcgjonndpaa

/-  -/
namespace Go.Proofs.Ytcdmgcgjonndpaa
open Go Go.RowKit Go.Shelf
open Go.Sort Go.Maps
open M
end Go.Proofs.Ytcdmgcgjonndpaa

/-  -/
namespace Go.Proofs.Ytcdmgcgjonndpaa
open Go Go.RowKit Go.Shelf
open Go.Sort Go.Maps
open M
def zTy : Ty := .mk 0 ⟨#[]⟩ 0 ⟨#[]⟩ ⟨#[]⟩ [] []
end Go.Proofs.Ytcdmgcgjonndpaa

/-  -/
namespace Go.Proofs.Ytcdmgcgjonndpaa
open Go Go.RowKit Go.Shelf
open Go.Sort
open M
def PtOut (t : Ty) (s : ByteArray) (w : World) (e : Ending) (w' : World) : Prop :=
  ∃ (l : List Value) (x : Ty) (b : Bool), e = .returned (.tuple #[.agg l.toArray, .bool b]) ∧ TyAt w' l x ∧ Below w.heap.size w w' ∧ ((b = true ∧ AtN t s x) ∨ (b = false ∧ x = zTy ∧ ∀ y, ¬ AtN t s y))
theorem zeroT_at (w : World) : TyAt w [.int .i64 0, .string ⟨#[]⟩, .int .i64 0, .string ⟨#[]⟩, .string ⟨#[]⟩, .slice none 0 0, .slice none 0 0] zTy :=
  .mk 0 ⟨#[]⟩ 0 ⟨#[]⟩ ⟨#[]⟩ [] [] none 0 none 0 (fun _ => [.int .i64 0, .string ⟨#[]⟩, .int .i64 0, .string ⟨#[]⟩, .string ⟨#[]⟩, .slice none 0 0, .slice none 0 0]) (by decide) (by decide) (by decide) (by decide) (by decide) (by decide) (fun i s h => by simp at h) (fun _ => rfl) (fun i t h => by simp at h) (fun i t h => by simp at h)
set_option maxRecDepth 100000 in
set_option maxHeartbeats 8000000 in
theorem part_any (t : Ty) (lt : List Value) (s : ByteArray) (w : World) (hT : TyAt w lt t) (hr : Rising t.names) (hl : t.subs.length = t.names.length) (hz : t.names.length ≤ 1000000) :
    Calls Try.prog 47 #[.agg lt.toArray, .string s] w (PtOut t s w) := by
  have HT := Lib.hid hT
  obtain ⟨An, cA, As, cS, rfl, -, -, -, -, -, hNA, hSu⟩ := hT.parts
  obtain ⟨W2, hW2, B2, O0, O1, hl2⟩ := two_boxes w #[.int .i64 t.kind, .string t.pkg, .int .i64 t.major, .string t.mod, .string t.name, .slice An t.names.length cA, .slice As t.subs.length cS] #[.int .i64 0, .string ⟨#[]⟩, .int .i64 0, .string ⟨#[]⟩, .string ⟨#[]⟩, .slice none 0 0, .slice none 0 0] 25 25
  have HB2 := Lib.hid B2
  have HX0 : Hid (∀ wx, Below W2.heap.size W2 wx → wx.heap[w.heap.size]? = some (.cells #[.int .i64 t.kind, .string t.pkg, .int .i64 t.major, .string t.mod, .string t.name, .slice An t.names.length cA, .slice As t.subs.length cS] 25 (0, 0))) := Lib.hid (fun wx hb => (hb.block _ (by omega)).trans O0)
  have HX1 : Hid (∀ wx, Below W2.heap.size W2 wx → wx.heap[w.heap.size + 1]? = some (.cells #[.int .i64 0, .string ⟨#[]⟩, .int .i64 0, .string ⟨#[]⟩, .string ⟨#[]⟩, .slice none 0 0, .slice none 0 0] 25 (0, 0))) := Lib.hid (fun wx hb => (hb.block _ (by omega)).trans O1)
  have HSU := Lib.hid hSu
  have HR := Lib.hid hr
  have HLL := Lib.hid hl
  have HW := Lib.hid hW2
  have CS := Lib.hid (search_any An t.names.length cA t.names s W2 rfl (by omega) (fun i x hx => by
    obtain ⟨g, o, hA, hg, hc, hz⟩ := hNA i x hx
    exact ⟨g, o, hA, Nat.lt_of_lt_of_le hg B2.size, (B2.cell (p := ⟨g, _, none⟩) hg).trans hc, hz⟩) hr)
  have X0 := HX0.out W2 (Below.refl _ _)
  have x5 := Lib.cell_of_heap X0 5
  simp at x5
  clear hW2 B2 O0 O1 hT hNA hSu hr hl X0
  go_enter Try.func47, Try.ntmps47
  go_upto_region 1 with fail
  rw [← HW.out]
  clear HW
  go_wp2_with fail
  refine CS.out.mono ?_; rintro e w3 ⟨i, b, rfl, hb1, hb2, hb3⟩
  have HB3 := Lib.hid hb3
  have H1 := Lib.hid hb1
  have H2 := Lib.hid hb2
  have X1 := HX1.out w3 hb3
  have HX := Lib.hid X1
  clear x5 hb1 hb2 hb3 CS
  cases b with
  | false =>
    have FIN : Hid (PtOut t s w (.returned (.tuple #[.agg #[.int .i64 0, .string ⟨#[]⟩, .int .i64 0, .string ⟨#[]⟩, .string ⟨#[]⟩, .slice none 0 0, .slice none 0 0], .bool false])) (w3.setRow (w.heap.size + 1) #[.int .i64 0, .string ⟨#[]⟩, .int .i64 0, .string ⟨#[]⟩, .string ⟨#[]⟩, .slice none 0 0, .slice none 0 0])) := Lib.hid
      ⟨[.int .i64 0, .string ⟨#[]⟩, .int .i64 0, .string ⟨#[]⟩, .string ⟨#[]⟩, .slice none 0 0, .slice none 0 0], zTy, false, rfl, zeroT_at _, setRow_below (below_over HB2.out HB3.out) (by omega) _, .inr ⟨rfl, rfl, fun y hy => by have := H1.out.2 hy.name; cases this⟩⟩
    go_upto_region 3 with fail
    go_wp2_with (first | ((with_reducible refine wpList_putRow 25 (w.heap.size + 1) #[.int .i64 0, .string ⟨#[]⟩, .int .i64 0, .string ⟨#[]⟩, .string ⟨#[]⟩, .slice none 0 0, .slice none 0 0] _ _ X1 ?_ ?_ ?_ ?_ ?_ ?_); exact tySize; rfl; exact tyOne; (focus (first | (go_simp; done) | rfl)); (focus (first | (go_simp; done) | rfl))))
    exact ret_agg (fn := Try.f47) (vs := [.int .i64 0, .string ⟨#[]⟩, .int .i64 0, .string ⟨#[]⟩, .string ⟨#[]⟩, .slice none 0 0, .slice none 0 0]) (b := w.heap.size + 1) rfl rfl rfl Try.underlying25 (by kernel_rfl) (cell7 (setRow_heap _ (w.heap.size + 1) _ _ _ _ HX.out)) rfl FIN.out
  | true =>
    have hi := H2.out rfl
    have hil := (List.getElem?_eq_some_iff.1 hi).1
    obtain ⟨x, hx⟩ : ∃ x, t.subs[i]? = some x := ⟨_, List.getElem?_eq_getElem (by rw [HLL.out]; exact hil)⟩
    obtain ⟨g, o, v0, v1, v2, v3, v4, v5, v6, rfl, hg, h0, h1, h2, h3, h4, h5, h6, hx7⟩ := HSU.out i x hx
    obtain ⟨Bn, cB, Bs, cD, rfl, rfl, rfl, rfl, rfl, rfl, rfl⟩ := hx7.seven
    have hbw := below_over HB2.out HB3.out
    have e := fun (q : Nat) (v : Value) (hv : w.cell? ⟨g, q, none⟩ = some v) => (hbw.cell (p := ⟨g, q, none⟩) hg).trans hv
    have k0 := e _ _ h0
    have k1 := e _ _ h1
    have k2 := e _ _ h2
    have k3 := e _ _ h3
    have k4 := e _ _ h4
    have k5 := e _ _ h5
    have k6 := e _ _ h6
    have X0 := HX0.out w3 HB3.out
    have y6 := Lib.cell_of_heap X0 6
    simp at y6
    have FIN : Hid (PtOut t s w (.returned (.tuple #[.agg #[.int .i64 x.kind, .string x.pkg, .int .i64 x.major, .string x.mod, .string x.name, .slice Bn x.names.length cB, .slice Bs x.subs.length cD], .bool true])) (w3.setRow (w.heap.size + 1) #[.int .i64 x.kind, .string x.pkg, .int .i64 x.major, .string x.mod, .string x.name, .slice Bn x.names.length cB, .slice Bs x.subs.length cD])) := Lib.hid
      ⟨[.int .i64 x.kind, .string x.pkg, .int .i64 x.major, .string x.mod, .string x.name, .slice Bn x.names.length cB, .slice Bs x.subs.length cD], x, true, rfl, hx7.keep (setRow_below hbw (by omega) _), setRow_below hbw (by omega) _, .inl ⟨rfl, i, hi, hx⟩⟩
    have hi0 : (0 : Int) ≤ i := by omega
    have hi1 : (i : Int) < t.subs.length := by have := HLL.out; omega
    clear hi hx hx7 h0 h1 h2 h3 h4 h5 h6 e hbw X0
    go_upto_region 4 with fail
    go_wp2_with (first | ((with_reducible refine wpList_putRow 25 (w.heap.size + 1) #[.int .i64 x.kind, .string x.pkg, .int .i64 x.major, .string x.mod, .string x.name, .slice Bn x.names.length cB, .slice Bs x.subs.length cD] _ _ X1 ?_ ?_ ?_ ?_ ?_ ?_); exact tySize; rfl; exact tyOne; (focus (first | (go_simp; done) | rfl)); (focus (first | (go_simp; done) | rfl))))
    exact ret_agg (fn := Try.f47) (vs := [.int .i64 x.kind, .string x.pkg, .int .i64 x.major, .string x.mod, .string x.name, .slice Bn x.names.length cB, .slice Bs x.subs.length cD]) (b := w.heap.size + 1) rfl rfl rfl Try.underlying25 (by kernel_rfl) (cell7 (setRow_heap _ (w.heap.size + 1) _ _ _ _ HX.out)) rfl FIN.out
end Go.Proofs.Ytcdmgcgjonndpaa

/-  -/
namespace Go.Proofs.Ytcdmgcgjonndpaa
open Go.RowKit
open Go.Sort
open M
theorem sameL_no {a b : List Ty} (h : a ≠ b) : sameL a b = false := by
 rw [Bool.eq_false_iff, ne_eq, sameL_iff]; exact h
set_option maxRecDepth 100000 in
set_option maxHeartbeats 4000000 in
theorem equal_names (A : Option Addr) (c n : Nat) (l : List ByteArray) (A' : Option Addr) (c' n' : Nat) (l' : List ByteArray) (w : World) (hn : l.length = n) (hn' : l'.length = n') (hz : n ≤ 9223372036854775807) (hz' : n' ≤ 9223372036854775807) (hN : NamesAt w A l) (hN' : NamesAt w A' l') :
  Calls Try.prog 60 #[.slice A n c, .slice A' n' c'] w fun e w' => e = .returned (.bool (decide (l = l'))) ∧ Below w.heap.size w w' := by
 have HN := Lib.hid hN
 have HN' := Lib.hid hN'
 have HQ := Lib.hid hn
 have HQ' := Lib.hid hn'
 clear hN hN' hn hn'
 by_cases hqq : n = n'
 rotate_left
 ·have R : Hid (decide (l = l') = false) := Lib.hid (by
   have h1 := HQ.out
   have h2 := HQ'.out
   simp
   intro e; subst e; omega)
  have f1 : (((n : Nat) : Int) == ((n' : Nat) : Int)) = false := by simp; omega
  have f2 : (((n : Nat) : Int) != ((n' : Nat) : Int)) = true := by simp; omega
  rw [R.out]
  clear hqq
  as_aux_lemma =>
  go_enter Try.func60, Try.ntmps60
  go_wp2_with fail
  go_ret
  exact ⟨rfl, Below.refl _ _⟩
 subst hqq
 go_enter Try.func60, Try.ntmps60
 go_wp2_with fail
 go_loopw [13] (fun i wr => ∃ k : Nat, k ≤ n ∧ i = .int .i64 k ∧ Hid (∀ j x y, j < k → l[j]? = some x → l'[j]? = some y → x = y) ∧ Below w.heap.size w wr) (fun i _ => n - (intOf i).toNat)
 case atStart => exact ⟨0, by omega, rfl, Lib.hid (fun j x y h => by omega), Below.refl _ _⟩
 case round =>
  obtain ⟨k, hk, rfl, HP, hb⟩ := hrel
  obtain ⟨wo, rfl⟩ : ∃ wo : World, wo = wr := ⟨_, rfl⟩
  by_cases hlt : k < n
  ·obtain ⟨x, hx⟩ : ∃ x, l[k]? = some x := ⟨_, List.getElem?_eq_getElem (by rw [HQ.out]; exact hlt)⟩
   obtain ⟨y, hy⟩ : ∃ y, l'[k]? = some y := ⟨_, List.getElem?_eq_getElem (by rw [HQ'.out]; exact hlt)⟩
   obtain ⟨g, o, rfl, hg, hc, -⟩ := HN.out.below hb k x hx
   obtain ⟨g', o', rfl, hg', hc', -⟩ := HN'.out.below hb k y hy
   have HX := Lib.hid hx
   have HY := Lib.hid hy
   clear hx hy
   by_cases hxy : x = y
   ·have f1 : (x.toList == y.toList) = true := by rw [hxy]; simp
    have f2 : (!(x.toList == y.toList)) = false := by rw [f1]; rfl
    have HXY := Lib.hid hxy
    clear hxy
    go_wp2_with fail
    go_quiet (fail)
    go_wp2_with fail
    go_roundw
    case rel => exact ⟨k + 1, by omega, by go_num, Lib.hid (fun j a b hj ha hb => by
     rcases Nat.lt_or_ge j k with e | e
     ·exact HP.out j a b e ha hb
     ·rw [show j = k by omega, HX.out] at ha
      rw [show j = k by omega, HY.out] at hb
      obtain rfl := Option.some.inj ha
      obtain rfl := Option.some.inj hb
      exact HXY.out), below_drewN hb _⟩
    case measure => simp [intOf]; omega
   ·have f1 : (x.toList == y.toList) = false := by
     rw [beq_eq_false_iff_ne, ne_eq, Lib.toList_data, Lib.toList_data, bytes_list]
     exact hxy
    have f2 : (!(x.toList == y.toList)) = true := by rw [f1]; rfl
    have f3 : ¬ x.toList = y.toList := by simpa using f1
    have R : Hid (decide (l = l') = false) := Lib.hid (by
     simp
     intro e; subst e
     have a := HX.out
     rw [HY.out] at a
     exact hxy (Option.some.inj a).symm)
    clear hxy
    go_wp2_with fail
    go_quiet (fail)
    go_wp2_with fail
    go_ret
    exact ⟨ret_bool R.out, below_drewN hb _⟩
  ·have R : Hid (decide (l = l') = true) := Lib.hid (by
    simp
    exact list_ext' (by rw [HQ.out, HQ'.out]) (fun i x y hx hy => HP.out i x y (by
     have := (List.getElem?_eq_some_iff.1 hx).1
     rw [HQ.out] at this; omega) hx hy))
   go_wp2_with fail
   go_ret
   exact ⟨ret_bool R.out, hb⟩
set_option maxRecDepth 100000 in
set_option maxHeartbeats 4000000 in
theorem equal_alike (A : Option Addr) (c n : Nat) (l : List Ty) (A' : Option Addr) (c' n' : Nat) (l' : List Ty) (w : World) (hn : l.length = n) (hn' : l'.length = n') (hz : n ≤ 9223372036854775807) (hz' : n' ≤ 9223372036854775807) (hS : SubsAt w A l) (hS' : SubsAt w A' l')
  (IH : ∀ s, s ∈ l → ∀ (q : Ty) (v v' : Value) (w : World), TyV w v s → TyV w v' q → Calls Try.prog 48 #[v, v'] w fun e w' => e = .returned (.bool (sameT s q)) ∧ Below w.heap.size w w') :
  Calls Try.prog 61 #[.slice A n c, .slice A' n' c', .func (.func 48) #[] #[]] w fun e w' => e = .returned (.bool (sameL l l')) ∧ Below w.heap.size w w' := by
 have HN := Lib.hid hS
 have HN' := Lib.hid hS'
 have HQ := Lib.hid hn
 have HQ' := Lib.hid hn'
 have HIH := Lib.hid IH
 clear hS hS' hn hn' IH
 by_cases hqq : n = n'
 rotate_left
 ·have R : Hid (sameL l l' = false) := Lib.hid (by
   have h1 := HQ.out
   have h2 := HQ'.out
   exact sameL_no (fun e => by subst e; omega))
  have f1 : (((n : Nat) : Int) == ((n' : Nat) : Int)) = false := by simp; omega
  have f2 : (((n : Nat) : Int) != ((n' : Nat) : Int)) = true := by simp; omega
  rw [R.out]
  clear hqq
  as_aux_lemma =>
  go_enter Try.func61, Try.ntmps61
  go_wp2_with fail
  go_ret
  exact ⟨rfl, Below.refl _ _⟩
 subst hqq
 go_enter Try.func61, Try.ntmps61
 go_wp2_with fail
 go_loopw [17] (fun i wr => ∃ k : Nat, k ≤ n ∧ i = .int .i64 k ∧ Hid (∀ j x y, j < k → l[j]? = some x → l'[j]? = some y → x = y) ∧ Hid (Below w.heap.size w wr)) (fun i _ => n - (intOf i).toNat)
 case atStart => exact ⟨0, by omega, rfl, Lib.hid (fun j x y h => by omega), Lib.hid (Below.refl _ _)⟩
 case round =>
  obtain ⟨k, hk, rfl, HP, HB⟩ := hrel
  obtain ⟨wo, rfl⟩ : ∃ wo : World, wo = wr := ⟨_, rfl⟩
  by_cases hlt : k < n
  ·obtain ⟨x, hx⟩ : ∃ x, l[k]? = some x := ⟨_, List.getElem?_eq_getElem (by rw [HQ.out]; exact hlt)⟩
   obtain ⟨y, hy⟩ : ∃ y, l'[k]? = some y := ⟨_, List.getElem?_eq_getElem (by rw [HQ'.out]; exact hlt)⟩
   obtain ⟨g, o, v0, v1, v2, v3, v4, v5, v6, rfl, hg, h0, h1, h2, h3, h4, h5, h6, hs7⟩ := HN.out.below HB.out k x hx
   obtain ⟨g', o', z0, z1, z2, z3, z4, z5, z6, rfl, hg', e0, e1, e2, e3, e4, e5, e6, ht7⟩ := HN'.out.below HB.out k y hy
   obtain ⟨Am, cm, At, ct, rfl, rfl, rfl, rfl, rfl, rfl, rfl⟩ := hs7.seven
   obtain ⟨Bm, dm, Bt, dt, rfl, rfl, rfl, rfl, rfl, rfl, rfl⟩ := ht7.seven
   have IHs := Lib.hid (fun w' (hw : Below wo.heap.size wo w') => HIH.out x (List.mem_of_getElem? hx) y _ _ w' (TyV.below ⟨_, rfl, hs7⟩ hw) (TyV.below ⟨_, rfl, ht7⟩ hw))
   have HX := Lib.hid hx
   have HY := Lib.hid hy
   clear hx hy hs7 ht7
   rcases hid_or (sameT x y) with hxy | hxy
   ·have R : Hid (sameL l l' = false) := Lib.hid (sameL_no (fun e => by
     subst e
     have a := HX.out
     rw [HY.out] at a
     have b := hxy.out
     rw [Option.some.inj a] at b
     rw [(sameT_iff x x).2 rfl] at b
     cases b))
    go_wp2_with fail
    refine (IHs.out _ (below_new (below_new (Below.refl _ _) _) _)).mono ?_; rintro e w5 ⟨rfl, hb5⟩; rw [hxy.out]
    have HB5 := Lib.hid ((below_new (below_new HB.out _) _).trans (hb5.mono (by have := HB.out.size; simp; omega)))
    clear h0 h1 h2 h3 h4 h5 h6 e0 e1 e2 e3 e4 e5 e6 hb5 IHs
    go_wp2_with fail
    go_ret
    exact ⟨ret_bool R.out, HB5.out⟩
   ·go_wp2_with fail
    refine (IHs.out _ (below_new (below_new (Below.refl _ _) _) _)).mono ?_; rintro e w5 ⟨rfl, hb5⟩; rw [hxy.out]
    have HB5 := Lib.hid ((below_new (below_new HB.out _) _).trans (hb5.mono (by have := HB.out.size; simp; omega)))
    clear h0 h1 h2 h3 h4 h5 h6 e0 e1 e2 e3 e4 e5 e6 hb5 IHs
    go_wp2_with fail
    go_roundw
    case rel => exact ⟨k + 1, by omega, by go_num, Lib.hid (fun j a b hj ha hb => by
     rcases Nat.lt_or_ge j k with e | e
     ·exact HP.out j a b e ha hb
     ·rw [show j = k by omega, HX.out] at ha
      rw [show j = k by omega, HY.out] at hb
      obtain rfl := Option.some.inj ha
      obtain rfl := Option.some.inj hb
      exact (sameT_iff _ _).1 hxy.out), HB5⟩
    case measure => simp [intOf]; omega
  ·have R : Hid (sameL l l' = true) := Lib.hid (by
    rw [sameL_iff]
    exact list_ext' (by rw [HQ.out, HQ'.out]) (fun i x y hx hy => HP.out i x y (by
     have := (List.getElem?_eq_some_iff.1 hx).1
     rw [HQ.out] at this; omega) hx hy))
   go_wp2_with fail
   go_ret
   exact ⟨ret_bool R.out, HB.out⟩
set_option maxRecDepth 100000 in
set_option maxHeartbeats 8000000 in
theorem alike_any (N : Nat) : ∀ (a b : Ty), many a ≤ N → ∀ (v v' : Value) (w : World), TyV w v a → TyV w v' b →
  Calls Try.prog 48 #[v, v'] w fun e w' => e = .returned (.bool (sameT a b)) ∧ Below w.heap.size w w' := by
 induction N with
 | zero => intro a b h; have := many_pos a; omega
 | succ N ih =>
 intro a b hN v v' w hv hv'
 have HIH := Lib.hid (fun s (hs : s ∈ a.subs) (q : Ty) (v v' : Value) (w : World) (hv : TyV w v s) (hv' : TyV w v' q) => ih s q (by have := manyL_mem a.subs s hs; have := manyL_eq a; omega) v v' w hv hv')
 clear ih hN
 obtain ⟨l, rfl, hT⟩ := hv
 obtain ⟨An, cn, As, cs, rfl, -, -, -, hzn, hz, hNA, hS⟩ := hT.parts
 obtain ⟨l', rfl, hT'⟩ := hv'
 obtain ⟨Bn, cn', Bs, cs', rfl, -, -, -, hzn', hz', hNB, hS'⟩ := hT'.parts
 clear hT hT'
 obtain ⟨k, p, m, d, n, ns, ss⟩ := a
 obtain ⟨k', p', m', d', n', ns', ss'⟩ := b
 simp only [Ty.kind, Ty.pkg, Ty.major, Ty.mod, Ty.name, Ty.names, Ty.subs] at *
 have HNA := Lib.hid hNA
 have HNB := Lib.hid hNB
 have HSA := Lib.hid hS
 have HSB := Lib.hid hS'
 clear hNA hNB hS hS'
 generalize hq : ns.length = q at hzn
 generalize hq' : ns'.length = q' at hzn'
 generalize hr : ss.length = r at hz
 generalize hr' : ss'.length = r' at hz'
 have HQ := Lib.hid hq
 have HQ' := Lib.hid hq'
 have HR := Lib.hid hr
 have HR' := Lib.hid hr'
 clear hq hq' hr hr'
 by_cases h1 : k = k'
 rotate_left
 ·have R : Hid (sameT (.mk k p m d n ns ss) (.mk k' p' m' d' n' ns' ss') = false) := Lib.hid (sameT_no (fun e => by injection e with e1 e2 e3 e4 e5 e6 e7; exact h1 e1))
  rw [R.out]
  have f1 : (k == k') = false := by simpa using h1
  clear h1
  as_aux_lemma =>
  go_enter Try.func48, Try.ntmps48
  go_wp2_with fail
  go_ret
  exact ⟨rfl, below_new (below_new (Below.refl _ _) _) _⟩
 subst h1
 by_cases h2 : p = p'
 rotate_left
 ·have R : Hid (sameT (.mk k p m d n ns ss) (.mk k p' m' d' n' ns' ss') = false) := Lib.hid (sameT_no (fun e => by injection e with e1 e2 e3 e4 e5 e6 e7; exact h2 e2))
  rw [R.out]
  have f1 : (p.toList == p'.toList) = false := by
   rw [beq_eq_false_iff_ne, ne_eq, Lib.toList_data, Lib.toList_data, bytes_list]
   exact h2
  have f3 : ¬ p.toList = p'.toList := by simpa using f1
  clear h2
  as_aux_lemma =>
  go_enter Try.func48, Try.ntmps48
  go_wp2_with fail
  go_ret
  exact ⟨rfl, below_new (below_new (Below.refl _ _) _) _⟩
 subst h2
 by_cases h3 : m = m'
 rotate_left
 ·have R : Hid (sameT (.mk k p m d n ns ss) (.mk k p m' d' n' ns' ss') = false) := Lib.hid (sameT_no (fun e => by injection e with e1 e2 e3 e4 e5 e6 e7; exact h3 e3))
  rw [R.out]
  have f1 : (m == m') = false := by simpa using h3
  clear h3
  as_aux_lemma =>
  go_enter Try.func48, Try.ntmps48
  go_wp2_with fail
  go_ret
  exact ⟨rfl, below_new (below_new (Below.refl _ _) _) _⟩
 subst h3
 by_cases h4 : d = d'
 rotate_left
 ·have R : Hid (sameT (.mk k p m d n ns ss) (.mk k p m d' n' ns' ss') = false) := Lib.hid (sameT_no (fun e => by injection e with e1 e2 e3 e4 e5 e6 e7; exact h4 e4))
  rw [R.out]
  have f1 : (d.toList == d'.toList) = false := by
   rw [beq_eq_false_iff_ne, ne_eq, Lib.toList_data, Lib.toList_data, bytes_list]
   exact h4
  have f3 : ¬ d.toList = d'.toList := by simpa using f1
  clear h4
  as_aux_lemma =>
  go_enter Try.func48, Try.ntmps48
  go_wp2_with fail
  go_ret
  exact ⟨rfl, below_new (below_new (Below.refl _ _) _) _⟩
 subst h4
 by_cases h5 : n = n'
 rotate_left
 ·have R : Hid (sameT (.mk k p m d n ns ss) (.mk k p m d n' ns' ss') = false) := Lib.hid (sameT_no (fun e => by injection e with e1 e2 e3 e4 e5 e6 e7; exact h5 e5))
  rw [R.out]
  have f1 : (n.toList == n'.toList) = false := by
   rw [beq_eq_false_iff_ne, ne_eq, Lib.toList_data, Lib.toList_data, bytes_list]
   exact h5
  have f3 : ¬ n.toList = n'.toList := by simpa using f1
  clear h5
  as_aux_lemma =>
  go_enter Try.func48, Try.ntmps48
  go_wp2_with fail
  go_ret
  exact ⟨rfl, below_new (below_new (Below.refl _ _) _) _⟩
 subst h5
 have HBX := Lib.hid (below_new (below_new (Below.refl _ w) (.cells #[.int .i64 k, .string p, .int .i64 m, .string d, .string n, .slice An q cn, .slice As r cs] 25)) (.cells #[.int .i64 k, .string p, .int .i64 m, .string d, .string n, .slice Bn q' cn', .slice Bs r' cs'] 25))
 rcases hid_or (decide (ns = ns')) with hnn | hnn
 ·have R : Hid (sameT (.mk k p m d n ns ss) (.mk k p m d n ns' ss') = false) := Lib.hid (sameT_no (fun e => by injection e with e1 e2 e3 e4 e5 e6 e7; have := hnn.out; simp at this; exact this e6))
  rw [R.out]
  as_aux_lemma =>
  go_enter Try.func48, Try.ntmps48
  go_wp2_with fail
  refine (equal_names An cn q ns Bn cn' q' ns' _ HQ.out HQ'.out hzn hzn' (HNA.out.below HBX.out) (HNB.out.below HBX.out)).mono ?_; rintro e w5 ⟨rfl, hb5⟩; rw [hnn.out]
  go_wp2_with fail
  go_ret
  exact ⟨rfl, HBX.out.trans (hb5.mono HBX.out.size)⟩
 ·have R : Hid (sameT (.mk k p m d n ns ss) (.mk k p m d n ns' ss') = sameL ss ss') := Lib.hid (by
   have h := hnn.out
   simp at h
   subst h
   unfold sameT; simp)
  rw [R.out]
  as_aux_lemma =>
  go_enter Try.func48, Try.ntmps48
  go_wp2_with fail
  refine (equal_names An cn q ns Bn cn' q' ns' _ HQ.out HQ'.out hzn hzn' (HNA.out.below HBX.out) (HNB.out.below HBX.out)).mono ?_; rintro e w5 ⟨rfl, hb5⟩; rw [hnn.out]
  have HB5 := Lib.hid (HBX.out.trans (hb5.mono HBX.out.size))
  obtain ⟨hc5, hf5⟩ := bcell hb5
  have hz5 : w.heap.size + 1 + 1 ≤ w5.heap.size := by have := hb5.size; simpa using this
  have b6 : w5.cell? ⟨w.heap.size, 6, none⟩ = some (.slice As r cs) := by rw [hc5 _ _ (by simp; omega)]; go_simp
  have d6 : w5.cell? ⟨w.heap.size + 1, 6, none⟩ = some (.slice Bs r' cs') := by rw [hc5 _ _ (by simp)]; go_simp
  clear hb5 hc5 hf5
  go_wp2_with fail
  refine (equal_alike As cs r ss Bs cs' r' ss' _ HR.out HR'.out hz hz' (HSA.out.below HB5.out) (HSB.out.below HB5.out) HIH.out).mono ?_; rintro e w6 ⟨rfl, hb6⟩
  go_wp2_with fail
  go_ret
  exact ⟨rfl, HB5.out.trans (hb6.mono HB5.out.size)⟩
set_option maxRecDepth 100000 in
set_option maxHeartbeats 4000000 in
theorem sameK_any (a b : Ty) (v v' : Value) (w : World) (hv : TyV w v a) (hv' : TyV w v' b) :
  Calls Try.prog 38 #[v, v'] w fun e w' => e = .returned (.bool (mayT a && mayT b && sameT a b)) ∧ Below w.heap.size w w' := by
 have HV := Lib.hid hv
 have HV' := Lib.hid hv'
 obtain ⟨l, rfl, hT⟩ := hv
 obtain ⟨An, cn, As, cs, rfl, -, -, -, hzn, hz, -, -⟩ := hT.parts
 obtain ⟨l', rfl, hT'⟩ := hv'
 obtain ⟨Bn, cn', Bs, cs', rfl, -, -, -, hzn', hz', -, -⟩ := hT'.parts
 clear hT hT'
 have HBX := Lib.hid (below_new (below_new (Below.refl _ w) (.cells #[.int .i64 a.kind, .string a.pkg, .int .i64 a.major, .string a.mod, .string a.name, .slice An a.names.length cn, .slice As a.subs.length cs] 25)) (.cells #[.int .i64 b.kind, .string b.pkg, .int .i64 b.major, .string b.mod, .string b.name, .slice Bn b.names.length cn', .slice Bs b.subs.length cs'] 25))
 have FIRST : ∀ w5, Below ((w.alloc (.cells #[.int .i64 a.kind, .string a.pkg, .int .i64 a.major, .string a.mod, .string a.name, .slice An a.names.length cn, .slice As a.subs.length cs] 25)).alloc (.cells #[.int .i64 b.kind, .string b.pkg, .int .i64 b.major, .string b.mod, .string b.name, .slice Bn b.names.length cn', .slice Bs b.subs.length cs'] 25)).heap.size ((w.alloc (.cells #[.int .i64 a.kind, .string a.pkg, .int .i64 a.major, .string a.mod, .string a.name, .slice An a.names.length cn, .slice As a.subs.length cs] 25)).alloc (.cells #[.int .i64 b.kind, .string b.pkg, .int .i64 b.major, .string b.mod, .string b.name, .slice Bn b.names.length cn', .slice Bs b.subs.length cs'] 25)) w5 →
   (∀ i v, (#[.int .i64 a.kind, .string a.pkg, .int .i64 a.major, .string a.mod, .string a.name, .slice An a.names.length cn, .slice As a.subs.length cs] : Array Value)[i]? = some v → w5.cell? ⟨w.heap.size, i, none⟩ = some v) ∧
   (∀ i v, (#[.int .i64 b.kind, .string b.pkg, .int .i64 b.major, .string b.mod, .string b.name, .slice Bn b.names.length cn', .slice Bs b.subs.length cs'] : Array Value)[i]? = some v → w5.cell? ⟨w.heap.size + 1, i, none⟩ = some v) := fun w5 hb => by
  constructor
  ·intro i v hv
   rw [(bcell hb).1 _ _ (by simp; omega), Lib.cell_of_heap (cs := #[.int .i64 a.kind, .string a.pkg, .int .i64 a.major, .string a.mod, .string a.name, .slice An a.names.length cn, .slice As a.subs.length cs]) (T := 25) (fr := (0, 0))]
   ·exact hv
   ·rw [Lib.alloc_old _ _ _ (by simp)]; exact heap_alloc_new _ _
  ·intro i v hv
   rw [(bcell hb).1 _ _ (by simp), Lib.cell_of_heap (cs := #[.int .i64 b.kind, .string b.pkg, .int .i64 b.major, .string b.mod, .string b.name, .slice Bn b.names.length cn', .slice Bs b.subs.length cs']) (T := 25) (fr := (0, 0))]
   ·exact hv
   ·have e : w.heap.size + 1 = (w.alloc (.cells #[.int .i64 a.kind, .string a.pkg, .int .i64 a.major, .string a.mod, .string a.name, .slice An a.names.length cn, .slice As a.subs.length cs] 25)).heap.size := by simp
    rw [e]; exact heap_alloc_new _ _
 have HFI := Lib.hid FIRST
 clear FIRST
 go_enter Try.func38, Try.ntmps38
 rcases hid_or (mayT a) with ha | ha
 ·have R : Hid ((mayT a && mayT b && sameT a b) = false) := Lib.hid (by rw [ha.out]; rfl)
  go_wp2_with fail
  refine (mayK_any a _ _ (HV.out.below HBX.out)).mono ?_; rintro e w5 ⟨rfl, hb5⟩; rw [ha.out]
  have HB5 := Lib.hid (HBX.out.trans (hb5.mono HBX.out.size))
  clear hb5
  go_wp2_with fail
  go_ret
  exact ⟨ret_bool R.out, HB5.out⟩
 go_wp2_with fail
 refine (mayK_any a _ _ (HV.out.below HBX.out)).mono ?_; rintro e w5 ⟨rfl, hb5⟩; rw [ha.out]
 obtain ⟨FA, FB⟩ := HFI.out w5 hb5
 have HB5 := Lib.hid (HBX.out.trans (hb5.mono HBX.out.size))
 have hz5 : w.heap.size + 1 + 1 ≤ w5.heap.size := by have := hb5.size; simpa using this
 have a0 := FA 0 _ rfl
 have a1 := FA 1 _ rfl
 have a2 := FA 2 _ rfl
 have a3 := FA 3 _ rfl
 have a4 := FA 4 _ rfl
 have a5 := FA 5 _ rfl
 have a6 := FA 6 _ rfl
 have b0 := FB 0 _ rfl
 have b1 := FB 1 _ rfl
 have b2 := FB 2 _ rfl
 have b3 := FB 3 _ rfl
 have b4 := FB 4 _ rfl
 have b5 := FB 5 _ rfl
 have b6 := FB 6 _ rfl
 have HFA := Lib.hid FA
 have HFB := Lib.hid FB
 clear hb5 FA FB
 rcases hid_or (mayT b) with hb | hb
 ·have R : Hid ((mayT a && mayT b && sameT a b) = false) := Lib.hid (by rw [ha.out, hb.out]; rfl)
  go_wp2_with fail
  refine (mayK_any b _ _ (HV'.out.below HB5.out)).mono ?_; rintro e w6 ⟨rfl, hb6⟩; rw [hb.out]
  have HB6 := Lib.hid (HB5.out.trans (hb6.mono HB5.out.size))
  clear hb6
  go_wp2_with fail
  go_ret
  exact ⟨ret_bool R.out, HB6.out⟩
 have R : Hid ((mayT a && mayT b && sameT a b) = sameT a b) := Lib.hid (by rw [ha.out, hb.out]; rfl)
 go_wp2_with fail
 refine (mayK_any b _ _ (HV'.out.below HB5.out)).mono ?_; rintro e w6 ⟨rfl, hb6⟩; rw [hb.out]
 have HB6 := Lib.hid (HB5.out.trans (hb6.mono HB5.out.size))
 have tr : ∀ j i v, j < w5.heap.size → w5.cell? ⟨j, i, none⟩ = some v → w6.cell? ⟨j, i, none⟩ = some v := fun j i v hj hv => (hb6.cell (p := ⟨j, i, none⟩) hj).trans hv
 have a0' := tr _ _ _ (by omega) a0
 have a1' := tr _ _ _ (by omega) a1
 have a2' := tr _ _ _ (by omega) a2
 have a3' := tr _ _ _ (by omega) a3
 have a4' := tr _ _ _ (by omega) a4
 have a5' := tr _ _ _ (by omega) a5
 have a6' := tr _ _ _ (by omega) a6
 have b0' := tr _ _ _ (by omega) b0
 have b1' := tr _ _ _ (by omega) b1
 have b2' := tr _ _ _ (by omega) b2
 have b3' := tr _ _ _ (by omega) b3
 have b4' := tr _ _ _ (by omega) b4
 have b5' := tr _ _ _ (by omega) b5
 have b6' := tr _ _ _ (by omega) b6
 clear a0 a1 a2 a3 a4 a5 a6 b0 b1 b2 b3 b4 b5 b6 tr hb6
 go_wp2_with fail
 refine (alike_any _ a b (Nat.le_refl _) _ _ _ (HV.out.below HB6.out) (HV'.out.below HB6.out)).mono ?_; rintro e w7 ⟨rfl, hb7⟩
 go_wp2_with fail
 go_ret
 exact ⟨ret_bool R.out, HB6.out.trans (hb7.mono HB6.out.size)⟩
set_option maxRecDepth 100000 in
set_option maxHeartbeats 4000000 in
theorem plainK_any (t : Ty) (v : Value) (w : World) (hv : TyV w v t) :
  Calls Try.prog 23 #[v] w fun e w' => e = .returned (.bool (mayT t && plainT t)) ∧ Below w.heap.size w w' := by
 have HV := Lib.hid hv
 obtain ⟨l, rfl, hT⟩ := hv
 obtain ⟨An, cn, As, cs, rfl, -, -, -, hzn, hz, -, -⟩ := hT.parts
 clear hT
 have HB0 := Lib.hid (below_new (Below.refl _ w) (.cells #[.int .i64 t.kind, .string t.pkg, .int .i64 t.major, .string t.mod, .string t.name, .slice An t.names.length cn, .slice As t.subs.length cs] 25))
 rcases hid_or (mayT t) with ha | ha
 ·have R : Hid ((mayT t && plainT t) = false) := Lib.hid (by rw [ha.out]; rfl)
  rw [R.out]
  go_enter Try.func23, Try.ntmps23
  go_wp2_with fail
  refine (mayK_any t _ _ (HV.out.below HB0.out)).mono ?_; rintro e w5 ⟨rfl, hb5⟩; rw [ha.out]
  go_wp2_with fail
  go_ret
  exact ⟨rfl, HB0.out.trans (hb5.mono HB0.out.size)⟩
 ·have R : Hid ((mayT t && plainT t) = plainT t) := Lib.hid (by rw [ha.out]; rfl)
  rw [R.out]
  go_enter Try.func23, Try.ntmps23
  go_wp2_with fail
  refine (mayK_any t _ _ (HV.out.below HB0.out)).mono ?_; rintro e w5 ⟨rfl, hb5⟩; rw [ha.out]
  have hb5' : Below (boxed w #[.int .i64 t.kind, .string t.pkg, .int .i64 t.major, .string t.mod, .string t.name, .slice An t.names.length cn, .slice As t.subs.length cs]).heap.size (boxed w #[.int .i64 t.kind, .string t.pkg, .int .i64 t.major, .string t.mod, .string t.name, .slice An t.names.length cn, .slice As t.subs.length cs]) w5 := hb5
  have HB5 := Lib.hid (box_below hb5')
  have c0 := box_cell hb5' 0; have c1 := box_cell hb5' 1; have c2 := box_cell hb5' 2; have c3 := box_cell hb5' 3; have c4 := box_cell hb5' 4; have c5 := box_cell hb5' 5; have c6 := box_cell hb5' 6
  simp at c0 c1 c2 c3 c4 c5 c6
  clear hb5 hb5'
  go_wp2_with fail
  refine (local_any _ t (Nat.le_refl _) _ _ (HV.out.below HB5.out)).mono ?_; rintro e w6 ⟨rfl, hb6⟩
  go_wp2_with fail
  go_ret
  exact ⟨ret_bool (by simp), HB5.out.trans (hb6.mono HB5.out.size)⟩
end Go.Proofs.Ytcdmgcgjonndpaa

/-  -/
namespace Go.Proofs.Ytcdmgcgjonndpaa
open Go Go.RowKit Go.Shelf
open Go.Sort
open M
def StCall (x y : Ty) : Prop := ∀ (lx ly : List Value) (w : World), TyAt w lx x → TyAt w ly y →
 Calls Try.prog 24 #[.agg lx.toArray, .agg ly.toArray] w fun e w' => e = .returned (.bool (subB x y)) ∧ Below w.heap.size w w'
theorem row_small {t : Ty} (g : GoodT t) (hk : t.kind = 5 ∨ t.kind = 6) (h9 : many t ≤ 9000) : t.names.length ≤ 9000 := by
 have h1 := (g.row hk).2.1
 have h2 := manyL_len t.subs
 have h3 := manyL_eq t
 omega
set_option maxRecDepth 100000 in
set_option maxHeartbeats 8000000 in
theorem recordStands_any (a b : Ty) (la lb : List Value) (w : World) (ga : GoodT a) (gb : GoodT b) (ka : a.kind = 5) (kb : b.kind = 5) (h9a : many a ≤ 9000) (h9b : many b ≤ 9000) (hTa : TyAt w la a) (hTb : TyAt w lb b)
  (IH : ∀ x y, many x + many y < many a + many b → many x ≤ 9000 → many y ≤ 9000 → GoodT x → GoodT y → StCall x y) :
  Calls Try.prog 36 #[.agg la.toArray, .agg lb.toArray] w fun e w' => e = .returned (.bool (subB a b)) ∧ Below w.heap.size w w' := by
 have HTa := Lib.hid hTa
 have HTb := Lib.hid hTb
 obtain ⟨An, cA, As, cS, rfl, -, -, -, -, -, hNa, hSa⟩ := hTa.parts
 obtain ⟨Bn, cB, Bs, cD, rfl, -, -, -, -, -, hNb, hSb⟩ := hTb.parts
 have h1 := row_small gb (.inl kb) h9b
 have h2 := row_small ga (.inl ka) h9a
 have h3 := (gb.row (.inl kb)).2.1
 have h4 := (ga.row (.inl ka)).2.1
 obtain ⟨W2, hW2, B2, O0, O1, hl2⟩ := two_boxes w #[.int .i64 a.kind, .string a.pkg, .int .i64 a.major, .string a.mod, .string a.name, .slice An a.names.length cA, .slice As a.subs.length cS] #[.int .i64 b.kind, .string b.pkg, .int .i64 b.major, .string b.mod, .string b.name, .slice Bn b.names.length cB, .slice Bs b.subs.length cD] 25 25
 have HB2 := Lib.hid B2
 have HX0 : Hid (∀ wx, Below W2.heap.size W2 wx → wx.heap[w.heap.size]? = some (.cells #[.int .i64 a.kind, .string a.pkg, .int .i64 a.major, .string a.mod, .string a.name, .slice An a.names.length cA, .slice As a.subs.length cS] 25 (0, 0))) := Lib.hid (fun wx hb => (hb.block _ (by omega)).trans O0)
 have HX1 : Hid (∀ wx, Below W2.heap.size W2 wx → wx.heap[w.heap.size + 1]? = some (.cells #[.int .i64 b.kind, .string b.pkg, .int .i64 b.major, .string b.mod, .string b.name, .slice Bn b.names.length cB, .slice Bs b.subs.length cD] 25 (0, 0))) := Lib.hid (fun wx hb => (hb.block _ (by omega)).trans O1)
 have HTM : Hid (∀ wx, Below W2.heap.size W2 wx → TyAt wx [.int .i64 a.kind, .string a.pkg, .int .i64 a.major, .string a.mod, .string a.name, .slice An a.names.length cA, .slice As a.subs.length cS] a) := Lib.hid (fun wx hb => HTa.out.keep (below_over HB2.out hb))
 have HNN : Hid (∀ wx, Below W2.heap.size W2 wx → NamesAt wx Bn b.names) := Lib.hid (fun wx hb i x hx => by
  obtain ⟨g, o, hA, hg, hc, hz⟩ := hNb i x hx
  have hb' := below_over HB2.out hb
  exact ⟨g, o, hA, Nat.lt_of_lt_of_le hg hb'.size, (hb'.cell (p := ⟨g, _, none⟩) hg).trans hc, hz⟩)
 have HSN : Hid (∀ wx, Below W2.heap.size W2 wx → SubsAt wx Bs b.subs) := Lib.hid (fun wx hb => hSb.below (below_over HB2.out hb))
 have gM := Lib.hid ga
 have gN := Lib.hid gb
 have HIH := Lib.hid IH
 have HLL := Lib.hid (And.intro h3 h4)
 have HLE : Hid (∀ (hf : ∀ s y, AtN b s y → ∃ x, AtN a s x ∧ SubR x y), SubR a b) := Lib.hid (fun hf => (le_loses (up := true) (a := a) (b := b) (by rw [ka]; exact .inl ⟨rfl, rfl⟩)).2 ⟨by rw [ka, kb], hf⟩)
 have HNO : Hid (SubR a b → ∀ s y, AtN b s y → ∃ x, AtN a s x ∧ SubR x y) := Lib.hid (fun h => ((le_loses (up := true) (a := a) (b := b) (by rw [ka]; exact .inl ⟨rfl, rfl⟩)).1 h).2)
 have HW := Lib.hid hW2
 have H99 := Lib.hid (And.intro h9a h9b)
 obtain ⟨n, hn⟩ : ∃ n, n = b.names.length := ⟨_, rfl⟩
 have HN := Lib.hid hn
 have XN := HX1.out W2 (Below.refl _ _)
 have x5 := Lib.cell_of_heap XN 5
 simp at x5
 rw [← hn] at x5 h1
 have hns : n = b.subs.length := by rw [hn, h3]
 have HNS := Lib.hid hns
 clear hW2 B2 O0 O1 hTa hTb hNa hSa hNb hSb ga gb ka kb IH XN h3 h4 hn hns h9a h9b
 go_enter Try.func36, Try.ntmps36
 go_upto_region 1 with fail
 rw [← HW.out]
 clear HW
 go_wp2_with fail
 clear x5
 go_loopw [12] (fun s12 wr => ∃ k : Nat, k ≤ n ∧ s12 = .int .i64 k ∧ Hid (∀ q s y, q < k → b.names[q]? = some s → b.subs[q]? = some y → ∃ x, AtN a s x ∧ SubR x y) ∧ Hid (Below W2.heap.size W2 wr)) (fun s12 _ => n - (intOf s12).toNat)
 case atStart => exact ⟨0, by omega, rfl, Lib.hid (fun q s y h => by omega), Lib.hid (Below.refl _ _)⟩
 case round =>
  obtain ⟨k, hk, rfl, HP, HB⟩ := hrel
  obtain ⟨wo, rfl⟩ : ∃ wo : World, wo = wr := ⟨_, rfl⟩
  by_cases hlt : k < n
  ·obtain ⟨s, hs⟩ : ∃ s, b.names[k]? = some s := ⟨_, List.getElem?_eq_getElem (by rw [← HN.out]; exact hlt)⟩
   obtain ⟨y, hy⟩ : ∃ y, b.subs[k]? = some y := ⟨_, List.getElem?_eq_getElem (by rw [← HNS.out]; exact hlt)⟩
   obtain ⟨g1, o1, rfl, hg1, hc1, -⟩ := HNN.out wo HB.out k s hs
   have hk0 : (0 : Int) ≤ k := by omega
   have hk1 : (k : Int) < n := by omega
   have XM := HX0.out wo HB.out
   have m0 := Lib.cell_of_heap XM 0
   have m1 := Lib.cell_of_heap XM 1
   have m2 := Lib.cell_of_heap XM 2
   have m3 := Lib.cell_of_heap XM 3
   have m4 := Lib.cell_of_heap XM 4
   have m5 := Lib.cell_of_heap XM 5
   have m6 := Lib.cell_of_heap XM 6
   simp at m0 m1 m2 m3 m4 m5 m6
   have CP := Lib.hid (part_any a [.int .i64 a.kind, .string a.pkg, .int .i64 a.major, .string a.mod, .string a.name, .slice An a.names.length cA, .slice As a.subs.length cS] s wo (HTM.out wo HB.out) gM.out.rise HLL.out.2 (by omega))
   have HS := Lib.hid hs
   have HYY := Lib.hid hy
   clear hs XM
   go_wp2_with fail
   refine CP.out.mono ?_; rintro e w3 ⟨l1, x, bq, rfl, hTx, hb3, hcase⟩
   obtain ⟨Fn, cF, Fs, dF, rfl, -⟩ := hTx.parts
   obtain ⟨w4, hw4⟩ : ∃ w4, w4 = w3.alloc (.cells #[.int .i64 x.kind, .string x.pkg, .int .i64 x.major, .string x.mod, .string x.name, .slice Fn x.names.length cF, .slice Fs x.subs.length dF] 25) := ⟨_, rfl⟩
   have B4 : Below w3.heap.size w3 w4 := by rw [hw4]; exact below_new (Below.refl _ _) _
   have Y4 : w4.heap[w3.heap.size]? = some (.cells #[.int .i64 x.kind, .string x.pkg, .int .i64 x.major, .string x.mod, .string x.name, .slice Fn x.names.length cF, .slice Fs x.subs.length dF] 25 (0, 0)) := by rw [hw4]; exact heap_alloc_new w3 _
   have HB4 : Hid (Below W2.heap.size W2 w4) := Lib.hid (below_over HB.out (below_over hb3 B4))
   have HX := Lib.hid (hTx.keep B4)
   have HC := Lib.hid hcase
   have HW4 := Lib.hid hw4
   clear m0 m1 m2 m3 m4 m5 m6 hTx hb3 hcase hw4 B4 CP hc1
   cases bq with
   | false =>
    have RES : Hid (subB a b = false) := Lib.hid (subB_no.2 (fun h => by
     obtain ⟨x', hx', -⟩ := HNO.out h s y ⟨k, HS.out, HYY.out⟩
     rcases HC.out with ⟨h, -⟩ | ⟨-, -, h⟩
     ·cases h
     ·exact h x' hx'))
    clear Y4 hy
    go_upto_region 5 with fail
    rw [← HW4.out]
    clear HW4
    go_quiet (fail)
    go_wp2_with fail
    go_ret
    exact ⟨by rw [RES.out]; try rfl, below_drewN (below_over HB2.out HB4.out) _⟩
   | true =>
    have hax : AtN a s x := by
     rcases HC.out with ⟨-, h⟩ | ⟨h, -⟩
     ·exact h
     ·cases h
    obtain ⟨g2, o2, v0, v1, v2, v3, v4, v5, v6, rfl, hg2, f0, f1, f2, f3, f4, f5, f6, hy7⟩ := HSN.out w4 HB4.out k y hy
    obtain ⟨Gn, cG, Gs, dG, rfl, rfl, rfl, rfl, rfl, rfl, rfl⟩ := hy7.seven
    have HY4 := Lib.hid hy7
    have hls : many x + many y < many a + many b ∧ many x ≤ 9000 ∧ many y ≤ 9000 := by
     have h1 := hax.lt
     have h2 := sub_lt_at hy
     have h3 := H99.out
     omega
    obtain ⟨q, hq⟩ : ∃ q, q = subB x y := ⟨_, rfl⟩
    have HQ := Lib.hid hq
    have cS : ∀ dd os, Calls Try.prog 24 #[.agg #[.int .i64 x.kind, .string x.pkg, .int .i64 x.major, .string x.mod, .string x.name, .slice Fn x.names.length cF, .slice Fs x.subs.length dF], .agg #[.int .i64 y.kind, .string y.pkg, .int .i64 y.major, .string y.mod, .string y.name, .slice Gn y.names.length cG, .slice Gs y.subs.length dG]] (Sort.grow (redrawn w4 dd) os) fun e w'' => e = .returned (.bool q) ∧ ∃ pp : Regrown, w'' = Sort.grow (redrawn w4 pp.d) pp.os := fun dd os => Calls.regrown_of (by
     rw [hq]; exact HIH.out x y (by omega) (by omega) (by omega) (gM.out.sub hax.sub) (gN.out.sub (List.mem_of_getElem? hy)) _ _ _ (HX.out.keep (below_regrown w4 dd os)) (HY4.out.keep (below_regrown w4 dd os)))
    have XN := HX1.out w4 HB4.out
    have z6 := Lib.cell_of_heap XN 6
    simp at z6
    rw [← HNS.out] at z6
    have z0 := Lib.cell_of_heap Y4 0
    have z1 := Lib.cell_of_heap Y4 1
    have z2 := Lib.cell_of_heap Y4 2
    have z3 := Lib.cell_of_heap Y4 3
    have z4 := Lib.cell_of_heap Y4 4
    have z5 := Lib.cell_of_heap Y4 5
    have z6 := Lib.cell_of_heap Y4 6
    simp at z0 z1 z2 z3 z4 z5 z6
    have zz := Lib.cell_of_heap XN 6
    simp at zz
    rw [← HNS.out] at zz
    have HAX := Lib.hid hax
    clear Y4 hy hy7 hls XN hq hax z6
    have z6 := Lib.cell_of_heap (by rw [HW4.out]; exact heap_alloc_new w3 _ : w4.heap[w3.heap.size]? = some (.cells #[.int .i64 x.kind, .string x.pkg, .int .i64 x.major, .string x.mod, .string x.name, .slice Fn x.names.length cF, .slice Fs x.subs.length dF] 25 (0, 0))) 6
    simp at z6
    go_upto_region 5 with fail
    rw [← HW4.out]
    clear HW4
    have p0 := cell_regrown z0
    have p1 := cell_regrown z1
    have p2 := cell_regrown z2
    have p3 := cell_regrown z3
    have p4 := cell_regrown z4
    have p5 := cell_regrown z5
    have p6 := cell_regrown z6
    have r0 := cell_regrown f0
    have r1 := cell_regrown f1
    have r2 := cell_regrown f2
    have r3 := cell_regrown f3
    have r4 := cell_regrown f4
    have r5 := cell_regrown f5
    have r6 := cell_regrown f6
    have s6 := cell_regrown zz
    clear z0 z1 z2 z3 z4 z5 z6 f0 f1 f2 f3 f4 f5 f6 zz
    refine wp_region_quiet_below (by kernel_rfl) (by kernel_rfl) ?_
    repeat (any_goals (first | go_big_quiet_step (with_reducible exact cS _ _) | quiet_step (with_reducible exact cS _ _)))
    refine wpQuiet_nil ?_
    intro w5 hw'
    have HB5 : Hid (Below W2.heap.size W2 w5) := Lib.hid (by
     obtain ⟨⟨dq, osq⟩, hw''⟩ := hw'
     rw [hw'']
     exact below_over HB4.out (below_regrown w4 dq osq))
    clear hw' cS p0 p1 p2 p3 p4 p5 p6 r0 r1 r2 r3 r4 r5 r6 s6
    cases q with
    | true =>
     have NX : Hid (∀ q s y, q < k + 1 → b.names[q]? = some s → b.subs[q]? = some y → ∃ x, AtN a s x ∧ SubR x y) := Lib.hid (fun q s' y' hq h1 h2 => by
      rcases Nat.lt_or_ge q k with c | c
      ·exact HP.out q s' y' c h1 h2
      ·obtain rfl : q = k := by omega
       rw [HS.out] at h1; cases h1
       rw [HYY.out] at h2; cases h2
       exact ⟨x, HAX.out, subB_iff.1 HQ.out.symm⟩)
     go_wp2_with fail
     go_roundw
     case rel => exact ⟨k + 1, by omega, by go_num, NX, HB5⟩
     case measure => simp [intOf]; omega
    | false =>
     have RES : Hid (subB a b = false) := Lib.hid (subB_no.2 (fun h => by
      obtain ⟨x', hx', hsub⟩ := HNO.out h s y ⟨k, HS.out, HYY.out⟩
      obtain rfl := gM.out.one HAX.out hx'
      exact subB_no.1 HQ.out.symm hsub))
     go_wp2_with fail
     go_ret
     exact ⟨by rw [RES.out]; try rfl, below_over HB2.out HB5.out⟩
  ·have RES : Hid (subB a b = true) := Lib.hid (subB_iff.2 (HLE.out (fun s y hy => by
    obtain ⟨i, h1, h2⟩ := hy
    have := (List.getElem?_eq_some_iff.1 h1).1
    exact HP.out i s y (by have := HN.out; omega) h1 h2)))
   go_wp2_with fail
   go_ret
   exact ⟨by rw [RES.out]; try rfl, below_over HB2.out HB.out⟩
set_option maxRecDepth 100000 in
set_option maxHeartbeats 8000000 in
theorem variantStands_any (a b : Ty) (la lb : List Value) (w : World) (ga : GoodT a) (gb : GoodT b) (ka : a.kind = 6) (kb : b.kind = 6) (h9a : many a ≤ 9000) (h9b : many b ≤ 9000) (hTa : TyAt w la a) (hTb : TyAt w lb b)
  (IH : ∀ x y, many x + many y < many a + many b → many x ≤ 9000 → many y ≤ 9000 → GoodT x → GoodT y → StCall x y) :
  Calls Try.prog 37 #[.agg la.toArray, .agg lb.toArray] w fun e w' => e = .returned (.bool (subB a b)) ∧ Below w.heap.size w w' := by
 have HTa := Lib.hid hTa
 have HTb := Lib.hid hTb
 obtain ⟨An, cA, As, cS, rfl, -, -, -, -, -, hNa, hSa⟩ := hTa.parts
 obtain ⟨Bn, cB, Bs, cD, rfl, -, -, -, -, -, hNb, hSb⟩ := hTb.parts
 have h1 := row_small ga (.inr ka) h9a
 have h2 := row_small gb (.inr kb) h9b
 have h3 := (ga.row (.inr ka)).2.1
 have h4 := (gb.row (.inr kb)).2.1
 obtain ⟨W2, hW2, B2, O0, O1, hl2⟩ := two_boxes w #[.int .i64 a.kind, .string a.pkg, .int .i64 a.major, .string a.mod, .string a.name, .slice An a.names.length cA, .slice As a.subs.length cS] #[.int .i64 b.kind, .string b.pkg, .int .i64 b.major, .string b.mod, .string b.name, .slice Bn b.names.length cB, .slice Bs b.subs.length cD] 25 25
 have HB2 := Lib.hid B2
 have HX0 : Hid (∀ wx, Below W2.heap.size W2 wx → wx.heap[w.heap.size]? = some (.cells #[.int .i64 a.kind, .string a.pkg, .int .i64 a.major, .string a.mod, .string a.name, .slice An a.names.length cA, .slice As a.subs.length cS] 25 (0, 0))) := Lib.hid (fun wx hb => (hb.block _ (by omega)).trans O0)
 have HX1 : Hid (∀ wx, Below W2.heap.size W2 wx → wx.heap[w.heap.size + 1]? = some (.cells #[.int .i64 b.kind, .string b.pkg, .int .i64 b.major, .string b.mod, .string b.name, .slice Bn b.names.length cB, .slice Bs b.subs.length cD] 25 (0, 0))) := Lib.hid (fun wx hb => (hb.block _ (by omega)).trans O1)
 have HTM : Hid (∀ wx, Below W2.heap.size W2 wx → TyAt wx [.int .i64 b.kind, .string b.pkg, .int .i64 b.major, .string b.mod, .string b.name, .slice Bn b.names.length cB, .slice Bs b.subs.length cD] b) := Lib.hid (fun wx hb => HTb.out.keep (below_over HB2.out hb))
 have HNN : Hid (∀ wx, Below W2.heap.size W2 wx → NamesAt wx An a.names) := Lib.hid (fun wx hb i x hx => by
  obtain ⟨g, o, hA, hg, hc, hz⟩ := hNa i x hx
  have hb' := below_over HB2.out hb
  exact ⟨g, o, hA, Nat.lt_of_lt_of_le hg hb'.size, (hb'.cell (p := ⟨g, _, none⟩) hg).trans hc, hz⟩)
 have HSN : Hid (∀ wx, Below W2.heap.size W2 wx → SubsAt wx As a.subs) := Lib.hid (fun wx hb => hSa.below (below_over HB2.out hb))
 have gM := Lib.hid gb
 have gN := Lib.hid ga
 have HIH := Lib.hid IH
 have HLL := Lib.hid (And.intro h3 h4)
 have HLE : Hid (∀ (hf : ∀ s y, AtN a s y → ∃ x, AtN b s x ∧ SubR y x), SubR a b) := Lib.hid (fun hf => (le_wins (up := true) (a := a) (b := b) (by rw [ka]; exact .inl ⟨rfl, rfl⟩)).2 ⟨by rw [ka, kb], hf⟩)
 have HNO : Hid (SubR a b → ∀ s y, AtN a s y → ∃ x, AtN b s x ∧ SubR y x) := Lib.hid (fun h => ((le_wins (up := true) (a := a) (b := b) (by rw [ka]; exact .inl ⟨rfl, rfl⟩)).1 h).2)
 have HW := Lib.hid hW2
 have H99 := Lib.hid (And.intro h9a h9b)
 obtain ⟨n, hn⟩ : ∃ n, n = a.names.length := ⟨_, rfl⟩
 have HN := Lib.hid hn
 have XN := HX0.out W2 (Below.refl _ _)
 have x5 := Lib.cell_of_heap XN 5
 simp at x5
 rw [← hn] at x5 h1
 have hns : n = a.subs.length := by rw [hn, h3]
 have HNS := Lib.hid hns
 clear hW2 B2 O0 O1 hTa hTb hNa hSa hNb hSb ga gb ka kb IH XN h3 h4 hn hns h9a h9b
 go_enter Try.func37, Try.ntmps37
 go_upto_region 1 with fail
 rw [← HW.out]
 clear HW
 go_wp2_with fail
 clear x5
 go_loopw [12] (fun s12 wr => ∃ k : Nat, k ≤ n ∧ s12 = .int .i64 k ∧ Hid (∀ q s y, q < k → a.names[q]? = some s → a.subs[q]? = some y → ∃ x, AtN b s x ∧ SubR y x) ∧ Hid (Below W2.heap.size W2 wr)) (fun s12 _ => n - (intOf s12).toNat)
 case atStart => exact ⟨0, by omega, rfl, Lib.hid (fun q s y h => by omega), Lib.hid (Below.refl _ _)⟩
 case round =>
  obtain ⟨k, hk, rfl, HP, HB⟩ := hrel
  obtain ⟨wo, rfl⟩ : ∃ wo : World, wo = wr := ⟨_, rfl⟩
  by_cases hlt : k < n
  ·obtain ⟨s, hs⟩ : ∃ s, a.names[k]? = some s := ⟨_, List.getElem?_eq_getElem (by rw [← HN.out]; exact hlt)⟩
   obtain ⟨y, hy⟩ : ∃ y, a.subs[k]? = some y := ⟨_, List.getElem?_eq_getElem (by rw [← HNS.out]; exact hlt)⟩
   obtain ⟨g1, o1, rfl, hg1, hc1, -⟩ := HNN.out wo HB.out k s hs
   have hk0 : (0 : Int) ≤ k := by omega
   have hk1 : (k : Int) < n := by omega
   have XM := HX1.out wo HB.out
   have m0 := Lib.cell_of_heap XM 0
   have m1 := Lib.cell_of_heap XM 1
   have m2 := Lib.cell_of_heap XM 2
   have m3 := Lib.cell_of_heap XM 3
   have m4 := Lib.cell_of_heap XM 4
   have m5 := Lib.cell_of_heap XM 5
   have m6 := Lib.cell_of_heap XM 6
   simp at m0 m1 m2 m3 m4 m5 m6
   have CP := Lib.hid (part_any b [.int .i64 b.kind, .string b.pkg, .int .i64 b.major, .string b.mod, .string b.name, .slice Bn b.names.length cB, .slice Bs b.subs.length cD] s wo (HTM.out wo HB.out) gM.out.rise HLL.out.2 (by omega))
   have HS := Lib.hid hs
   have HYY := Lib.hid hy
   clear hs XM
   go_wp2_with fail
   refine CP.out.mono ?_; rintro e w3 ⟨l1, x, bq, rfl, hTx, hb3, hcase⟩
   obtain ⟨Fn, cF, Fs, dF, rfl, -⟩ := hTx.parts
   obtain ⟨w4, hw4⟩ : ∃ w4, w4 = w3.alloc (.cells #[.int .i64 x.kind, .string x.pkg, .int .i64 x.major, .string x.mod, .string x.name, .slice Fn x.names.length cF, .slice Fs x.subs.length dF] 25) := ⟨_, rfl⟩
   have B4 : Below w3.heap.size w3 w4 := by rw [hw4]; exact below_new (Below.refl _ _) _
   have Y4 : w4.heap[w3.heap.size]? = some (.cells #[.int .i64 x.kind, .string x.pkg, .int .i64 x.major, .string x.mod, .string x.name, .slice Fn x.names.length cF, .slice Fs x.subs.length dF] 25 (0, 0)) := by rw [hw4]; exact heap_alloc_new w3 _
   have HB4 : Hid (Below W2.heap.size W2 w4) := Lib.hid (below_over HB.out (below_over hb3 B4))
   have HX := Lib.hid (hTx.keep B4)
   have HC := Lib.hid hcase
   have HW4 := Lib.hid hw4
   clear m0 m1 m2 m3 m4 m5 m6 hTx hb3 hcase hw4 B4 CP hc1
   cases bq with
   | false =>
    have RES : Hid (subB a b = false) := Lib.hid (subB_no.2 (fun h => by
     obtain ⟨x', hx', -⟩ := HNO.out h s y ⟨k, HS.out, HYY.out⟩
     rcases HC.out with ⟨h, -⟩ | ⟨-, -, h⟩
     ·cases h
     ·exact h x' hx'))
    clear Y4 hy
    go_upto_region 5 with fail
    rw [← HW4.out]
    clear HW4
    go_quiet (fail)
    go_wp2_with fail
    go_ret
    exact ⟨by rw [RES.out]; try rfl, below_drewN (below_over HB2.out HB4.out) _⟩
   | true =>
    have hax : AtN b s x := by
     rcases HC.out with ⟨-, h⟩ | ⟨h, -⟩
     ·exact h
     ·cases h
    obtain ⟨g2, o2, v0, v1, v2, v3, v4, v5, v6, rfl, hg2, f0, f1, f2, f3, f4, f5, f6, hy7⟩ := HSN.out w4 HB4.out k y hy
    obtain ⟨Gn, cG, Gs, dG, rfl, rfl, rfl, rfl, rfl, rfl, rfl⟩ := hy7.seven
    have HY4 := Lib.hid hy7
    have hls : many x + many y < many a + many b ∧ many x ≤ 9000 ∧ many y ≤ 9000 := by
     have h1 := hax.lt
     have h2 := sub_lt_at hy
     have h3 := H99.out
     omega
    obtain ⟨q, hq⟩ : ∃ q, q = subB y x := ⟨_, rfl⟩
    have HQ := Lib.hid hq
    have cS : ∀ dd os, Calls Try.prog 24 #[.agg #[.int .i64 y.kind, .string y.pkg, .int .i64 y.major, .string y.mod, .string y.name, .slice Gn y.names.length cG, .slice Gs y.subs.length dG], .agg #[.int .i64 x.kind, .string x.pkg, .int .i64 x.major, .string x.mod, .string x.name, .slice Fn x.names.length cF, .slice Fs x.subs.length dF]] (Sort.grow (redrawn w4 dd) os) fun e w'' => e = .returned (.bool q) ∧ ∃ pp : Regrown, w'' = Sort.grow (redrawn w4 pp.d) pp.os := fun dd os => Calls.regrown_of (by
     rw [hq]; exact HIH.out y x (by omega) (by omega) (by omega) (gN.out.sub (List.mem_of_getElem? hy)) (gM.out.sub hax.sub) _ _ _ (HY4.out.keep (below_regrown w4 dd os)) (HX.out.keep (below_regrown w4 dd os)))
    have XN := HX0.out w4 HB4.out
    have z6 := Lib.cell_of_heap XN 6
    simp at z6
    rw [← HNS.out] at z6
    have z0 := Lib.cell_of_heap Y4 0
    have z1 := Lib.cell_of_heap Y4 1
    have z2 := Lib.cell_of_heap Y4 2
    have z3 := Lib.cell_of_heap Y4 3
    have z4 := Lib.cell_of_heap Y4 4
    have z5 := Lib.cell_of_heap Y4 5
    have z6 := Lib.cell_of_heap Y4 6
    simp at z0 z1 z2 z3 z4 z5 z6
    have zz := Lib.cell_of_heap XN 6
    simp at zz
    rw [← HNS.out] at zz
    have HAX := Lib.hid hax
    clear Y4 hy hy7 hls XN hq hax z6
    have z6 := Lib.cell_of_heap (by rw [HW4.out]; exact heap_alloc_new w3 _ : w4.heap[w3.heap.size]? = some (.cells #[.int .i64 x.kind, .string x.pkg, .int .i64 x.major, .string x.mod, .string x.name, .slice Fn x.names.length cF, .slice Fs x.subs.length dF] 25 (0, 0))) 6
    simp at z6
    go_upto_region 5 with fail
    rw [← HW4.out]
    clear HW4
    have p0 := cell_regrown z0
    have p1 := cell_regrown z1
    have p2 := cell_regrown z2
    have p3 := cell_regrown z3
    have p4 := cell_regrown z4
    have p5 := cell_regrown z5
    have p6 := cell_regrown z6
    have r0 := cell_regrown f0
    have r1 := cell_regrown f1
    have r2 := cell_regrown f2
    have r3 := cell_regrown f3
    have r4 := cell_regrown f4
    have r5 := cell_regrown f5
    have r6 := cell_regrown f6
    have s6 := cell_regrown zz
    clear z0 z1 z2 z3 z4 z5 z6 f0 f1 f2 f3 f4 f5 f6 zz
    refine wp_region_quiet_below (by kernel_rfl) (by kernel_rfl) ?_
    repeat (any_goals (first | go_big_quiet_step (with_reducible exact cS _ _) | quiet_step (with_reducible exact cS _ _)))
    refine wpQuiet_nil ?_
    intro w5 hw'
    have HB5 : Hid (Below W2.heap.size W2 w5) := Lib.hid (by
     obtain ⟨⟨dq, osq⟩, hw''⟩ := hw'
     rw [hw'']
     exact below_over HB4.out (below_regrown w4 dq osq))
    clear hw' cS p0 p1 p2 p3 p4 p5 p6 r0 r1 r2 r3 r4 r5 r6 s6
    cases q with
    | true =>
     have NX : Hid (∀ q s y, q < k + 1 → a.names[q]? = some s → a.subs[q]? = some y → ∃ x, AtN b s x ∧ SubR y x) := Lib.hid (fun q s' y' hq h1 h2 => by
      rcases Nat.lt_or_ge q k with c | c
      ·exact HP.out q s' y' c h1 h2
      ·obtain rfl : q = k := by omega
       rw [HS.out] at h1; cases h1
       rw [HYY.out] at h2; cases h2
       exact ⟨x, HAX.out, subB_iff.1 HQ.out.symm⟩)
     go_wp2_with fail
     go_roundw
     case rel => exact ⟨k + 1, by omega, by go_num, NX, HB5⟩
     case measure => simp [intOf]; omega
    | false =>
     have RES : Hid (subB a b = false) := Lib.hid (subB_no.2 (fun h => by
      obtain ⟨x', hx', hsub⟩ := HNO.out h s y ⟨k, HS.out, HYY.out⟩
      obtain rfl := gM.out.one HAX.out hx'
      exact subB_no.1 HQ.out.symm hsub))
     go_wp2_with fail
     go_ret
     exact ⟨by rw [RES.out]; try rfl, below_over HB2.out HB5.out⟩
  ·have RES : Hid (subB a b = true) := Lib.hid (subB_iff.2 (HLE.out (fun s y hy => by
    obtain ⟨i, h1, h2⟩ := hy
    have := (List.getElem?_eq_some_iff.1 h1).1
    exact HP.out i s y (by have := HN.out; omega) h1 h2)))
   go_wp2_with fail
   go_ret
   exact ⟨by rw [RES.out]; try rfl, below_over HB2.out HB.out⟩
end Go.Proofs.Ytcdmgcgjonndpaa
