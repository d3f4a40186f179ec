/-
  Several texts in one.
-/
import Derived.Test.YtddlmigofilejaaGreatK06
import Derived.RangeFuncNested
import Derived.RangeFuncBound
import Derived.RangeFuncCalls
import Derived.RangeFuncLeaves
import Derived.Shelf.Abstract
import Derived.Shelf.RegionOpen
import Derived.OwnWalkIn
import Derived.TacticsInMore
import Derived.LoopNIn
import Derived.LoopIn
import Derived.Maps.OwnIn
set_option maxRecDepth 100000
set_option maxHeartbeats 8000000
namespace Go.Proofs.YtddlmigofilejaaGreat
open Go.RowKit
open Go.Sort Go.Maps
open M
def fstN (p : Nat -> Bool) (n : Nat) : Int := match (List.range n).find? p with | some i => (i : Int) | none => -1
theorem fstN_yes {p : Nat -> Bool} {n k : Nat} (hk : k < n) (h : ∀ i, i < k -> p i = false) (hp : p k = true) : fstN p n = k := by
 unfold fstN
 have : (List.range n).find? p = some k := by
  rw [List.find?_range_eq_some];exact ⟨hp, List.mem_range.2 hk, fun i hi => by rw [h i hi]; rfl⟩
 rw [this]
theorem fstN_no {p : Nat -> Bool} {n : Nat} (h : ∀ i, i < n -> p i = false) : fstN p n = -1 := by
 unfold fstN
 have : (List.range n).find? p = none := by
  rw [List.find?_eq_none];intro i hi;rw [h i (List.mem_range.1 hi)]; decide
 rw [this]
noncomputable def atE (E : List En) (p : En -> Bool) (i : Nat) : Bool := match E[i]? with | some x => p x | none => false
theorem atE_some {E : List En} {p : En -> Bool} {i : Nat} {x : En} (h : E[i]? = some x) : atE E p i = p x := by unfold atE; rw [h]
theorem index_mis (E : List En) (hE : Valid E) (hE2 : E.length <= 1000000) (hA : ∀ x ∈ E, x.at_ < E.length) (Ae : Option Addr) (ce b0 b1 : Nat) (w : World) (hR : RowIn enR w Ae E) :
  Calls Tryz.prog 169 #[.slice Ae E.length ce, .func (.func 170) #[] #[]] w fun e w' => e = .returned (.int .i64 (fstN (atE E (fun x => !x.whole)) E.length)) /\ Below w.heap.size w w' := by
 have HR := hZ hR
 obtain ⟨V, hV⟩ : ∃ V, V = fstN (atE E (fun x => !x.whole)) E.length := ⟨_, rfl⟩
 have HV := hZ hV
 rw [<- hV]
 obtain ⟨n, hn⟩ : ∃ n, n = E.length := ⟨_, rfl⟩
 have HN := hZ hn
 have HEE := hZ hE
 have HAA := hZ hA
 rw [<- hn] at hE2 ⊢
 clear hR hn hV hE hA
 go_enter Tryz.func169, Tryz.ntmps169
 go_wp2_with fail
 go_loopw [8] (fun iv wr => ∃ k : Nat, k <= n /\ iv = .int .i64 k /\ Hid (∀ i, i < k -> atE E (fun x => !x.whole) i = false) /\ Hid (Below w.heap.size w wr)) (fun iv _ => n - (intOf iv).toNat)
 case atStart => exact ⟨0, by omega, rfl, hZ (fun i h => by omega), hZ (Below.refl _ _)⟩
 case round =>
  obtain ⟨k, hk, rfl, HQ, HB⟩ := hrel;obtain ⟨wo, rfl⟩ : ∃ wo : World, wo = wr := ⟨_, rfl⟩;by_cases hlt : k < n
  ·have hx : E[k]? = some E[k] := List.getElem?_eq_getElem (by rw [<- HN.out]; exact hlt)
   obtain ⟨x, hxx⟩ : ∃ x, x = E[k] := ⟨_, rfl⟩;rw [<- hxx] at hx;obtain ⟨g, o, lv, rfl, hg, hc, As, cs, rfl, hNs, hlen⟩ := HR.out.below HB.out k x hx;have u0 := hc 0 _ rfl;have u1 := hc 1 _ rfl;have u2 := hc 2 _ rfl;have u3 := hc 3 _ rfl;have y0 : wo.cell? ⟨g, o + k * 4, none⟩ = some (.int .i64 x.at_) := u0;have y1 : wo.cell? ⟨g, o + k * 4 + 1, none⟩ = some (.int .i64 x.kind) := u1;have y2 : wo.cell? ⟨g, o + k * 4 + 2, none⟩ = some (.slice As x.said.length cs) := u2;have y3 : wo.cell? ⟨g, o + k * 4 + 3, none⟩ = some (.bool x.whole) := u3;have hmem := List.mem_of_getElem? hx;have CA := hZ (mis_any x.at_ x.kind As x.said.length cs x.whole wo);obtain ⟨r, hr⟩ : ∃ r, (!x.whole) = r := ⟨_, rfl⟩;rw [hr] at CA;have HAT : Hid (atE E (fun x => !x.whole) k = r) := hZ (by rw [atE_some hx]; exact hr);clear hx hxx hc hNs hlen u0 u1 u2 u3 hr hmem;cases r with
   | true =>
    have RV : V = (k : Int) := by rw [HV.out]; exact fstN_yes (by rw [<- HN.out]; exact hlt) HQ.out HAT.out
    subst RV;go_wp2_with fail
    refine CA.out.mono ?_; rintro e w2 ⟨rfl, hb2⟩
    have HB2 := hZ (below_over HB.out hb2);clear y0 y1 y2 y3 hb2;go_wp2_with fail
    go_ret;exact ⟨rfl, HB2.out⟩
   | false =>
    go_wp2_with fail
    refine CA.out.mono ?_; rintro e w2 ⟨rfl, hb2⟩
    have HB2 := hZ (below_over HB.out hb2);clear y0 y1 y2 y3 hb2;go_wp2_with fail
    go_roundw
    case rel => exact ⟨k + 1, by omega, by go_num, hZ (fun i hi => by
     by_cases e : i = k
     ·rw [e]; exact HAT.out
     ·exact HQ.out i (by omega)), HB2⟩
    case measure => simp [intOf]; omega
  ·have RV : V = -1 := by rw [HV.out]; exact fstN_no (fun i hi => HQ.out i (by rw [<- HN.out] at hi; omega))
   subst RV;go_wp2_with fail
   go_ret;exact ⟨rfl, HB.out⟩
theorem index_circ (E : List En) (hE : Valid E) (hE2 : E.length <= 1000000) (hA : ∀ x ∈ E, x.at_ < E.length) (Ae : Option Addr) (ce b0 b1 : Nat) (w : World) (hR : RowIn enR w Ae E) :
  Calls Tryz.prog 169 #[.slice Ae E.length ce, .func (.func 171) #[.agg #[.map (some b0), .map (some b1), .slice Ae E.length ce]] #[]] w fun e w' => e = .returned (.int .i64 (fstN (atE E (fun x => reachB E x.said x.at_)) E.length)) /\ Below w.heap.size w w' := by
 have HR := hZ hR
 obtain ⟨V, hV⟩ : ∃ V, V = fstN (atE E (fun x => reachB E x.said x.at_)) E.length := ⟨_, rfl⟩
 have HV := hZ hV
 rw [<- hV]
 obtain ⟨n, hn⟩ : ∃ n, n = E.length := ⟨_, rfl⟩
 have HN := hZ hn
 have HEE := hZ hE
 have HAA := hZ hA
 rw [<- hn] at hE2 ⊢
 clear hR hn hV hE hA
 go_enter Tryz.func169, Tryz.ntmps169
 go_wp2_with fail
 go_loopw [8] (fun iv wr => ∃ k : Nat, k <= n /\ iv = .int .i64 k /\ Hid (∀ i, i < k -> atE E (fun x => reachB E x.said x.at_) i = false) /\ Hid (Below w.heap.size w wr)) (fun iv _ => n - (intOf iv).toNat)
 case atStart => exact ⟨0, by omega, rfl, hZ (fun i h => by omega), hZ (Below.refl _ _)⟩
 case round =>
  obtain ⟨k, hk, rfl, HQ, HB⟩ := hrel;obtain ⟨wo, rfl⟩ : ∃ wo : World, wo = wr := ⟨_, rfl⟩;by_cases hlt : k < n
  ·have hx : E[k]? = some E[k] := List.getElem?_eq_getElem (by rw [<- HN.out]; exact hlt)
   obtain ⟨x, hxx⟩ : ∃ x, x = E[k] := ⟨_, rfl⟩;rw [<- hxx] at hx;obtain ⟨g, o, lv, rfl, hg, hc, As, cs, rfl, hNs, hlen⟩ := HR.out.below HB.out k x hx;have u0 := hc 0 _ rfl;have u1 := hc 1 _ rfl;have u2 := hc 2 _ rfl;have u3 := hc 3 _ rfl;have y0 : wo.cell? ⟨g, o + k * 4, none⟩ = some (.int .i64 x.at_) := u0;have y1 : wo.cell? ⟨g, o + k * 4 + 1, none⟩ = some (.int .i64 x.kind) := u1;have y2 : wo.cell? ⟨g, o + k * 4 + 2, none⟩ = some (.slice As x.said.length cs) := u2;have y3 : wo.cell? ⟨g, o + k * 4 + 3, none⟩ = some (.bool x.whole) := u3;have hmem := List.mem_of_getElem? hx;have CA := hZ (circ_any E HEE.out (by rw [<- HN.out]; exact hE2) _ ce b0 b1 x As cs wo (HR.out.below HB.out) hNs (HEE.out x hmem) hlen (HAA.out x hmem));rw [<- HN.out] at CA;obtain ⟨r, hr⟩ : ∃ r, reachB E x.said x.at_ = r := ⟨_, rfl⟩;rw [hr] at CA;have HAT : Hid (atE E (fun x => reachB E x.said x.at_) k = r) := hZ (by rw [atE_some hx]; exact hr);clear hx hxx hc hNs hlen u0 u1 u2 u3 hr hmem;cases r with
   | true =>
    have RV : V = (k : Int) := by rw [HV.out]; exact fstN_yes (by rw [<- HN.out]; exact hlt) HQ.out HAT.out
    subst RV;go_wp2_with fail
    refine CA.out.mono ?_; rintro e w2 ⟨rfl, hb2⟩
    have HB2 := hZ (below_over HB.out hb2);clear y0 y1 y2 y3 hb2;go_wp2_with fail
    go_ret;exact ⟨rfl, HB2.out⟩
   | false =>
    go_wp2_with fail
    refine CA.out.mono ?_; rintro e w2 ⟨rfl, hb2⟩
    have HB2 := hZ (below_over HB.out hb2);clear y0 y1 y2 y3 hb2;go_wp2_with fail
    go_roundw
    case rel => exact ⟨k + 1, by omega, by go_num, hZ (fun i hi => by
     by_cases e : i = k
     ·rw [e]; exact HAT.out
     ·exact HQ.out i (by omega)), HB2⟩
    case measure => simp [intOf]; omega
  ·have RV : V = -1 := by rw [HV.out]; exact fstN_no (fun i hi => HQ.out i (by rw [<- HN.out] at hi; omega))
   subst RV;go_wp2_with fail
   go_ret;exact ⟨rfl, HB.out⟩
theorem index_hid (E : List En) (hE : Valid E) (hE2 : E.length <= 1000000) (hA : ∀ x ∈ E, x.at_ < E.length) (Ae : Option Addr) (ce b0 b1 : Nat) (w : World) (hR : RowIn enR w Ae E) :
  Calls Tryz.prog 169 #[.slice Ae E.length ce, .func (.func 172) #[.agg #[.map (some b0), .map (some b1), .slice Ae E.length ce]] #[]] w fun e w' => e = .returned (.int .i64 (fstN (atE E (fun x => hidB E x.said)) E.length)) /\ Below w.heap.size w w' := by
 have HR := hZ hR
 obtain ⟨V, hV⟩ : ∃ V, V = fstN (atE E (fun x => hidB E x.said)) E.length := ⟨_, rfl⟩
 have HV := hZ hV
 rw [<- hV]
 obtain ⟨n, hn⟩ : ∃ n, n = E.length := ⟨_, rfl⟩
 have HN := hZ hn
 have HEE := hZ hE
 have HAA := hZ hA
 rw [<- hn] at hE2 ⊢
 clear hR hn hV hE hA
 go_enter Tryz.func169, Tryz.ntmps169
 go_wp2_with fail
 go_loopw [8] (fun iv wr => ∃ k : Nat, k <= n /\ iv = .int .i64 k /\ Hid (∀ i, i < k -> atE E (fun x => hidB E x.said) i = false) /\ Hid (Below w.heap.size w wr)) (fun iv _ => n - (intOf iv).toNat)
 case atStart => exact ⟨0, by omega, rfl, hZ (fun i h => by omega), hZ (Below.refl _ _)⟩
 case round =>
  obtain ⟨k, hk, rfl, HQ, HB⟩ := hrel;obtain ⟨wo, rfl⟩ : ∃ wo : World, wo = wr := ⟨_, rfl⟩;by_cases hlt : k < n
  ·have hx : E[k]? = some E[k] := List.getElem?_eq_getElem (by rw [<- HN.out]; exact hlt)
   obtain ⟨x, hxx⟩ : ∃ x, x = E[k] := ⟨_, rfl⟩;rw [<- hxx] at hx;obtain ⟨g, o, lv, rfl, hg, hc, As, cs, rfl, hNs, hlen⟩ := HR.out.below HB.out k x hx;have u0 := hc 0 _ rfl;have u1 := hc 1 _ rfl;have u2 := hc 2 _ rfl;have u3 := hc 3 _ rfl;have y0 : wo.cell? ⟨g, o + k * 4, none⟩ = some (.int .i64 x.at_) := u0;have y1 : wo.cell? ⟨g, o + k * 4 + 1, none⟩ = some (.int .i64 x.kind) := u1;have y2 : wo.cell? ⟨g, o + k * 4 + 2, none⟩ = some (.slice As x.said.length cs) := u2;have y3 : wo.cell? ⟨g, o + k * 4 + 3, none⟩ = some (.bool x.whole) := u3;have hmem := List.mem_of_getElem? hx;have CA := hZ (hid_any E HEE.out (by rw [<- HN.out]; exact hE2) _ ce b0 b1 x As cs wo (HR.out.below HB.out) hNs (HEE.out x hmem) hlen);rw [<- HN.out] at CA;obtain ⟨r, hr⟩ : ∃ r, hidB E x.said = r := ⟨_, rfl⟩;rw [hr] at CA;have HAT : Hid (atE E (fun x => hidB E x.said) k = r) := hZ (by rw [atE_some hx]; exact hr);clear hx hxx hc hNs hlen u0 u1 u2 u3 hr hmem;cases r with
   | true =>
    have RV : V = (k : Int) := by rw [HV.out]; exact fstN_yes (by rw [<- HN.out]; exact hlt) HQ.out HAT.out
    subst RV;go_wp2_with fail
    refine CA.out.mono ?_; rintro e w2 ⟨rfl, hb2⟩
    have HB2 := hZ (below_over HB.out hb2);clear y0 y1 y2 y3 hb2;go_wp2_with fail
    go_ret;exact ⟨rfl, HB2.out⟩
   | false =>
    go_wp2_with fail
    refine CA.out.mono ?_; rintro e w2 ⟨rfl, hb2⟩
    have HB2 := hZ (below_over HB.out hb2);clear y0 y1 y2 y3 hb2;go_wp2_with fail
    go_roundw
    case rel => exact ⟨k + 1, by omega, by go_num, hZ (fun i hi => by
     by_cases e : i = k
     ·rw [e]; exact HAT.out
     ·exact HQ.out i (by omega)), HB2⟩
    case measure => simp [intOf]; omega
  ·have RV : V = -1 := by rw [HV.out]; exact fstN_no (fun i hi => HQ.out i (by rw [<- HN.out] at hi; omega))
   subst RV;go_wp2_with fail
   go_ret;exact ⟨rfl, HB.out⟩
end Go.Proofs.YtddlmigofilejaaGreat
namespace Go.Proofs.YtddlmigofilejaaGreat
open Go.RowKit
open Go.Sort
open M
theorem csmall_b (s : ByteArray) (w : World) (hs : s.size <= 9223372036854775807) : Calls Tryz.prog 86 #[.string s] w fun e w' => e = .returned (.bool (smallB s.data.toList)) /\ Below w.heap.size w w' :=
  (small_any s w hs).mono fun e w' ⟨h, hw⟩ => ⟨h, by rw [<- hw]; exact Below.refl _ _⟩
theorem cgreat_b (s : ByteArray) (w : World) (hs : s.size <= 9223372036854775807) : Calls Tryz.prog 117 #[.string s] w fun e w' => e = .returned (.bool (greatB s.data.toList)) /\ Below w.heap.size w w' :=
  (great_any s w hs).mono fun e w' ⟨h, hw⟩ => ⟨h, by rw [<- hw]; exact Below.refl _ _⟩
theorem cmayNotI_any (x : Im) (w : World) (z0 : x.pkg.size <= 9223372036854775807) (z1 : x.mod.size <= 9223372036854775807) (z2 : x.asn.size <= 9223372036854775807) :
    Calls Tryz.prog 83 #[.agg #[.string x.pkg, .int .i64 x.major, .string x.mod, .string x.asn]] w fun e w' => e = .returned (.bool (!mayI x)) /\ Below w.heap.size w w' := by
  obtain ⟨w0, hw0⟩ : ∃ w0, w0 = w.alloc (.cells #[.string x.pkg, .int .i64 x.major, .string x.mod, .string x.asn] 71) := ⟨_, rfl⟩;have B0 : Below w.heap.size w w0 := by rw [hw0]; exact below_new (Below.refl _ _) _
  have O0 : w0.heap[w.heap.size]? = some (.cells #[.string x.pkg, .int .i64 x.major, .string x.mod, .string x.asn] 71 (0, 0)) := by rw [hw0]; exact heap_alloc_new w _
  have hl0 : w.heap.size < w0.heap.size := by rw [hw0]; simp
  obtain ⟨V, hV⟩ : ∃ V, (!mayI x) = V := ⟨_, rfl⟩;rw [hV];have HV : Hid ((!(smallB x.pkg.data.toList && (smallB x.mod.data.toList && (smallB x.asn.data.toList && (decide (1 <= x.major) && decide (x.major <= 999999999)))))) = V) := hZ hV;have S0 := hZ (fun w => csmall_b x.pkg w z0);have S1 := hZ (fun w => csmall_b x.mod w z1);have S2 := hZ (fun w => csmall_b x.asn w z2);generalize smallB x.pkg.data.toList = b0 at S0 HV
  generalize smallB x.mod.data.toList = b1 at S1 HV
  generalize smallB x.asn.data.toList = b2 at S2 HV
  have x0 := cZ O0 0;simp at x0;have HO := hZ O0;have HB := hZ B0;have HW0 := hZ hw0;clear hw0 B0 O0 hV z0 z1 z2;go_enter Tryz.func83, Tryz.ntmps83
  go_upto_region 1 with fail
  rw [<- HW0.out];clear HW0;go_wp2_with fail
  refine (S0.out _).mono ?_; rintro e w1 ⟨rfl, hb1⟩
  have O1 := (hb1.block _ hl0).trans HO.out;have x1 := cZ O1 1;have x2 := cZ O1 2;simp at x1 x2;have HB1 := hZ (below_over HB.out hb1);have hl1 := Nat.lt_of_lt_of_le hl0 hb1.size;clear x0 hb1 HO HB S0;cases b0 with
  | false =>
    go_wp2_with fail
    go_ret;exact ⟨by rw [<- HV.out]; rfl, HB1.out⟩
  | true =>
  by_cases hm : x.major < 1
  · have e1 : decide (1 <= x.major) = false := by simp; omega
    go_wp2_with fail
    go_ret;exact ⟨by rw [<- HV.out, e1]; simp, HB1.out⟩
  by_cases hm2 : 999999999 < x.major
  · have e1 : decide (x.major <= 999999999) = false := by simp; omega
    go_wp2_with fail
    go_ret;exact ⟨by rw [<- HV.out, e1]; simp, HB1.out⟩
  have HV1 : Hid ((!(b1 && b2)) = V) := hZ (by
    rw [<- HV.out, decide_eq_true (show 1 <= x.major by omega), decide_eq_true (show x.major <= 999999999 by omega)]; simp)
  clear HV;go_wp2_with fail
  refine (S1.out _).mono ?_; rintro e w2 ⟨rfl, hb2⟩
  have O2 := (hb2.block _ hl1).trans O1;have x3 := cZ O2 3;simp at x3;have HB2 := hZ (below_over HB1.out hb2);clear x1 x2 hb2 O1 O2 S1 HB1;cases b1 with
  | false =>
    go_wp2_with fail
    go_ret;exact ⟨by rw [<- HV1.out]; rfl, HB2.out⟩
  | true =>
    go_wp2_with fail
    refine (S2.out _).mono ?_; rintro e w3 ⟨rfl, hb3⟩
    have HB3 := hZ (below_over HB2.out hb3);clear hb3 x3 S2 HB2;go_wp2_with fail
    go_ret;exact ⟨by rw [<- HV1.out]; cases b2 <;> simp <;> omega, HB3.out⟩
theorem indexI_any (A : Option Addr) (c n : Nat) (xs : List Im) (w : World) (hn : xs.length = n) (hz : n <= 9223372036854775807) (hS : RowIn imR w A xs) :
    Calls Tryz.prog 87 #[.slice A n c, .func (.func 83) #[] #[]] w fun e w' => ∃ r : Int, e = .returned (.int .i64 r) /\ decide (0 <= r) = !xs.all mayI /\ Below w.heap.size w w' := by
  have HS := hZ hS;have HN := hZ hn;clear hS hn;go_enter Tryz.func87, Tryz.ntmps87
  go_wp2_with fail
  go_loopw [8] (fun i wr => ∃ k : Nat, k <= n /\ i = .int .i64 k /\ Hid ((xs.take k).all mayI = true) /\ Below w.heap.size w wr) (fun i _ => n - (intOf i).toNat)
  case atStart => exact ⟨0, by omega, rfl, hZ (by simp), Below.refl _ _⟩
  case round =>
    obtain ⟨k, hk, rfl, HP, hb⟩ := hrel;obtain ⟨wo, rfl⟩ : ∃ wo : World, wo = wr := ⟨_, rfl⟩;by_cases hlt : k < n
    · obtain ⟨x, hx⟩ : ∃ x, xs[k]? = some x := ⟨_, List.getElem?_eq_getElem (by rw [HN.out]; exact hlt)⟩
      obtain ⟨g, o, rfl, -, a0, a1, a2, a3, y1, y2, y3⟩ := (HS.out.below hb).im hx;have IM := hZ (cmayNotI_any x wo y1 y2 y3);have HX := hZ hx;clear hx y1 y2 y3;obtain ⟨q, hq⟩ : ∃ q, mayI x = q := ⟨_, rfl⟩;rw [hq] at IM;have HQ := hZ hq;clear hq;cases q with
      | false =>
        have R : Hid (decide (0 <= (k : Int)) = !xs.all mayI) := hZ (by
          have : xs.all mayI = false := by rw [List.all_eq_false]; exact ⟨x, List.mem_of_getElem? HX.out, by rw [HQ.out]; decide⟩
          rw [this]; simp)
        go_wp2_with fail
        refine IM.out.mono ?_; rintro e w2 ⟨rfl, hb2⟩
        have hb3 := below_over hb hb2;clear a0 a1 a2 a3 hb hb2;go_wp2_with fail
        go_ret;exact ⟨_, rfl, R.out, hb3⟩
      | true =>
        go_wp2_with fail
        refine IM.out.mono ?_; rintro e w2 ⟨rfl, hb2⟩
        have hb3 := below_over hb hb2;clear a0 a1 a2 a3 hb hb2;go_wp2_with fail
        go_roundw
        case rel => exact ⟨k + 1, by omega, by go_num, hZ (by rw [all_snoc _ _ _ _ HX.out, HP.out, HQ.out]; rfl), hb3⟩
        case measure => simp [intOf]; omega
    · have R : Hid (decide (0 <= (-1 : Int)) = !xs.all mayI) := hZ (by
        have h := HP.out;rw [List.take_of_length_le (by rw [HN.out]; omega)] at h;rw [h]; rfl)
      go_wp2_with fail
      go_ret;exact ⟨_, rfl, R.out, hb⟩
theorem containsI_any (A : Option Addr) (c n : Nat) (xs : List Im) (w : World) (hn : xs.length = n) (hz : n <= 9223372036854775807) (hS : RowIn imR w A xs) :
    Calls Tryz.prog 59 #[.slice A n c, .func (.func 83) #[] #[]] w fun e w' => e = .returned (.bool (!xs.all mayI)) /\ Below w.heap.size w w' := by
  have HC := hZ (indexI_any A c n xs w hn hz hS);clear hn hS;go_enter Tryz.func59, Tryz.ntmps59
  go_wp2_with fail
  refine HC.out.mono ?_; rintro e w2 ⟨r, rfl, hr, hb2⟩
  have HR := hZ hr;clear hr HC;go_wp2_with fail
  go_ret;exact ⟨ret_bool HR.out.symm, hb2⟩
theorem cmayI_any (A : Option Addr) (c n : Nat) (xs : List Im) (w : World) (hn : xs.length = n) (hz : n <= 9223372036854775807) (hS : RowIn imR w A xs) :
    Calls Tryz.prog 55 #[.slice A n c] w fun e w' => e = .returned (.bool (decide (n <= 20) && xs.all mayI)) /\ Below w.heap.size w w' := by
  have HC := hZ (containsI_any A c n xs w hn hz hS);clear hn hS;generalize xs.all mayI = q at HC
  by_cases h : n <= 20
  · have e1 : (n : Int) <= 20 := by omega
    have e2 : decide (n <= 20) = true := by simp [h]
    rw [e2];clear e2 h;go_enter Tryz.func55, Tryz.ntmps55
    go_wp2_with fail
    refine HC.out.mono ?_; rintro e w2 ⟨rfl, hb2⟩
    cases q
    all_goals (go_wp2_with fail; go_ret; exact ⟨rfl, hb2⟩)
  · have e1 : ¬ (n : Int) <= 20 := by omega
    have e2 : decide (n <= 20) = false := by simp; omega
    rw [e2];clear e2 h HC;go_enter Tryz.func55, Tryz.ntmps55
    go_wp2_with fail
    go_ret;exact ⟨rfl, Below.refl _ _⟩
end Go.Proofs.YtddlmigofilejaaGreat
namespace Go.Proofs.YtddlmigofilejaaGreat
open Go.RowKit
open Go.Sort Go.Maps
open M
def dupB {α : Type} (key : α -> ByteArray) (l : List α) (i : Nat) : Bool := match l[i]? with | some x => (l.take i).any fun y => decide (key y = key x) | none => false
theorem dupB_some {α : Type} {key : α -> ByteArray} {l : List α} {i : Nat} {x : α} (h : l[i]? = some x) : dupB key l i = (l.take i).any fun y => decide (key y = key x) := by unfold dupB; rw [h]
theorem str_eq (a b : ByteArray) : (a.toList == b.toList) = decide (a = b) := by
 rw [Bool.eq_iff_iff, beq_iff_eq, decide_eq_true_eq, Lib.toList_data, Lib.toList_data, bytes_list]
theorem any_snoc {α : Type} (p : α -> Bool) (l : List α) (j : Nat) (x : α) (h : l[j]? = some x) : (l.take (j + 1)).any p = ((l.take j).any p || p x) := by
 rw [List.take_add_one, h, List.any_append]; simp
theorem as_any (yp yd ya : ByteArray) (ym : Int) (w : World) : Calls Tryz.prog 166 #[.agg #[.string yp, .int .i64 ym, .string yd, .string ya]] w fun e w' => e = .returned (.string ya) /\ Below w.heap.size w w' := by
 go_enter Tryz.func166, Tryz.ntmps166
 go_wp2_with fail
 go_ret
 exact ⟨rfl, below_new (Below.refl _ _) _⟩
theorem alikeI_any (yp yd ya : ByteArray) (ym : Int) (xp xd xa : ByteArray) (xm : Int) (nb xb : Nat) (w : World) (hn : w.cell? ⟨nb, 0, none⟩ = some (.func (.func 166) #[] #[])) (hx : w.heap[xb]? = some (.cells #[.string xp, .int .i64 xm, .string xd, .string xa] 71 (0, 0))) :
  Calls Tryz.prog 58 #[.agg #[.string yp, .int .i64 ym, .string yd, .string ya], .pointer (some ⟨nb, 0, none⟩), .pointer (some ⟨xb, 0, none⟩)] w fun e w' => e = .returned (.bool (decide (ya = xa))) /\ Below w.heap.size w w' := by
 obtain ⟨wb, hwb⟩ : ∃ wb, wb = w.alloc (.cells #[.string yp, .int .i64 ym, .string yd, .string ya] 71) := ⟨_, rfl⟩
 have B0 : Below w.heap.size w wb := by rw [hwb]; exact below_new (Below.refl _ _) _
 have X0 : wb.heap[w.heap.size]? = some (.cells #[.string yp, .int .i64 ym, .string yd, .string ya] 71 (0, 0)) := by rw [hwb]; exact heap_alloc_new w _
 have X1 := (B0.block _ (Array.getElem?_eq_some_iff.1 hx).1).trans hx
 have N1 := (B0.cell (p := ⟨nb, 0, none⟩) (World.block_lt_of_cell? _ _ hn)).trans hn
 have cP : ∀ dd os, Calls Tryz.prog 166 #[.agg #[.string yp, .int .i64 ym, .string yd, .string ya]] (Sort.grow (redrawn wb dd) os) fun e w'' => e = .returned (.string ya) /\ ∃ pp : Regrown, w'' = Sort.grow (redrawn wb pp.d) pp.os := fun dd os => Calls.regrown_of (as_any yp yd ya ym _)
 have cQ : ∀ dd os, Calls Tryz.prog 166 #[.agg #[.string xp, .int .i64 xm, .string xd, .string xa]] (Sort.grow (redrawn wb dd) os) fun e w'' => e = .returned (.string xa) /\ ∃ pp : Regrown, w'' = Sort.grow (redrawn wb pp.d) pp.os := fun dd os => Calls.regrown_of (as_any xp xd xa xm _)
 have py0 := cell_regrown (cZ X0 0)
 have py1 := cell_regrown (cZ X0 1)
 have py2 := cell_regrown (cZ X0 2)
 have py3 := cell_regrown (cZ X0 3)
 have px0 := cell_regrown (cZ X1 0)
 have px1 := cell_regrown (cZ X1 1)
 have px2 := cell_regrown (cZ X1 2)
 have px3 := cell_regrown (cZ X1 3)
 simp at py0 py1 py2 py3 px0 px1 px2 px3
 have pn := cell_regrown N1
 have HB0 := hZ B0
 have HWB := hZ hwb
 have hq := str_eq ya xa
 clear hn hx hwb B0 X0 X1 N1
 go_enter Tryz.func58, Tryz.ntmps58
 go_upto_region 1 with fail
 rw [<- HWB.out]
 refine wp_region_quiet_below (by kernel_rfl) (by kernel_rfl) ?_
 repeat (any_goals (first | go_big_quiet_step (first | (with_reducible exact cP _ _) | (with_reducible exact cQ _ _)) | quiet_step (first | (with_reducible exact cP _ _) | (with_reducible exact cQ _ _))))
 refine wpQuiet_nil ?_
 intro _ hw'
 obtain ⟨⟨dq, osq⟩, hw''⟩ := hw'
 subst hw''
 have HBQ := hZ (below_over HB0.out (below_regrown wb dq osq))
 go_wp2_with fail
 go_ret
 exact ⟨by first | rfl | exact ret_bool hq, HBQ.out⟩
theorem declared_any (yk y0 y2 : Int) (ys y1 y3 y4 : ByteArray) (yA yB : Option Addr) (y5 ye y6 yc : Nat) (w : World) : Calls Tryz.prog 168 #[.agg #[.int .i64 yk, .string ys, .int .i64 y0, .string y1, .int .i64 y2, .string y3, .string y4, .slice yA y5 ye, .slice yB y6 yc]] w fun e w' => e = .returned (.string ys) /\ Below w.heap.size w w' := by
 go_enter Tryz.func168, Tryz.ntmps168
 go_wp2_with fail
 go_ret
 exact ⟨rfl, below_new (Below.refl _ _) _⟩
theorem alikeD_any (yk y0 y2 : Int) (ys y1 y3 y4 : ByteArray) (yA yB : Option Addr) (y5 ye y6 yc : Nat) (xk x0 x2 : Int) (xs x1 x3 x4 : ByteArray) (xA xB : Option Addr) (x5 xe x6 xc : Nat) (nb xb : Nat) (w : World) (hn : w.cell? ⟨nb, 0, none⟩ = some (.func (.func 168) #[] #[])) (hx : w.heap[xb]? = some (.cells #[.int .i64 xk, .string xs, .int .i64 x0, .string x1, .int .i64 x2, .string x3, .string x4, .slice xA x5 xe, .slice xB x6 xc] 191 (0, 0))) :
  Calls Tryz.prog 183 #[.agg #[.int .i64 yk, .string ys, .int .i64 y0, .string y1, .int .i64 y2, .string y3, .string y4, .slice yA y5 ye, .slice yB y6 yc], .pointer (some ⟨nb, 0, none⟩), .pointer (some ⟨xb, 0, none⟩)] w fun e w' => e = .returned (.bool (decide (ys = xs))) /\ Below w.heap.size w w' := by
 obtain ⟨wb, hwb⟩ : ∃ wb, wb = w.alloc (.cells #[.int .i64 yk, .string ys, .int .i64 y0, .string y1, .int .i64 y2, .string y3, .string y4, .slice yA y5 ye, .slice yB y6 yc] 191) := ⟨_, rfl⟩
 have B0 : Below w.heap.size w wb := by rw [hwb]; exact below_new (Below.refl _ _) _
 have X0 : wb.heap[w.heap.size]? = some (.cells #[.int .i64 yk, .string ys, .int .i64 y0, .string y1, .int .i64 y2, .string y3, .string y4, .slice yA y5 ye, .slice yB y6 yc] 191 (0, 0)) := by rw [hwb]; exact heap_alloc_new w _
 have X1 := (B0.block _ (Array.getElem?_eq_some_iff.1 hx).1).trans hx
 have N1 := (B0.cell (p := ⟨nb, 0, none⟩) (World.block_lt_of_cell? _ _ hn)).trans hn
 have cP : ∀ dd os, Calls Tryz.prog 168 #[.agg #[.int .i64 yk, .string ys, .int .i64 y0, .string y1, .int .i64 y2, .string y3, .string y4, .slice yA y5 ye, .slice yB y6 yc]] (Sort.grow (redrawn wb dd) os) fun e w'' => e = .returned (.string ys) /\ ∃ pp : Regrown, w'' = Sort.grow (redrawn wb pp.d) pp.os := fun dd os => Calls.regrown_of (declared_any yk y0 y2 ys y1 y3 y4 yA yB y5 ye y6 yc _)
 have cQ : ∀ dd os, Calls Tryz.prog 168 #[.agg #[.int .i64 xk, .string xs, .int .i64 x0, .string x1, .int .i64 x2, .string x3, .string x4, .slice xA x5 xe, .slice xB x6 xc]] (Sort.grow (redrawn wb dd) os) fun e w'' => e = .returned (.string xs) /\ ∃ pp : Regrown, w'' = Sort.grow (redrawn wb pp.d) pp.os := fun dd os => Calls.regrown_of (declared_any xk x0 x2 xs x1 x3 x4 xA xB x5 xe x6 xc _)
 have py0 := cell_regrown (cZ X0 0)
 have py1 := cell_regrown (cZ X0 1)
 have py2 := cell_regrown (cZ X0 2)
 have py3 := cell_regrown (cZ X0 3)
 have py4 := cell_regrown (cZ X0 4)
 have py5 := cell_regrown (cZ X0 5)
 have py6 := cell_regrown (cZ X0 6)
 have py7 := cell_regrown (cZ X0 7)
 have py8 := cell_regrown (cZ X0 8)
 have px0 := cell_regrown (cZ X1 0)
 have px1 := cell_regrown (cZ X1 1)
 have px2 := cell_regrown (cZ X1 2)
 have px3 := cell_regrown (cZ X1 3)
 have px4 := cell_regrown (cZ X1 4)
 have px5 := cell_regrown (cZ X1 5)
 have px6 := cell_regrown (cZ X1 6)
 have px7 := cell_regrown (cZ X1 7)
 have px8 := cell_regrown (cZ X1 8)
 simp at py0 py1 py2 py3 py4 py5 py6 py7 py8 px0 px1 px2 px3 px4 px5 px6 px7 px8
 have pn := cell_regrown N1
 have HB0 := hZ B0
 have HWB := hZ hwb
 have hq := str_eq ys xs
 clear hn hx hwb B0 X0 X1 N1
 go_enter Tryz.func183, Tryz.ntmps183
 go_upto_region 1 with fail
 rw [<- HWB.out]
 refine wp_region_quiet_below (by kernel_rfl) (by kernel_rfl) ?_
 repeat (any_goals (first | go_big_quiet_step (first | (with_reducible exact cP _ _) | (with_reducible exact cQ _ _)) | quiet_step (first | (with_reducible exact cP _ _) | (with_reducible exact cQ _ _))))
 refine wpQuiet_nil ?_
 intro _ hw'
 obtain ⟨⟨dq, osq⟩, hw''⟩ := hw'
 subst hw''
 have HBQ := hZ (below_over HB0.out (below_regrown wb dq osq))
 go_wp2_with fail
 go_ret
 exact ⟨by first | rfl | exact ret_bool hq, HBQ.out⟩
theorem indexDupI_any (A : Option Addr) (c n : Nat) (xs : List Im) (x : Im)  (nb xb : Nat) (w : World) (hlen : xs.length = n) (hz : n <= 9223372036854775807) (hS : RowIn imR w A xs)
  (hn : w.cell? ⟨nb, 0, none⟩ = some (.func (.func 166) #[] #[])) (hx : w.heap[xb]? = some (.cells #[.string x.pkg, .int .i64 x.major, .string x.mod, .string x.asn] 71 (0, 0))) :
  Calls Tryz.prog 87 #[.slice A n c, .func (.func 58) #[] #[.pointer (some ⟨nb, 0, none⟩), .pointer (some ⟨xb, 0, none⟩)]] w fun e w' => ∃ r : Int, e = .returned (.int .i64 r) /\ decide (0 <= r) = xs.any (fun y => decide (y.asn = x.asn)) /\ Below w.heap.size w w' := by
 have HS := hZ hS
 have HN := hZ hlen
 have HFN := hZ hn
 have HX := hZ hx
 clear hS hlen hn hx
 go_enter Tryz.func87, Tryz.ntmps87
 go_wp2_with fail
 go_loopw [8] (fun i wr => ∃ k : Nat, k <= n /\ i = .int .i64 k /\ Hid ((xs.take k).any (fun y => decide (y.asn = x.asn)) = false) /\ Hid (Below w.heap.size w wr)) (fun i _ => n - (intOf i).toNat)
 case atStart => exact ⟨0, by omega, rfl, hZ (by simp), hZ (Below.refl _ _)⟩
 case round =>
  obtain ⟨k, hk, rfl, HP, HB⟩ := hrel;obtain ⟨wo, rfl⟩ : ∃ wo : World, wo = wr := ⟨_, rfl⟩;by_cases hlt : k < n
  ·obtain ⟨y, hy⟩ : ∃ y, xs[k]? = some y := ⟨_, List.getElem?_eq_getElem (by rw [HN.out]; exact hlt)⟩
   obtain ⟨g, o, lv, rfl, hg, hcc, rfl, -⟩ := (HS.out.below HB.out) k y hy;have a0 := hcc 0 _ rfl;have a1 := hcc 1 _ rfl;have a2 := hcc 2 _ rfl;have a3 := hcc 3 _ rfl;have b0 : wo.cell? ⟨g, o + k * 4, none⟩ = some (.string y.pkg) := a0;have b1 : wo.cell? ⟨g, o + k * 4 + 1, none⟩ = some (.int .i64 y.major) := a1;have b2 : wo.cell? ⟨g, o + k * 4 + 2, none⟩ = some (.string y.mod) := a2;have b3 : wo.cell? ⟨g, o + k * 4 + 3, none⟩ = some (.string y.asn) := a3;have IM := hZ (alikeI_any y.pkg y.mod y.asn y.major x.pkg x.mod x.asn x.major nb xb wo ((HB.out.cell (p := ⟨nb, 0, none⟩) (World.block_lt_of_cell? _ _ HFN.out)).trans HFN.out) ((HB.out.block _ (Array.getElem?_eq_some_iff.1 HX.out).1).trans HX.out));have HY := hZ hy;clear hy hcc hg a0 a1 a2 a3;obtain ⟨q, hq⟩ : ∃ q, decide (y.asn = x.asn) = q := ⟨_, rfl⟩;rw [hq] at IM;have HQ := hZ hq;clear hq;cases q with
   | true =>
    have R : Hid (decide (0 <= (k : Int)) = xs.any (fun y => decide (y.asn = x.asn))) := hZ (by
     have : xs.any (fun y => decide (y.asn = x.asn)) = true := List.any_eq_true.2 ⟨y, List.mem_of_getElem? HY.out, HQ.out⟩
     rw [this]; simp)
    go_wp2_with fail
    refine IM.out.mono ?_; rintro e w2 ⟨rfl, hb2⟩
    have HB2 := hZ (below_over HB.out hb2);clear b0 b1 b2 b3 hb2;go_wp2_with fail
    go_ret;exact ⟨_, rfl, R.out, HB2.out⟩
   | false =>
    go_wp2_with fail
    refine IM.out.mono ?_; rintro e w2 ⟨rfl, hb2⟩
    have HB2 := hZ (below_over HB.out hb2);clear b0 b1 b2 b3 hb2;go_wp2_with fail
    go_roundw
    case rel => exact ⟨k + 1, by omega, by go_num, hZ (by rw [any_snoc _ _ _ _ HY.out, HP.out, HQ.out]; rfl), HB2⟩
    case measure => simp [intOf]; omega
  ·have R : Hid (decide (0 <= (-1 : Int)) = xs.any (fun y => decide (y.asn = x.asn))) := hZ (by
    have h := HP.out;rw [List.take_of_length_le (by rw [HN.out]; omega)] at h;rw [h]; rfl)
   go_wp2_with fail
   go_ret;exact ⟨_, rfl, R.out, HB.out⟩
theorem containsDupI_any (A : Option Addr) (c n : Nat) (xs : List Im) (x : Im)  (nb xb : Nat) (w : World) (hlen : xs.length = n) (hz : n <= 9223372036854775807) (hS : RowIn imR w A xs)
  (hn : w.cell? ⟨nb, 0, none⟩ = some (.func (.func 166) #[] #[])) (hx : w.heap[xb]? = some (.cells #[.string x.pkg, .int .i64 x.major, .string x.mod, .string x.asn] 71 (0, 0))) :
  Calls Tryz.prog 59 #[.slice A n c, .func (.func 58) #[] #[.pointer (some ⟨nb, 0, none⟩), .pointer (some ⟨xb, 0, none⟩)]] w fun e w' => e = .returned (.bool (xs.any (fun y => decide (y.asn = x.asn)))) /\ Below w.heap.size w w' := by
 have HC := hZ (indexDupI_any A c n xs x  nb xb w hlen hz hS hn hx)
 clear hlen hS hn hx
 go_enter Tryz.func59, Tryz.ntmps59
 go_wp2_with fail
 refine HC.out.mono ?_; rintro e w2 ⟨r, rfl, hr, hb2⟩
 have HR := hZ hr
 clear hr HC
 go_wp2_with fail
 go_ret
 exact ⟨ret_bool HR.out.symm, hb2⟩
theorem againI_any (A : Option Addr) (c n : Nat) (xs : List Im) (w : World) (hlen : xs.length = n) (hz : n <= 1000000) (hc : n <= c) (hS : RowIn imR w A xs) :
  Calls Tryz.prog 31 #[.slice A n c, .func (.func 166) #[] #[]] w fun e w' => e = .returned (.int .i64 (fstN (dupB (·.asn) xs) n)) /\ Below w.heap.size w w' := by
 obtain ⟨wb, hwb⟩ : ∃ wb, wb = w.alloc (.cells #[.func (.func 166) #[] #[]] 72) := ⟨_, rfl⟩
 have B0 : Below w.heap.size w wb := by rw [hwb]; exact below_new (Below.refl _ _) _
 have X0 : wb.heap[w.heap.size]? = some (.cells #[.func (.func 166) #[] #[]] 72 (0, 0)) := by rw [hwb]; exact heap_alloc_new w _
 have hbs : w.heap.size < wb.heap.size := by rw [hwb]; simp
 have HS := hZ (hS.below B0)
 have HN := hZ hlen
 have HX0 := hZ X0
 have HB0 := hZ B0
 have HWB := hZ hwb
 obtain ⟨V, hV⟩ : ∃ V, V = fstN (dupB (·.asn) xs) n := ⟨_, rfl⟩
 have HV := hZ hV
 rw [<- hV]
 clear hS hlen B0 X0 hwb hV
 go_enter Tryz.func31, Tryz.ntmps31
 go_upto_region 1 with fail
 rw [<- HWB.out]
 go_wp2_with fail
 go_loopw [10] (fun i wr => ∃ k : Nat, k <= n /\ i = .int .i64 k /\ Hid (∀ i, i < k -> dupB (·.asn) xs i = false) /\ Hid (Below wb.heap.size wb wr)) (fun i _ => n - (intOf i).toNat)
 case atStart => exact ⟨0, by omega, rfl, hZ (fun i h => by omega), hZ (Below.refl _ _)⟩
 case round =>
  obtain ⟨k, hk, rfl, HQ, HB⟩ := hrel;obtain ⟨wo, rfl⟩ : ∃ wo : World, wo = wr := ⟨_, rfl⟩;by_cases hlt : k < n
  ·obtain ⟨y, hy⟩ : ∃ y, xs[k]? = some y := ⟨_, List.getElem?_eq_getElem (by rw [HN.out]; exact hlt)⟩
   obtain ⟨g, o, lv, rfl, hg, hcc, rfl, -⟩ := (HS.out.below HB.out) k y hy;have a0 := hcc 0 _ rfl;have a1 := hcc 1 _ rfl;have a2 := hcc 2 _ rfl;have a3 := hcc 3 _ rfl;have b0 : wo.cell? ⟨g, o + k * 4, none⟩ = some (.string y.pkg) := a0;have b1 : wo.cell? ⟨g, o + k * 4 + 1, none⟩ = some (.int .i64 y.major) := a1;have b2 : wo.cell? ⟨g, o + k * 4 + 2, none⟩ = some (.string y.mod) := a2;have b3 : wo.cell? ⟨g, o + k * 4 + 3, none⟩ = some (.string y.asn) := a3;obtain ⟨w3, hw3⟩ : ∃ w3, w3 = wo.alloc (.cells #[.string y.pkg, .int .i64 y.major, .string y.mod, .string y.asn] 71) := ⟨_, rfl⟩;have B3 : Below wo.heap.size wo w3 := by rw [hw3]; exact below_new (Below.refl _ _) _
   have X3 : w3.heap[wo.heap.size]? = some (.cells #[.string y.pkg, .int .i64 y.major, .string y.mod, .string y.asn] 71 (0, 0)) := by rw [hw3]; exact heap_alloc_new wo _
   have B03 := below_over HB.out B3
   have hpre : RowIn imR w3 (some ⟨g, o, none⟩) (xs.take k) := fun i x hx => (HS.out.below B03) i x (by
    rw [List.getElem?_take] at hx;split at hx
    ·exact hx
    ·cases hx)
   have CT := hZ (containsDupI_any (some ⟨g, o, none⟩) c k (xs.take k) y  w.heap.size wo.heap.size w3 (by rw [List.length_take, HN.out]; omega) (by omega) hpre (cZ ((B03.block _ hbs).trans HX0.out) 0) X3);have HB3 := hZ B03;have HW3 := hZ hw3;have HY := hZ hy;obtain ⟨q, hq⟩ : ∃ q, (xs.take k).any (fun z => decide (z.asn = y.asn)) = q := ⟨_, rfl⟩;rw [hq] at CT;have HD : Hid (dupB (·.asn) xs k = q) := hZ (by rw [dupB_some hy]; exact hq);clear hy hq B3 X3 B03 hpre hw3 hcc hg a0 a1 a2 a3;have hkc : k <= c := by omega
   cases q with
   | true =>
    have RV : V = (k : Int) := by rw [HV.out]; exact fstN_yes hlt HQ.out HD.out
    subst RV;go_upto_region 4 with fail
    rw [<- HW3.out];clear b0 b1 b2 b3;go_wp2_with fail
    refine CT.out.mono ?_; rintro e w4 ⟨rfl, hb4⟩
    have HB4 := hZ (below_over HB0.out (below_over HB3.out hb4));clear hb4;go_wp2_with fail
    go_ret;exact ⟨rfl, HB4.out⟩
   | false =>
    go_upto_region 4 with fail
    rw [<- HW3.out];clear b0 b1 b2 b3;go_wp2_with fail
    refine CT.out.mono ?_; rintro e w4 ⟨rfl, hb4⟩
    have HB4 := hZ (below_over HB3.out hb4);clear hb4;go_wp2_with fail
    go_roundw
    case rel => exact ⟨k + 1, by omega, by go_num, hZ (fun i hi => by
     by_cases e : i = k
     ·rw [e]; exact HD.out
     ·exact HQ.out i (by omega)), HB4⟩
    case measure => simp [intOf]; omega
  ·have RV : V = -1 := by rw [HV.out]; exact fstN_no (fun i hi => HQ.out i (by omega))
   subst RV;have FB := hZ (below_over HB0.out HB.out);go_wp2_with fail
   go_ret;exact ⟨rfl, FB.out⟩
theorem indexDupD_any (A : Option Addr) (c n : Nat) (xs : List De) (x : De) (xA xB : Option Addr) (xb1 xc1 : Nat) (nb xb : Nat) (w : World) (hlen : xs.length = n) (hz : n <= 9223372036854775807) (hS : RowIn deR w A xs)
  (hn : w.cell? ⟨nb, 0, none⟩ = some (.func (.func 168) #[] #[])) (hx : w.heap[xb]? = some (.cells #[.int .i64 x.kind, .string x.name, .int .i64 x.typ.kind, .string x.typ.pkg, .int .i64 x.typ.major, .string x.typ.mod, .string x.typ.name, .slice xA x.typ.names.length xb1, .slice xB x.typ.subs.length xc1] 191 (0, 0))) :
  Calls Tryz.prog 190 #[.slice A n c, .func (.func 183) #[] #[.pointer (some ⟨nb, 0, none⟩), .pointer (some ⟨xb, 0, none⟩)]] w fun e w' => ∃ r : Int, e = .returned (.int .i64 r) /\ decide (0 <= r) = xs.any (fun y => decide (y.name = x.name)) /\ Below w.heap.size w w' := by
 have HS := hZ hS
 have HN := hZ hlen
 have HFN := hZ hn
 have HX := hZ hx
 clear hS hlen hn hx
 go_enter Tryz.func190, Tryz.ntmps190
 go_wp2_with fail
 go_loopw [8] (fun i wr => ∃ k : Nat, k <= n /\ i = .int .i64 k /\ Hid ((xs.take k).any (fun y => decide (y.name = x.name)) = false) /\ Hid (Below w.heap.size w wr)) (fun i _ => n - (intOf i).toNat)
 case atStart => exact ⟨0, by omega, rfl, hZ (by simp), hZ (Below.refl _ _)⟩
 case round =>
  obtain ⟨k, hk, rfl, HP, HB⟩ := hrel;obtain ⟨wo, rfl⟩ : ∃ wo : World, wo = wr := ⟨_, rfl⟩;by_cases hlt : k < n
  ·obtain ⟨y, hy⟩ : ∃ y, xs[k]? = some y := ⟨_, List.getElem?_eq_getElem (by rw [HN.out]; exact hlt)⟩
   obtain ⟨g, o, v0, v1, v2, v3, v4, v5, v6, rfl, -, a0, a1, u0, u1, u2, u3, u4, u5, u6, us, zs⟩ := (HS.out.below HB.out).de hy;obtain ⟨An, cA, As, cS, ev, -⟩ := us.parts;simp only [List.cons.injEq, and_true] at ev;obtain ⟨rfl, rfl, rfl, rfl, rfl, rfl, rfl⟩ := ev;have IM := hZ (alikeD_any y.kind y.typ.kind y.typ.major y.name y.typ.pkg y.typ.mod y.typ.name An As y.typ.names.length cA y.typ.subs.length cS x.kind x.typ.kind x.typ.major x.name x.typ.pkg x.typ.mod x.typ.name xA xB x.typ.names.length xb1 x.typ.subs.length xc1 nb xb wo ((HB.out.cell (p := ⟨nb, 0, none⟩) (World.block_lt_of_cell? _ _ HFN.out)).trans HFN.out) ((HB.out.block _ (Array.getElem?_eq_some_iff.1 HX.out).1).trans HX.out));have HY := hZ hy;clear hy us zs;obtain ⟨q, hq⟩ : ∃ q, decide (y.name = x.name) = q := ⟨_, rfl⟩;rw [hq] at IM;have HQ := hZ hq;clear hq;cases q with
   | true =>
    have R : Hid (decide (0 <= (k : Int)) = xs.any (fun y => decide (y.name = x.name))) := hZ (by
     have : xs.any (fun y => decide (y.name = x.name)) = true := List.any_eq_true.2 ⟨y, List.mem_of_getElem? HY.out, HQ.out⟩
     rw [this]; simp)
    go_wp2_with fail
    refine IM.out.mono ?_; rintro e w2 ⟨rfl, hb2⟩
    have HB2 := hZ (below_over HB.out hb2);clear a0 a1 u0 u1 u2 u3 u4 u5 u6 hb2;go_wp2_with fail
    go_ret;exact ⟨_, rfl, R.out, HB2.out⟩
   | false =>
    go_wp2_with fail
    refine IM.out.mono ?_; rintro e w2 ⟨rfl, hb2⟩
    have HB2 := hZ (below_over HB.out hb2);clear a0 a1 u0 u1 u2 u3 u4 u5 u6 hb2;go_wp2_with fail
    go_roundw
    case rel => exact ⟨k + 1, by omega, by go_num, hZ (by rw [any_snoc _ _ _ _ HY.out, HP.out, HQ.out]; rfl), HB2⟩
    case measure => simp [intOf]; omega
  ·have R : Hid (decide (0 <= (-1 : Int)) = xs.any (fun y => decide (y.name = x.name))) := hZ (by
    have h := HP.out;rw [List.take_of_length_le (by rw [HN.out]; omega)] at h;rw [h]; rfl)
   go_wp2_with fail
   go_ret;exact ⟨_, rfl, R.out, HB.out⟩
theorem containsDupD_any (A : Option Addr) (c n : Nat) (xs : List De) (x : De) (xA xB : Option Addr) (xb1 xc1 : Nat) (nb xb : Nat) (w : World) (hlen : xs.length = n) (hz : n <= 9223372036854775807) (hS : RowIn deR w A xs)
  (hn : w.cell? ⟨nb, 0, none⟩ = some (.func (.func 168) #[] #[])) (hx : w.heap[xb]? = some (.cells #[.int .i64 x.kind, .string x.name, .int .i64 x.typ.kind, .string x.typ.pkg, .int .i64 x.typ.major, .string x.typ.mod, .string x.typ.name, .slice xA x.typ.names.length xb1, .slice xB x.typ.subs.length xc1] 191 (0, 0))) :
  Calls Tryz.prog 180 #[.slice A n c, .func (.func 183) #[] #[.pointer (some ⟨nb, 0, none⟩), .pointer (some ⟨xb, 0, none⟩)]] w fun e w' => e = .returned (.bool (xs.any (fun y => decide (y.name = x.name)))) /\ Below w.heap.size w w' := by
 have HC := hZ (indexDupD_any A c n xs x xA xB xb1 xc1 nb xb w hlen hz hS hn hx)
 clear hlen hS hn hx
 go_enter Tryz.func180, Tryz.ntmps180
 go_wp2_with fail
 refine HC.out.mono ?_; rintro e w2 ⟨r, rfl, hr, hb2⟩
 have HR := hZ hr
 clear hr HC
 go_wp2_with fail
 go_ret
 exact ⟨ret_bool HR.out.symm, hb2⟩
theorem againD_any (A : Option Addr) (c n : Nat) (xs : List De) (w : World) (hlen : xs.length = n) (hz : n <= 1000000) (hc : n <= c) (hS : RowIn deR w A xs) :
  Calls Tryz.prog 167 #[.slice A n c, .func (.func 168) #[] #[]] w fun e w' => e = .returned (.int .i64 (fstN (dupB (·.name) xs) n)) /\ Below w.heap.size w w' := by
 obtain ⟨wb, hwb⟩ : ∃ wb, wb = w.alloc (.cells #[.func (.func 168) #[] #[]] 215) := ⟨_, rfl⟩
 have B0 : Below w.heap.size w wb := by rw [hwb]; exact below_new (Below.refl _ _) _
 have X0 : wb.heap[w.heap.size]? = some (.cells #[.func (.func 168) #[] #[]] 215 (0, 0)) := by rw [hwb]; exact heap_alloc_new w _
 have hbs : w.heap.size < wb.heap.size := by rw [hwb]; simp
 have HS := hZ (hS.below B0)
 have HN := hZ hlen
 have HX0 := hZ X0
 have HB0 := hZ B0
 have HWB := hZ hwb
 obtain ⟨V, hV⟩ : ∃ V, V = fstN (dupB (·.name) xs) n := ⟨_, rfl⟩
 have HV := hZ hV
 rw [<- hV]
 clear hS hlen B0 X0 hwb hV
 go_enter Tryz.func167, Tryz.ntmps167
 go_upto_region 1 with fail
 rw [<- HWB.out]
 go_wp2_with fail
 go_loopw [10] (fun i wr => ∃ k : Nat, k <= n /\ i = .int .i64 k /\ Hid (∀ i, i < k -> dupB (·.name) xs i = false) /\ Hid (Below wb.heap.size wb wr)) (fun i _ => n - (intOf i).toNat)
 case atStart => exact ⟨0, by omega, rfl, hZ (fun i h => by omega), hZ (Below.refl _ _)⟩
 case round =>
  obtain ⟨k, hk, rfl, HQ, HB⟩ := hrel;obtain ⟨wo, rfl⟩ : ∃ wo : World, wo = wr := ⟨_, rfl⟩;by_cases hlt : k < n
  ·obtain ⟨y, hy⟩ : ∃ y, xs[k]? = some y := ⟨_, List.getElem?_eq_getElem (by rw [HN.out]; exact hlt)⟩
   obtain ⟨g, o, v0, v1, v2, v3, v4, v5, v6, rfl, -, a0, a1, u0, u1, u2, u3, u4, u5, u6, us, zs⟩ := (HS.out.below HB.out).de hy;obtain ⟨An, cA, As, cS, ev, -⟩ := us.parts;simp only [List.cons.injEq, and_true] at ev;obtain ⟨rfl, rfl, rfl, rfl, rfl, rfl, rfl⟩ := ev;obtain ⟨w3, hw3⟩ : ∃ w3, w3 = wo.alloc (.cells #[.int .i64 y.kind, .string y.name, .int .i64 y.typ.kind, .string y.typ.pkg, .int .i64 y.typ.major, .string y.typ.mod, .string y.typ.name, .slice An y.typ.names.length cA, .slice As y.typ.subs.length cS] 191) := ⟨_, rfl⟩;have B3 : Below wo.heap.size wo w3 := by rw [hw3]; exact below_new (Below.refl _ _) _
   have X3 : w3.heap[wo.heap.size]? = some (.cells #[.int .i64 y.kind, .string y.name, .int .i64 y.typ.kind, .string y.typ.pkg, .int .i64 y.typ.major, .string y.typ.mod, .string y.typ.name, .slice An y.typ.names.length cA, .slice As y.typ.subs.length cS] 191 (0, 0)) := by rw [hw3]; exact heap_alloc_new wo _
   have B03 := below_over HB.out B3
   have hpre : RowIn deR w3 (some ⟨g, o, none⟩) (xs.take k) := fun i x hx => (HS.out.below B03) i x (by
    rw [List.getElem?_take] at hx;split at hx
    ·exact hx
    ·cases hx)
   have CT := hZ (containsDupD_any (some ⟨g, o, none⟩) c k (xs.take k) y An As cA cS w.heap.size wo.heap.size w3 (by rw [List.length_take, HN.out]; omega) (by omega) hpre (cZ ((B03.block _ hbs).trans HX0.out) 0) X3);have HB3 := hZ B03;have HW3 := hZ hw3;have HY := hZ hy;obtain ⟨q, hq⟩ : ∃ q, (xs.take k).any (fun z => decide (z.name = y.name)) = q := ⟨_, rfl⟩;rw [hq] at CT;have HD : Hid (dupB (·.name) xs k = q) := hZ (by rw [dupB_some hy]; exact hq);clear hy hq B3 X3 B03 hpre hw3 us zs;have hkc : k <= c := by omega
   cases q with
   | true =>
    have RV : V = (k : Int) := by rw [HV.out]; exact fstN_yes hlt HQ.out HD.out
    subst RV;go_upto_region 4 with fail
    rw [<- HW3.out];clear a0 a1 u0 u1 u2 u3 u4 u5 u6;go_wp2_with fail
    refine CT.out.mono ?_; rintro e w4 ⟨rfl, hb4⟩
    have HB4 := hZ (below_over HB0.out (below_over HB3.out hb4));clear hb4;go_wp2_with fail
    go_ret;exact ⟨rfl, HB4.out⟩
   | false =>
    go_upto_region 4 with fail
    rw [<- HW3.out];clear a0 a1 u0 u1 u2 u3 u4 u5 u6;go_wp2_with fail
    refine CT.out.mono ?_; rintro e w4 ⟨rfl, hb4⟩
    have HB4 := hZ (below_over HB3.out hb4);clear hb4;go_wp2_with fail
    go_roundw
    case rel => exact ⟨k + 1, by omega, by go_num, hZ (fun i hi => by
     by_cases e : i = k
     ·rw [e]; exact HD.out
     ·exact HQ.out i (by omega)), HB4⟩
    case measure => simp [intOf]; omega
  ·have RV : V = -1 := by rw [HV.out]; exact fstN_no (fun i hi => HQ.out i (by omega))
   subst RV;have FB := hZ (below_over HB0.out HB.out);go_wp2_with fail
   go_ret;exact ⟨rfl, FB.out⟩
end Go.Proofs.YtddlmigofilejaaGreat
namespace Go.Proofs.YtddlmigofilejaaGreat
open Go.RowKit Go.Shelf
open Go.Sort Go.Maps
open M
attribute [local go_sem] Oper.semAt_some
theorem MapS.made (w : World) (f : ByteArray -> Int -> Prop) : MapS (w.alloc (.map #[] 0)) w.heap.size 0 (fun _ => false) f :=
  ⟨.map [], World.ownsMap_made w Tryz.prog 9 _, isMap_empty, fun s hs => ⟨rfl, fun h => by cases h⟩⟩
theorem MapS.put {w1 : World} {b n : Nat} {p : ByteArray -> Bool} {f : ByteArray -> Int -> Prop} {D : DataW Unit} {key : ByteArray} {v : Int} (hm : IsMap D)
    (hk : ∀ s : ByteArray, s.size <= maxLen -> has D (.string s.data.toList) = p s /\ (p s = true -> ∀ c, D.atKey (.string s.data.toList) (.lit (.int .i64 0)) = .lit (.int .i64 c) -> f s c))
    (hown : w1.ownsMap Tryz.prog 9 (plainElem Tryz.prog 3) b n (D.put (.string key.data.toList) (.lit (.int .i64 v)))) : MapS w1 b n (fun s => decide (key = s) || p s) (fun s c => if key = s then c = v else f s c) := by
  refine ⟨_, hown, hm.put _ _, fun s hs => ?_⟩;obtain ⟨h1, h2⟩ := hk s hs;by_cases e : key = s
  · subst e
    refine ⟨by rw [has_put_same hm (by trivial)]; simp, fun _ c hc => ?_⟩;show (if key = key then c = v else f key c)
    rw [if_pos rfl];rw [atKey_put_same hm (by trivial)] at hc;cases hc; rfl
  · have hne : (Lit.string s.data.toList) ≠ .string key.data.toList := fun h => e (bytes_list.1 (Lit.string.inj h).symm)
    refine ⟨by rw [has_put_other hne, h1]; simp [e], fun hp c hc => ?_⟩;show (if key = s then c = v else f s c)
    rw [if_neg e];rw [atKey_put_other hne] at hc;exact h2 (by simpa [e] using hp) c hc
theorem MapS.of {w : World} {b n : Nat} {p p' : ByteArray -> Bool} {f f' : ByteArray -> Int -> Prop} (h : MapS w b n p f) (hp : ∀ s, p s = p' s) (hf : ∀ s c, p s = true -> f s c -> f' s c) : MapS w b n p' f' := by
  obtain ⟨D, h1, h2, h3⟩ := h;exact ⟨D, h1, h2, fun s hs => ⟨(h3 s hs).1.trans (hp s), fun q c hc => hf s c (by rw [hp]; exact q) ((h3 s hs).2 (by rw [hp]; exact q) c hc)⟩⟩
theorem MapS.kept {w w' : World} {b n : Nat} {p : ByteArray -> Bool} {f : ByteArray -> Int -> Prop} (h : MapS w b n p f) (hb : w'.heap[b]? = w.heap[b]?) : MapS w' b n p f := by
  obtain ⟨D, ⟨es, clock, h1, h2, h3, h4⟩, hm, h5⟩ := h;exact ⟨D, ⟨es, clock, hb.trans h1, h2, h3, h4⟩, hm, h5⟩
def KpB (n₀ Bs : Nat) (A B : World) : Prop := A.heap.size <= B.heap.size /\ ∀ b, b < n₀ \/ b = Bs -> B.heap[b]? = A.heap[b]?
theorem KpB.refl (n₀ Bs : Nat) (A : World) : KpB n₀ Bs A A := ⟨Nat.le_refl _, fun _ _ => rfl⟩
theorem KpB.trans {n₀ Bs : Nat} {A B C : World} (h : KpB n₀ Bs A B) (h' : KpB n₀ Bs B C) : KpB n₀ Bs A C := ⟨Nat.le_trans h.1 h'.1, fun b hb => (h'.2 b hb).trans (h.2 b hb)⟩
def downTo (n k : Nat) : List Nat := (List.range k).map fun j => n - 1 - j
theorem downTo_succ (n k : Nat) : downTo n (k + 1) = downTo n k ++ [n - 1 - k] := by simp [downTo, List.range_succ]
theorem downTo_len (n k : Nat) : (downTo n k).length = k := by simp [downTo]
theorem back_in (F : Fence) (q : Nat) (hF : F.fn 192) (hro : F.round = none) (hq : 1 <= q) (l Bs n₀ g o n c : Nat) (A : Option Addr) (hA : 0 < n -> A = some ⟨g, o, none⟩) (V : Nat -> Array Value) (hz : n <= 1000000) (hg : 0 < n -> g < n₀) (J Jx : List (Fin n) -> World -> Prop)
    (hV : ∀ i, i < n -> ∃ v0 v1 v2 v3 v4 v5 v6 v7 v8, V i = #[v0, v1, v2, v3, v4, v5, v6, v7, v8] /\ (v0.oneCell' = true /\ v1.oneCell' = true))
    (hY : ∀ (pre : List (Fin n)) (x : Fin n) W, J pre W -> pre.length < n -> YieldAt F (q - 1) Tryz.prog l #[.int .i64 (x.1 : Int), .agg (V x.1)] W fun e W' =>
      (e = .returned (.bool true) /\ J (pre ++ [x]) W' /\ KpB n₀ Bs W W') \/ (e = .returned (.bool false) /\ Jx (pre ++ [x]) W'))
    (W : World) (hBs : W.cell? ⟨Bs, 0, none⟩ = some (.slice A n c)) (hc : ∀ i, i < n -> ∀ j v, (V i)[j]? = some v -> W.cell? ⟨g, o + i * 9 + j, none⟩ = some v) (h0 : J [] W) :
    CallsIn F q Tryz.prog 192 #[.func (.yield l) #[] #[], .pointer (some ⟨Bs, 0, none⟩)] W fun e W' => (∃ v, e = .returned v) /\
      ((∃ ys : List (Fin n), ys.map (·.1) = downTo n n /\ J ys W') \/ (∃ pre : List (Fin n), True /\ Jx pre W')) := by
  refine callsIn_of_wp Tryz.func192 rfl hF ?_ hro;simp only [Tryz.ntmps192, List.size_toArray, List.length_cons, List.length_nil, Nat.reduceAdd, Nat.reduceSub, Array.replicate_succ, Array.replicate_zero, List.push_toArray, List.append_toArray, List.nil_append, List.cons_append];gi_wp2
  gi_loopw [3] (fun i wr => ∃ (k : Nat) (pre : List (Fin n)), k <= n /\ i = .int .i64 ((n : Int) - 1 - (k : Int)) /\ pre.map (·.1) = downTo n k /\ J pre wr /\ KpB n₀ Bs W wr)
    (fun i _ => (intOf i + 1).toNat)
  case atStart => exact ⟨0, [], by omega, by simp, rfl, h0, KpB.refl _ _ _⟩
  case round =>
    obtain ⟨k, pre, hk, rfl, hpre, hJs, hkp⟩ := hrel
    have hbx : wr.cell? ⟨Bs, 0, none⟩ = some (.slice A n c) := by
      rw [World.cell?_of_block (w := W) (a := ⟨Bs, 0, none⟩) (hkp.2 Bs (.inr rfl))]; exact hBs
    by_cases hlt : k < n
    · obtain rfl := hA (by omega)
      obtain ⟨x0, hx0⟩ : ∃ x0 : Fin n, x0.1 = n - 1 - k := ⟨⟨n - 1 - k, by omega⟩, rfl⟩;have e1 : ((n : Int) - 1 - (k : Int)) = ((x0.1 : Nat) : Int) := by rw [hx0]; omega
      have hpl : pre.length < n := by
        have := congrArg List.length hpre
        rw [List.length_map, downTo_len] at this;omega
      obtain ⟨fn, tmps, assign, body, hy, hR⟩ := hY pre x0 wr hJs hpl;have hp2 : (pre ++ [x0]).map (·.1) = downTo n (k + 1) := by rw [List.map_append, hpre, downTo_succ, <- hx0]; rfl
      have hi := x0.2;obtain ⟨i, hii⟩ : ∃ i, i = x0.1 := ⟨_, rfl⟩;rw [<- hii] at hy e1 hi hx0;obtain ⟨v0, v1, v2, v3, v4, v5, v6, v7, v8, hv, -⟩ := hV i hi
      have hcell : ∀ j v, (V i)[j]? = some v -> wr.cell? ⟨g, o + i * 9 + j, none⟩ = some v := fun j v hj => by
        rw [World.cell?_of_block (w := W) (a := ⟨g, _, none⟩) (hkp.2 g (.inl (hg (by omega))))]; exact hc _ hi j v hj
      rw [hv] at hcell hy;rw [e1];have c0 := hcell 0 _ rfl;have c1 := hcell 1 _ rfl;have c2 := hcell 2 _ rfl;have c3 := hcell 3 _ rfl;have c4 := hcell 4 _ rfl;have c5 := hcell 5 _ rfl;have c6 := hcell 6 _ rfl;have c7 := hcell 7 _ rfl;have c8 := hcell 8 _ rfl;simp only [Nat.add_zero] at c0;have hni : (i : Int) < n := by omega
      have HR := hZ hR;have HX0 := hZ hx0;have hxk : k < n := hlt;clear hcell e1 hv hR hx0 hii;gi_wp2
      refine HR.out.mono ?_;rintro e W3 (⟨rfl, hJ3, hk3⟩ | ⟨rfl, hJx3⟩)
      · gi_wp2
        go_roundw
        case rel => exact ⟨k + 1, pre ++ [x0], by omega, by have := HX0.out; go_num, hp2, hJ3, hkp.trans hk3⟩
        case measure => have := HX0.out; simp [intOf] <;> omega
      · gi_wp2
        refine bodyPost_ret (results_none rfl _ _ _) rfl ?_;exact ⟨⟨_, rfl⟩, .inr ⟨_, trivial, hJx3⟩⟩
    · obtain rfl : k = n := by omega
      have e1 : ((k : Int) - 1 - (k : Int)) = -1 := by omega
      rw [e1];gi_wp2
      go_end0
      exact ⟨⟨_, rfl⟩, .inl ⟨pre, hpre, hJs⟩⟩
theorem backward_any (A : Option Addr) (n c : Nat) (w : World) :
    Calls Tryz.prog 182 #[.slice A n c] w fun e w' => e = .returned (.func (.func 192) #[] #[.pointer (some ⟨w.heap.size, 0, none⟩)]) /\ w' = w.alloc (.cells #[.slice A n c] 124) := by
  go_enter Tryz.func182, Tryz.ntmps182
  go_wp2_with fail
  go_ret;exact ⟨rfl, rfl⟩
theorem back_stops (q Bs n₀ g o n c : Nat) (A : Option Addr) (hA : 0 < n -> A = some ⟨g, o, none⟩) (V : Nat -> Array Value) (hz : n <= 1000000) (hg : 0 < n -> g < n₀) (hq : 1 <= q)
    (hV : ∀ i, i < n -> ∃ v0 v1 v2 v3 v4 v5 v6 v7 v8, V i = #[v0, v1, v2, v3, v4, v5, v6, v7, v8] /\ (v0.oneCell' = true /\ v1.oneCell' = true)) (w : World) (hn₀ : n₀ <= w.heap.size) (hBs : w.cell? ⟨Bs, 0, none⟩ = some (.slice A n c))
    (hc : ∀ i, i < n -> ∀ j v, (V i)[j]? = some v -> w.cell? ⟨g, o + i * 9 + j, none⟩ = some v) :
    SeqStopsK Fence.wide q Tryz.prog 192 #[.pointer (some ⟨Bs, 0, none⟩)] (fun x : Fin n => #[Value.int .i64 (x.1 : Int), .agg (V x.1)]) (KpB n₀ Bs) (fun ys => ys.map (·.1) = downTo n n) (fun _ => True) n w := fun l J Jx W hW _ _ hY h0 => by
  have hb : Bs < w.heap.size := World.block_lt_of_cell? _ _ hBs;exact back_in Fence.wide q trivial rfl hq l Bs n₀ g o n c A hA V hz hg J Jx hV hY W ((hW.cell (p := ⟨Bs, 0, none⟩) hb).trans hBs) (fun i hi j v hj => (hW.cell (p := ⟨g, _, none⟩) (World.block_lt_of_cell? _ _ (hc i hi j v hj))).trans (hc i hi j v hj)) h0
end Go.Proofs.YtddlmigofilejaaGreat
