/-
  Several texts in one.
-/
import Derived.Test.YteecgiebimdbhaaGreatDoorK14
open List (getElem_toArray getElem_cons_succ getElem_cons_zero set_cons_zero set_cons_succ setIfInBounds_toArray)
set_option maxRecDepth 100000
set_option maxHeartbeats 8000000
namespace Go.Proofs.YteecgiebimdbhaaGreatDoor
open Go.RowKit
open Go.Sort Go.Maps
open M
theorem two_boxes (w : World) (c1 c2 : Array Value) (t1 t2 : TypeId) : ∃ W2, W2 = (w.alloc (.cells c1 t1)).alloc (.cells c2 t2) /\ Below w.heap.size w W2 /\ W2.heap[w.heap.size]? = some (.cells c1 t1 (0, 0)) /\ W2.heap[w.heap.size + 1]? = some (.cells c2 t2 (0, 0)) /\ w.heap.size + 1 < W2.heap.size := by
  have hs1 : (w.alloc (.cells c1 t1)).heap.size = w.heap.size + 1 := by simp
  refine ⟨_, rfl, below_new (below_new (Below.refl _ _) _) _, ?_, ?_, by simp⟩
  · rw [Lib.alloc_old _ _ _ (by rw [hs1]; omega)]; exact heap_alloc_new w _
  · rw [<- hs1]; exact heap_alloc_new _ _
noncomputable def hidB (E : List En) (l : List Nat) : Bool := (List.range E.length).any fun i => reachB E l i && (match E[i]? with | some y => y.kind == 2 | none => false)
theorem circ_any (E : List En) (hE : Valid E) (hE2 : E.length <= 1000000) (Ae : Option Addr) (ce b0 b1 : Nat) (x : En) (As : Option Addr) (cs : Nat) (w : World)
    (hR : RowIn enR w Ae E) (hl : NatsAt w As x.said) (hv : ∀ i ∈ x.said, i < E.length) (hll : x.said.length <= 1000000) (hx : x.at_ < E.length) :
    Calls Tryz.prog 245 #[.agg #[.map (some b0), .map (some b1), .slice Ae E.length ce], .agg #[.int .i64 x.at_, .int .i64 x.kind, .slice As x.said.length cs, .bool x.whole]] w fun e w' => e = .returned (.bool (reachB E x.said x.at_)) /\ Below w.heap.size w w' := by
  obtain ⟨W2, hW2, hB, X1, X2, hlo⟩ := two_boxes w #[.map (some b0), .map (some b1), .slice Ae E.length ce] #[.int .i64 x.at_, .int .i64 x.kind, .slice As x.said.length cs, .bool x.whole] 278 284;have BD : Below W2.heap.size W2 W2.drew := Below.drew (Below.refl _ _);have BW := below_over hB BD;have AL := hZ (found_any E hE hE2 Ae ce b0 b1 x.said As cs W2.drew (hR.below BW) (hl.below BW) hv hll);have Y1 := (BD.block _ (by omega)).trans X1;have Y2 := (BD.block _ hlo).trans X2
  have hH0 : (W2.drew.cell? ⟨w.heap.size, 0, none⟩ = some (.map (some b0)) /\ W2.drew.cell? ⟨w.heap.size, 1, none⟩ = some (.map (some b1)) /\ W2.drew.cell? ⟨w.heap.size, 2, none⟩ = some (.slice Ae E.length ce)) /\ W2.drew.cell? ⟨w.heap.size + 1, 0, none⟩ = some (.int .i64 x.at_) /\ W2.drew.cell? ⟨w.heap.size + 1, 2, none⟩ = some (.slice As x.said.length cs) :=
    ⟨⟨cZ Y1 0, cZ Y1 1, cZ Y1 2⟩, cZ Y2 0, cZ Y2 2⟩
  have HBW := hZ BW;have HW2 := hZ hW2;have hsd : W2.drew.heap.size = W2.heap.size := rfl;have HSD := hZ hsd;have hx1 : (0 : Int) <= x.at_ := by omega
  have hx2 : (x.at_ : Int) < E.length := by omega
  obtain ⟨n, hn⟩ : ∃ n, n = E.length := ⟨_, rfl⟩;rw [<- hn] at hH0 HW2 AL hx hx2 hE2 ⊢;clear hB X1 X2 BD BW hW2 Y1 Y2 hR hl hsd hn;go_enter Tryz.func245, Tryz.ntmps245
  go_upto_region 1 with fail
  rw [<- HW2.out];refine AnyX.start (fun wx => (wx.cell? ⟨w.heap.size, 0, none⟩ = some (.map (some b0)) /\ wx.cell? ⟨w.heap.size, 1, none⟩ = some (.map (some b1)) /\ wx.cell? ⟨w.heap.size, 2, none⟩ = some (.slice Ae n ce)) /\ wx.cell? ⟨w.heap.size + 1, 0, none⟩ = some (.int .i64 x.at_) /\ wx.cell? ⟨w.heap.size + 1, 2, none⟩ = some (.slice As x.said.length cs)) (fun _ => false) (by kernel_rfl) ?_;refine AnyX.tk (i := 0) (v := ?_) rfl (fun _ _ _ h => h) hH0 (Or.inl ⟨by rfl, ?_⟩) ?_;rotate_left
  · (intro wS hS; (try obtain ⟨⟨c0, c1, c2⟩, c3, c4⟩ := hS); go_simp; try with_reducible rfl)
  simp only [getElem_toArray, getElem_cons_succ, getElem_cons_zero];simp only [Act.put, setIfInBounds_toArray, set_cons_zero, set_cons_succ];refine AnyX.mv (i := 1) (v := ?_) rfl (fun _ _ _ h => h) (Or.inl ⟨by rfl, ?_⟩) ?_;rotate_left
  · (intro wS _; go_simp; try with_reducible rfl)
  simp only [getElem_toArray, getElem_cons_succ, getElem_cons_zero];simp only [Act.put, setIfInBounds_toArray, set_cons_zero, set_cons_succ];refine AnyX.tk (i := 2) (v := ?_) rfl (fun _ _ _ h => h) hH0 (Or.inl ⟨by rfl, ?_⟩) ?_;rotate_left
  · (intro wS hS; (try obtain ⟨⟨c0, c1, c2⟩, c3, c4⟩ := hS); go_simp; try with_reducible rfl)
  simp only [getElem_toArray, getElem_cons_succ, getElem_cons_zero];simp only [Act.put, setIfInBounds_toArray, set_cons_zero, set_cons_succ];refine AnyX.mv (i := 4) (v := ?_) rfl (fun _ _ _ h => h) (Or.inl ⟨by rfl, ?_⟩) ?_;rotate_left
  · (intro wS _; go_simp; try with_reducible rfl)
  simp only [getElem_toArray, getElem_cons_succ, getElem_cons_zero];simp only [Act.put, setIfInBounds_toArray, set_cons_zero, set_cons_succ];refine AnyX.tk (i := 5) (v := ?_) rfl (fun _ _ _ h => h) hH0 (Or.inl ⟨by rfl, ?_⟩) ?_;rotate_left
  · (intro wS hS; (try obtain ⟨⟨c0, c1, c2⟩, c3, c4⟩ := hS); go_simp; try with_reducible rfl)
  simp only [getElem_toArray, getElem_cons_succ, getElem_cons_zero];simp only [Act.put, setIfInBounds_toArray, set_cons_zero, set_cons_succ];refine AnyX.go 3 (by kernel_rfl) rfl rfl (fun K hK => ?_);simp only [getElem_toArray, getElem_cons_succ, getElem_cons_zero];go_simp
  refine AL.out.mono ?_;rintro e w3 ⟨fb, rfl, hfb, hF, hb⟩;have hc := hF.cell hx;have HF := hZ (below_over HBW.out hb)
  have hH3 : (w3.cell? ⟨w.heap.size, 0, none⟩ = some (.map (some b0)) /\ w3.cell? ⟨w.heap.size, 1, none⟩ = some (.map (some b1)) /\ w3.cell? ⟨w.heap.size, 2, none⟩ = some (.slice Ae n ce)) /\ w3.cell? ⟨w.heap.size + 1, 0, none⟩ = some (.int .i64 x.at_) /\ w3.cell? ⟨w.heap.size + 1, 2, none⟩ = some (.slice As x.said.length cs) := by
    have hw : ∀ (b o : Nat) (v : Value), b <= w.heap.size + 1 -> W2.drew.cell? ⟨b, o, none⟩ = some v -> w3.cell? ⟨b, o, none⟩ = some v := fun b o v h1 h2 => (hb.cell (p := ⟨b, o, none⟩) (by show b < W2.drew.heap.size; rw [HSD.out]; omega)).trans h2
    exact ⟨⟨hw _ _ _ (by omega) hH0.1.1, hw _ _ _ (by omega) hH0.1.2.1, hw _ _ _ (by omega) hH0.1.2.2⟩, hw _ _ _ (by omega) hH0.2.1, hw _ _ _ (by omega) hH0.2.2⟩
  clear hF hb;refine hK.out _ _ (fun hoff _ => hH3) ?_;clear hK;(try simp only [Act.put, setIfInBounds_toArray, set_cons_zero, set_cons_succ]);refine AnyX.mv (i := 6) (v := ?_) rfl (fun _ _ _ h => h) (Or.inl ⟨by rfl, ?_⟩) ?_;rotate_left
  · (intro wS _; go_simp; try with_reducible rfl)
  simp only [getElem_toArray, getElem_cons_succ, getElem_cons_zero];simp only [Act.put, setIfInBounds_toArray, set_cons_zero, set_cons_succ];refine AnyX.go 7 (by kernel_rfl) rfl rfl (fun K hK => ?_);simp only [getElem_toArray, getElem_cons_succ, getElem_cons_zero];go_simp
  refine hK.out _ _ (fun hoff _ => hH3) ?_;clear hK;(try simp only [Act.put, setIfInBounds_toArray, set_cons_zero, set_cons_succ]);refine AnyX.mv (i := 8) (v := ?_) rfl (fun _ _ _ h => h) (Or.inl ⟨by rfl, ?_⟩) ?_;rotate_left
  · (intro wS _; go_simp; try with_reducible rfl)
  simp only [getElem_toArray, getElem_cons_succ, getElem_cons_zero];simp only [Act.put, setIfInBounds_toArray, set_cons_zero, set_cons_succ];refine AnyX.done (by kernel_rfl) ?_ _;go_wp2_with fail
  go_ret;exact ⟨rfl, HF.out⟩
theorem hid_at {E : List En} {l : List Nat} {k : Nat} {x : En} (hx : E[k]? = some x) : (match E[k]? with | some y => y.kind == 2 | none => false) = (x.kind == 2) := by rw [hx]
theorem hid_snoc (E : List En) (l : List Nat) (k : Nat) : ((List.range (k + 1)).any fun i => reachB E l i && (match E[i]? with | some y => y.kind == 2 | none => false)) = (((List.range k).any fun i => reachB E l i && (match E[i]? with | some y => y.kind == 2 | none => false)) || (reachB E l k && (match E[k]? with | some y => y.kind == 2 | none => false))) := by
  rw [List.range_succ, List.any_append]; simp
theorem hid_yes {E : List En} {l : List Nat} {k : Nat} {x : En} (hk : k < E.length) (hx : E[k]? = some x) (h1 : reachB E l k = true) (h2 : (x.kind == 2) = true) : hidB E l = true := by
  unfold hidB
  rw [List.any_eq_true];exact ⟨k, List.mem_range.2 hk, by rw [h1, hx]; exact h2⟩
theorem hid_any (E : List En) (hE : Valid E) (hE2 : E.length <= 1000000) (Ae : Option Addr) (ce b0 b1 : Nat) (x : En) (As : Option Addr) (cs : Nat) (w : World)
    (hR : RowIn enR w Ae E) (hl : NatsAt w As x.said) (hv : ∀ i ∈ x.said, i < E.length) (hll : x.said.length <= 1000000) :
    Calls Tryz.prog 246 #[.agg #[.map (some b0), .map (some b1), .slice Ae E.length ce], .agg #[.int .i64 x.at_, .int .i64 x.kind, .slice As x.said.length cs, .bool x.whole]] w fun e w' => e = .returned (.bool (hidB E x.said)) /\ Below w.heap.size w w' := by
  obtain ⟨W2, hW2, hB, X1, X2, hlo⟩ := two_boxes w #[.map (some b0), .map (some b1), .slice Ae E.length ce] #[.int .i64 x.at_, .int .i64 x.kind, .slice As x.said.length cs, .bool x.whole] 278 284;have AL := hZ (found_any E hE hE2 Ae ce b0 b1 x.said As cs W2 (hR.below hB) (hl.below hB) hv hll);obtain ⟨x0, x1, x2⟩ := cq3 X1;have z2 := cZ X2 2;simp at x0 x1 x2 z2;have HX1 := hZ X1;have HB := hZ hB;have HW2 := hZ hW2;have HR := hZ (hR.below hB);obtain ⟨V, hV⟩ : ∃ V, V = hidB E x.said := ⟨_, rfl⟩;have HV := hZ hV;obtain ⟨n, hn⟩ : ∃ n, n = E.length := ⟨_, rfl⟩;have HN := hZ hn;rw [<- hn] at x2 HX1 HW2 AL hE2 ⊢;rw [<- hV];clear hB X1 X2 hW2 hR hl hn hV;go_enter Tryz.func246, Tryz.ntmps246
  go_upto_region 1 with fail
  rw [<- HW2.out];go_wp2_with fail
  refine AL.out.mono ?_;rintro e w3 ⟨fb, rfl, hfb, hF, hb⟩;have HF := hZ hF;have HB3 := hZ (below_over HB.out hb);have Y1 := (hb.block w.heap.size (by omega)).trans HX1.out;have HR3 := hZ (HR.out.below hb);have y2 := cZ Y1 2;simp at y2;clear hF hb x0 x1 x2 z2 Y1;go_wp2_with fail
  go_loopw [12] (fun iv wr => ∃ k : Nat, k <= n /\ iv = .int .i64 k /\ wr = w3 /\ Hid (((List.range k).any fun i => reachB E x.said i && (match E[i]? with | some y => y.kind == 2 | none => false)) = false)) (fun iv _ => n - (intOf iv).toNat)
  case atStart => exact ⟨0, by omega, rfl, rfl, hZ rfl⟩
  case round =>
    obtain ⟨k, hk, rfl, rfl, HQ⟩ := hrel;by_cases hlt : k < n
    · have hc := HF.out.cell hlt
      have hy : E[k]? = some E[k] := List.getElem?_eq_getElem (by rw [<- HN.out]; exact hlt);obtain ⟨y, hyy⟩ : ∃ y, y = E[k] := ⟨_, rfl⟩;rw [<- hyy] at hy;obtain ⟨g2, o2, lv, rfl, hg2, hc2, As2, cs2, rfl, hNs, hlen2⟩ := HR3.out k y hy;have u1 := hc2 1 _ rfl;have u1' : wr.cell? ⟨g2, o2 + k * 4 + 1, none⟩ = some (.int .i64 y.kind) := u1
      have HY := hZ hy;have hNE : k < E.length := by rw [<- HN.out]; exact hlt
      obtain ⟨r, hr⟩ : ∃ r, reachB E x.said k = r := ⟨_, rfl⟩;obtain ⟨p, hp⟩ : ∃ p, (y.kind == 2) = p := ⟨_, rfl⟩;rw [hr] at hc
      have NX : Hid ((r && p) = false -> ((List.range (k + 1)).any fun i => reachB E x.said i && (match E[i]? with | some y => y.kind == 2 | none => false)) = false) := hZ (fun h => by
        rw [hid_snoc, HQ.out, hid_at HY.out (l := []), hr, hp, h]; rfl)
      have YS : Hid (r = true -> p = true -> V = true) := hZ (fun h1 h2 => by rw [HV.out]; exact hid_yes hNE HY.out (by rw [hr, h1]) (by rw [hp, h2]));clear hy hyy hc2 hNs u1 hr HY;cases r with
      | false =>
        go_wp2_with fail
        go_roundw
        case rel => exact ⟨k + 1, by omega, by go_num, by first | rfl | trivial, hZ (NX.out rfl)⟩
        case measure => simp [intOf]; omega
      | true =>
        cases p with
        | false =>
          go_wp2_with fail
          go_roundw
          case rel => exact ⟨k + 1, by omega, by go_num, by first | rfl | trivial, hZ (NX.out rfl)⟩
          case measure => simp [intOf]; omega
        | true =>
          have RV := YS.out rfl rfl;subst RV;go_wp2_with fail
          go_ret;exact ⟨rfl, HB3.out⟩
    · obtain rfl : k = n := by omega
      have RV : V = false := by rw [HV.out]; unfold hidB; rw [<- HN.out]; exact HQ.out
      subst RV;go_wp2_with fail
      go_ret;exact ⟨rfl, HB3.out⟩
def fstN (p : Nat -> Bool) (n : Nat) : Int := match (List.range n).find? p with | some i => (i : Int) | none => -1
theorem fstN_yes {p : Nat -> Bool} {n k : Nat} (hk : k < n) (h : ∀ i, i < k -> p i = false) (hp : p k = true) : fstN p n = k := by
 unfold fstN
 have : (List.range n).find? p = some k := by
  rw [List.find?_range_eq_some];exact ⟨hp, List.mem_range.2 hk, fun i hi => by rw [h i hi]; rfl⟩
 rw [this]
theorem fstN_no {p : Nat -> Bool} {n : Nat} (h : ∀ i, i < n -> p i = false) : fstN p n = -1 := by
 unfold fstN
 have : (List.range n).find? p = none := by
  rw [List.find?_eq_none];intro i hi;rw [h i (List.mem_range.1 hi)]; decide
 rw [this]
noncomputable def atE (E : List En) (p : En -> Bool) (i : Nat) : Bool := match E[i]? with | some x => p x | none => false
theorem atE_some {E : List En} {p : En -> Bool} {i : Nat} {x : En} (h : E[i]? = some x) : atE E p i = p x := by unfold atE; rw [h]
theorem index_mis (E : List En) (hE : Valid E) (hE2 : E.length <= 1000000) (hA : ∀ x ∈ E, x.at_ < E.length) (Ae : Option Addr) (ce b0 b1 : Nat) (w : World) (hR : RowIn enR w Ae E) :
  Calls Tryz.prog 243 #[.slice Ae E.length ce, .func (.func 244) #[] #[]] w fun e w' => e = .returned (.int .i64 (fstN (atE E (fun x => !x.whole)) E.length)) /\ Below w.heap.size w w' := by
 have HR := hZ hR
 obtain ⟨V, hV⟩ : ∃ V, V = fstN (atE E (fun x => !x.whole)) E.length := ⟨_, rfl⟩
 have HV := hZ hV
 rw [<- hV]
 obtain ⟨n, hn⟩ : ∃ n, n = E.length := ⟨_, rfl⟩
 have HN := hZ hn
 have HEE := hZ hE
 have HAA := hZ hA
 rw [<- hn] at hE2 ⊢
 clear hR hn hV hE hA
 go_enter Tryz.func243, Tryz.ntmps243
 go_wp2_with fail
 go_loopw [8] (fun iv wr => ∃ k : Nat, k <= n /\ iv = .int .i64 k /\ Hid (∀ i, i < k -> atE E (fun x => !x.whole) i = false) /\ Hid (Below w.heap.size w wr)) (fun iv _ => n - (intOf iv).toNat)
 case atStart => exact ⟨0, by omega, rfl, hZ (fun i h => by omega), hZ (Below.refl _ _)⟩
 case round =>
  obtain ⟨k, hk, rfl, HQ, HB⟩ := hrel;obtain ⟨wo, rfl⟩ : ∃ wo : World, wo = wr := ⟨_, rfl⟩;by_cases hlt : k < n
  ·have hx : E[k]? = some E[k] := List.getElem?_eq_getElem (by rw [<- HN.out]; exact hlt)
   obtain ⟨x, hxx⟩ : ∃ x, x = E[k] := ⟨_, rfl⟩;rw [<- hxx] at hx;obtain ⟨g, o, lv, rfl, hg, hc, As, cs, rfl, hNs, hlen⟩ := HR.out.below HB.out k x hx;have u0 := hc 0 _ rfl;have u1 := hc 1 _ rfl;have u2 := hc 2 _ rfl;have u3 := hc 3 _ rfl;have y0 : wo.cell? ⟨g, o + k * 4, none⟩ = some (.int .i64 x.at_) := u0;have y1 : wo.cell? ⟨g, o + k * 4 + 1, none⟩ = some (.int .i64 x.kind) := u1;have y2 : wo.cell? ⟨g, o + k * 4 + 2, none⟩ = some (.slice As x.said.length cs) := u2;have y3 : wo.cell? ⟨g, o + k * 4 + 3, none⟩ = some (.bool x.whole) := u3;have hmem := List.mem_of_getElem? hx;have CA := hZ (mis_any x.at_ x.kind As x.said.length cs x.whole wo);obtain ⟨r, hr⟩ : ∃ r, (!x.whole) = r := ⟨_, rfl⟩;rw [hr] at CA;have HAT : Hid (atE E (fun x => !x.whole) k = r) := hZ (by rw [atE_some hx]; exact hr);clear hx hxx hc hNs hlen u0 u1 u2 u3 hr hmem;cases r with
   | true =>
    have RV : V = (k : Int) := by rw [HV.out]; exact fstN_yes (by rw [<- HN.out]; exact hlt) HQ.out HAT.out
    subst RV;go_wp2_with fail
    refine CA.out.mono ?_; rintro e w2 ⟨rfl, hb2⟩
    have HB2 := hZ (below_over HB.out hb2);clear y0 y1 y2 y3 hb2;go_wp2_with fail
    go_ret;exact ⟨rfl, HB2.out⟩
   | false =>
    go_wp2_with fail
    refine CA.out.mono ?_; rintro e w2 ⟨rfl, hb2⟩
    have HB2 := hZ (below_over HB.out hb2);clear y0 y1 y2 y3 hb2;go_wp2_with fail
    go_roundw
    case rel => exact ⟨k + 1, by omega, by go_num, hZ (fun i hi => by
     by_cases e : i = k
     ·rw [e]; exact HAT.out
     ·exact HQ.out i (by omega)), HB2⟩
    case measure => simp [intOf]; omega
  ·have RV : V = -1 := by rw [HV.out]; exact fstN_no (fun i hi => HQ.out i (by rw [<- HN.out] at hi; omega))
   subst RV;go_wp2_with fail
   go_ret;exact ⟨rfl, HB.out⟩
theorem index_circ (E : List En) (hE : Valid E) (hE2 : E.length <= 1000000) (hA : ∀ x ∈ E, x.at_ < E.length) (Ae : Option Addr) (ce b0 b1 : Nat) (w : World) (hR : RowIn enR w Ae E) :
  Calls Tryz.prog 243 #[.slice Ae E.length ce, .func (.func 245) #[.agg #[.map (some b0), .map (some b1), .slice Ae E.length ce]] #[]] w fun e w' => e = .returned (.int .i64 (fstN (atE E (fun x => reachB E x.said x.at_)) E.length)) /\ Below w.heap.size w w' := by
 have HR := hZ hR
 obtain ⟨V, hV⟩ : ∃ V, V = fstN (atE E (fun x => reachB E x.said x.at_)) E.length := ⟨_, rfl⟩
 have HV := hZ hV
 rw [<- hV]
 obtain ⟨n, hn⟩ : ∃ n, n = E.length := ⟨_, rfl⟩
 have HN := hZ hn
 have HEE := hZ hE
 have HAA := hZ hA
 rw [<- hn] at hE2 ⊢
 clear hR hn hV hE hA
 go_enter Tryz.func243, Tryz.ntmps243
 go_wp2_with fail
 go_loopw [8] (fun iv wr => ∃ k : Nat, k <= n /\ iv = .int .i64 k /\ Hid (∀ i, i < k -> atE E (fun x => reachB E x.said x.at_) i = false) /\ Hid (Below w.heap.size w wr)) (fun iv _ => n - (intOf iv).toNat)
 case atStart => exact ⟨0, by omega, rfl, hZ (fun i h => by omega), hZ (Below.refl _ _)⟩
 case round =>
  obtain ⟨k, hk, rfl, HQ, HB⟩ := hrel;obtain ⟨wo, rfl⟩ : ∃ wo : World, wo = wr := ⟨_, rfl⟩;by_cases hlt : k < n
  ·have hx : E[k]? = some E[k] := List.getElem?_eq_getElem (by rw [<- HN.out]; exact hlt)
   obtain ⟨x, hxx⟩ : ∃ x, x = E[k] := ⟨_, rfl⟩;rw [<- hxx] at hx;obtain ⟨g, o, lv, rfl, hg, hc, As, cs, rfl, hNs, hlen⟩ := HR.out.below HB.out k x hx;have u0 := hc 0 _ rfl;have u1 := hc 1 _ rfl;have u2 := hc 2 _ rfl;have u3 := hc 3 _ rfl;have y0 : wo.cell? ⟨g, o + k * 4, none⟩ = some (.int .i64 x.at_) := u0;have y1 : wo.cell? ⟨g, o + k * 4 + 1, none⟩ = some (.int .i64 x.kind) := u1;have y2 : wo.cell? ⟨g, o + k * 4 + 2, none⟩ = some (.slice As x.said.length cs) := u2;have y3 : wo.cell? ⟨g, o + k * 4 + 3, none⟩ = some (.bool x.whole) := u3;have hmem := List.mem_of_getElem? hx;have CA := hZ (circ_any E HEE.out (by rw [<- HN.out]; exact hE2) _ ce b0 b1 x As cs wo (HR.out.below HB.out) hNs (HEE.out x hmem) hlen (HAA.out x hmem));rw [<- HN.out] at CA;obtain ⟨r, hr⟩ : ∃ r, reachB E x.said x.at_ = r := ⟨_, rfl⟩;rw [hr] at CA;have HAT : Hid (atE E (fun x => reachB E x.said x.at_) k = r) := hZ (by rw [atE_some hx]; exact hr);clear hx hxx hc hNs hlen u0 u1 u2 u3 hr hmem;cases r with
   | true =>
    have RV : V = (k : Int) := by rw [HV.out]; exact fstN_yes (by rw [<- HN.out]; exact hlt) HQ.out HAT.out
    subst RV;go_wp2_with fail
    refine CA.out.mono ?_; rintro e w2 ⟨rfl, hb2⟩
    have HB2 := hZ (below_over HB.out hb2);clear y0 y1 y2 y3 hb2;go_wp2_with fail
    go_ret;exact ⟨rfl, HB2.out⟩
   | false =>
    go_wp2_with fail
    refine CA.out.mono ?_; rintro e w2 ⟨rfl, hb2⟩
    have HB2 := hZ (below_over HB.out hb2);clear y0 y1 y2 y3 hb2;go_wp2_with fail
    go_roundw
    case rel => exact ⟨k + 1, by omega, by go_num, hZ (fun i hi => by
     by_cases e : i = k
     ·rw [e]; exact HAT.out
     ·exact HQ.out i (by omega)), HB2⟩
    case measure => simp [intOf]; omega
  ·have RV : V = -1 := by rw [HV.out]; exact fstN_no (fun i hi => HQ.out i (by rw [<- HN.out] at hi; omega))
   subst RV;go_wp2_with fail
   go_ret;exact ⟨rfl, HB.out⟩
theorem index_hid (E : List En) (hE : Valid E) (hE2 : E.length <= 1000000) (hA : ∀ x ∈ E, x.at_ < E.length) (Ae : Option Addr) (ce b0 b1 : Nat) (w : World) (hR : RowIn enR w Ae E) :
  Calls Tryz.prog 243 #[.slice Ae E.length ce, .func (.func 246) #[.agg #[.map (some b0), .map (some b1), .slice Ae E.length ce]] #[]] w fun e w' => e = .returned (.int .i64 (fstN (atE E (fun x => hidB E x.said)) E.length)) /\ Below w.heap.size w w' := by
 have HR := hZ hR
 obtain ⟨V, hV⟩ : ∃ V, V = fstN (atE E (fun x => hidB E x.said)) E.length := ⟨_, rfl⟩
 have HV := hZ hV
 rw [<- hV]
 obtain ⟨n, hn⟩ : ∃ n, n = E.length := ⟨_, rfl⟩
 have HN := hZ hn
 have HEE := hZ hE
 have HAA := hZ hA
 rw [<- hn] at hE2 ⊢
 clear hR hn hV hE hA
 go_enter Tryz.func243, Tryz.ntmps243
 go_wp2_with fail
 go_loopw [8] (fun iv wr => ∃ k : Nat, k <= n /\ iv = .int .i64 k /\ Hid (∀ i, i < k -> atE E (fun x => hidB E x.said) i = false) /\ Hid (Below w.heap.size w wr)) (fun iv _ => n - (intOf iv).toNat)
 case atStart => exact ⟨0, by omega, rfl, hZ (fun i h => by omega), hZ (Below.refl _ _)⟩
 case round =>
  obtain ⟨k, hk, rfl, HQ, HB⟩ := hrel;obtain ⟨wo, rfl⟩ : ∃ wo : World, wo = wr := ⟨_, rfl⟩;by_cases hlt : k < n
  ·have hx : E[k]? = some E[k] := List.getElem?_eq_getElem (by rw [<- HN.out]; exact hlt)
   obtain ⟨x, hxx⟩ : ∃ x, x = E[k] := ⟨_, rfl⟩;rw [<- hxx] at hx;obtain ⟨g, o, lv, rfl, hg, hc, As, cs, rfl, hNs, hlen⟩ := HR.out.below HB.out k x hx;have u0 := hc 0 _ rfl;have u1 := hc 1 _ rfl;have u2 := hc 2 _ rfl;have u3 := hc 3 _ rfl;have y0 : wo.cell? ⟨g, o + k * 4, none⟩ = some (.int .i64 x.at_) := u0;have y1 : wo.cell? ⟨g, o + k * 4 + 1, none⟩ = some (.int .i64 x.kind) := u1;have y2 : wo.cell? ⟨g, o + k * 4 + 2, none⟩ = some (.slice As x.said.length cs) := u2;have y3 : wo.cell? ⟨g, o + k * 4 + 3, none⟩ = some (.bool x.whole) := u3;have hmem := List.mem_of_getElem? hx;have CA := hZ (hid_any E HEE.out (by rw [<- HN.out]; exact hE2) _ ce b0 b1 x As cs wo (HR.out.below HB.out) hNs (HEE.out x hmem) hlen);rw [<- HN.out] at CA;obtain ⟨r, hr⟩ : ∃ r, hidB E x.said = r := ⟨_, rfl⟩;rw [hr] at CA;have HAT : Hid (atE E (fun x => hidB E x.said) k = r) := hZ (by rw [atE_some hx]; exact hr);clear hx hxx hc hNs hlen u0 u1 u2 u3 hr hmem;cases r with
   | true =>
    have RV : V = (k : Int) := by rw [HV.out]; exact fstN_yes (by rw [<- HN.out]; exact hlt) HQ.out HAT.out
    subst RV;go_wp2_with fail
    refine CA.out.mono ?_; rintro e w2 ⟨rfl, hb2⟩
    have HB2 := hZ (below_over HB.out hb2);clear y0 y1 y2 y3 hb2;go_wp2_with fail
    go_ret;exact ⟨rfl, HB2.out⟩
   | false =>
    go_wp2_with fail
    refine CA.out.mono ?_; rintro e w2 ⟨rfl, hb2⟩
    have HB2 := hZ (below_over HB.out hb2);clear y0 y1 y2 y3 hb2;go_wp2_with fail
    go_roundw
    case rel => exact ⟨k + 1, by omega, by go_num, hZ (fun i hi => by
     by_cases e : i = k
     ·rw [e]; exact HAT.out
     ·exact HQ.out i (by omega)), HB2⟩
    case measure => simp [intOf]; omega
  ·have RV : V = -1 := by rw [HV.out]; exact fstN_no (fun i hi => HQ.out i (by rw [<- HN.out] at hi; omega))
   subst RV;go_wp2_with fail
   go_ret;exact ⟨rfl, HB.out⟩
def dupB {α : Type} (key : α -> ByteArray) (l : List α) (i : Nat) : Bool := match l[i]? with | some x => (l.take i).any fun y => decide (key y = key x) | none => false
theorem dupB_some {α : Type} {key : α -> ByteArray} {l : List α} {i : Nat} {x : α} (h : l[i]? = some x) : dupB key l i = (l.take i).any fun y => decide (key y = key x) := by unfold dupB; rw [h]
theorem str_eq (a b : ByteArray) : (a.toList == b.toList) = decide (a = b) := by
 rw [Bool.eq_iff_iff, beq_iff_eq, decide_eq_true_eq, Lib.toList_data, Lib.toList_data, bytes_list]
theorem any_snoc {α : Type} (p : α -> Bool) (l : List α) (j : Nat) (x : α) (h : l[j]? = some x) : (l.take (j + 1)).any p = ((l.take j).any p || p x) := by
 rw [List.take_add_one, h, List.any_append]; simp
theorem as_any (yp yd ya : ByteArray) (ym : Int) (w : World) : Calls Tryz.prog 240 #[.agg #[.string yp, .int .i64 ym, .string yd, .string ya]] w fun e w' => e = .returned (.string ya) /\ Below w.heap.size w w' := by
 go_enter Tryz.func240, Tryz.ntmps240
 go_wp2_with fail
 go_ret
 exact ⟨rfl, below_new (Below.refl _ _) _⟩
theorem alikeI_any (yp yd ya : ByteArray) (ym : Int) (xp xd xa : ByteArray) (xm : Int) (nb xb : Nat) (w : World) (hn : w.cell? ⟨nb, 0, none⟩ = some (.func (.func 240) #[] #[])) (hx : w.heap[xb]? = some (.cells #[.string xp, .int .i64 xm, .string xd, .string xa] 71 (0, 0))) :
  Calls Tryz.prog 85 #[.agg #[.string yp, .int .i64 ym, .string yd, .string ya], .pointer (some ⟨nb, 0, none⟩), .pointer (some ⟨xb, 0, none⟩)] w fun e w' => e = .returned (.bool (decide (ya = xa))) /\ Below w.heap.size w w' := by
 obtain ⟨wb, hwb⟩ : ∃ wb, wb = w.alloc (.cells #[.string yp, .int .i64 ym, .string yd, .string ya] 71) := ⟨_, rfl⟩
 have B0 : Below w.heap.size w wb := by rw [hwb]; exact below_new (Below.refl _ _) _
 have X0 : wb.heap[w.heap.size]? = some (.cells #[.string yp, .int .i64 ym, .string yd, .string ya] 71 (0, 0)) := by rw [hwb]; exact heap_alloc_new w _
 have X1 := (B0.block _ (Array.getElem?_eq_some_iff.1 hx).1).trans hx
 have N1 := (B0.cell (p := ⟨nb, 0, none⟩) (World.block_lt_of_cell? _ _ hn)).trans hn
 have cP : ∀ dd os, Calls Tryz.prog 240 #[.agg #[.string yp, .int .i64 ym, .string yd, .string ya]] (Sort.grow (redrawn wb dd) os) fun e w'' => e = .returned (.string ya) /\ ∃ pp : Regrown, w'' = Sort.grow (redrawn wb pp.d) pp.os := fun dd os => Calls.regrown_of (as_any yp yd ya ym _)
 have cQ : ∀ dd os, Calls Tryz.prog 240 #[.agg #[.string xp, .int .i64 xm, .string xd, .string xa]] (Sort.grow (redrawn wb dd) os) fun e w'' => e = .returned (.string xa) /\ ∃ pp : Regrown, w'' = Sort.grow (redrawn wb pp.d) pp.os := fun dd os => Calls.regrown_of (as_any xp xd xa xm _)
 have py0 := cell_regrown (cZ X0 0)
 have py1 := cell_regrown (cZ X0 1)
 have py2 := cell_regrown (cZ X0 2)
 have py3 := cell_regrown (cZ X0 3)
 have px0 := cell_regrown (cZ X1 0)
 have px1 := cell_regrown (cZ X1 1)
 have px2 := cell_regrown (cZ X1 2)
 have px3 := cell_regrown (cZ X1 3)
 simp at py0 py1 py2 py3 px0 px1 px2 px3
 have pn := cell_regrown N1
 have HB0 := hZ B0
 have HWB := hZ hwb
 have hq := str_eq ya xa
 clear hn hx hwb B0 X0 X1 N1
 go_enter Tryz.func85, Tryz.ntmps85
 go_upto_region 1 with fail
 rw [<- HWB.out]
 refine wp_region_quiet_below (by kernel_rfl) (by kernel_rfl) ?_
 repeat (any_goals (first | go_big_quiet_step (first | (with_reducible exact cP _ _) | (with_reducible exact cQ _ _)) | quiet_step (first | (with_reducible exact cP _ _) | (with_reducible exact cQ _ _))))
 refine wpQuiet_nil ?_
 intro _ hw'
 obtain ⟨⟨dq, osq⟩, hw''⟩ := hw'
 subst hw''
 have HBQ := hZ (below_over HB0.out (below_regrown wb dq osq))
 go_wp2_with fail
 go_ret
 exact ⟨by first | rfl | exact ret_bool hq, HBQ.out⟩
theorem declared_any (yk y0 y2 : Int) (ys y1 y3 y4 : ByteArray) (yA yB : Option Addr) (y5 ye y6 yc : Nat) (w : World) : Calls Tryz.prog 242 #[.agg #[.int .i64 yk, .string ys, .int .i64 y0, .string y1, .int .i64 y2, .string y3, .string y4, .slice yA y5 ye, .slice yB y6 yc]] w fun e w' => e = .returned (.string ys) /\ Below w.heap.size w w' := by
 go_enter Tryz.func242, Tryz.ntmps242
 go_wp2_with fail
 go_ret
 exact ⟨rfl, below_new (Below.refl _ _) _⟩
theorem alikeD_any (yk y0 y2 : Int) (ys y1 y3 y4 : ByteArray) (yA yB : Option Addr) (y5 ye y6 yc : Nat) (xk x0 x2 : Int) (xs x1 x3 x4 : ByteArray) (xA xB : Option Addr) (x5 xe x6 xc : Nat) (nb xb : Nat) (w : World) (hn : w.cell? ⟨nb, 0, none⟩ = some (.func (.func 242) #[] #[])) (hx : w.heap[xb]? = some (.cells #[.int .i64 xk, .string xs, .int .i64 x0, .string x1, .int .i64 x2, .string x3, .string x4, .slice xA x5 xe, .slice xB x6 xc] 194 (0, 0))) :
  Calls Tryz.prog 270 #[.agg #[.int .i64 yk, .string ys, .int .i64 y0, .string y1, .int .i64 y2, .string y3, .string y4, .slice yA y5 ye, .slice yB y6 yc], .pointer (some ⟨nb, 0, none⟩), .pointer (some ⟨xb, 0, none⟩)] w fun e w' => e = .returned (.bool (decide (ys = xs))) /\ Below w.heap.size w w' := by
 obtain ⟨wb, hwb⟩ : ∃ wb, wb = w.alloc (.cells #[.int .i64 yk, .string ys, .int .i64 y0, .string y1, .int .i64 y2, .string y3, .string y4, .slice yA y5 ye, .slice yB y6 yc] 194) := ⟨_, rfl⟩
 have B0 : Below w.heap.size w wb := by rw [hwb]; exact below_new (Below.refl _ _) _
 have X0 : wb.heap[w.heap.size]? = some (.cells #[.int .i64 yk, .string ys, .int .i64 y0, .string y1, .int .i64 y2, .string y3, .string y4, .slice yA y5 ye, .slice yB y6 yc] 194 (0, 0)) := by rw [hwb]; exact heap_alloc_new w _
 have X1 := (B0.block _ (Array.getElem?_eq_some_iff.1 hx).1).trans hx
 have N1 := (B0.cell (p := ⟨nb, 0, none⟩) (World.block_lt_of_cell? _ _ hn)).trans hn
 have cP : ∀ dd os, Calls Tryz.prog 242 #[.agg #[.int .i64 yk, .string ys, .int .i64 y0, .string y1, .int .i64 y2, .string y3, .string y4, .slice yA y5 ye, .slice yB y6 yc]] (Sort.grow (redrawn wb dd) os) fun e w'' => e = .returned (.string ys) /\ ∃ pp : Regrown, w'' = Sort.grow (redrawn wb pp.d) pp.os := fun dd os => Calls.regrown_of (declared_any yk y0 y2 ys y1 y3 y4 yA yB y5 ye y6 yc _)
 have cQ : ∀ dd os, Calls Tryz.prog 242 #[.agg #[.int .i64 xk, .string xs, .int .i64 x0, .string x1, .int .i64 x2, .string x3, .string x4, .slice xA x5 xe, .slice xB x6 xc]] (Sort.grow (redrawn wb dd) os) fun e w'' => e = .returned (.string xs) /\ ∃ pp : Regrown, w'' = Sort.grow (redrawn wb pp.d) pp.os := fun dd os => Calls.regrown_of (declared_any xk x0 x2 xs x1 x3 x4 xA xB x5 xe x6 xc _)
 have py0 := cell_regrown (cZ X0 0)
 have py1 := cell_regrown (cZ X0 1)
 have py2 := cell_regrown (cZ X0 2)
 have py3 := cell_regrown (cZ X0 3)
 have py4 := cell_regrown (cZ X0 4)
 have py5 := cell_regrown (cZ X0 5)
 have py6 := cell_regrown (cZ X0 6)
 have py7 := cell_regrown (cZ X0 7)
 have py8 := cell_regrown (cZ X0 8)
 have px0 := cell_regrown (cZ X1 0)
 have px1 := cell_regrown (cZ X1 1)
 have px2 := cell_regrown (cZ X1 2)
 have px3 := cell_regrown (cZ X1 3)
 have px4 := cell_regrown (cZ X1 4)
 have px5 := cell_regrown (cZ X1 5)
 have px6 := cell_regrown (cZ X1 6)
 have px7 := cell_regrown (cZ X1 7)
 have px8 := cell_regrown (cZ X1 8)
 simp at py0 py1 py2 py3 py4 py5 py6 py7 py8 px0 px1 px2 px3 px4 px5 px6 px7 px8
 have pn := cell_regrown N1
 have HB0 := hZ B0
 have HWB := hZ hwb
 have hq := str_eq ys xs
 clear hn hx hwb B0 X0 X1 N1
 go_enter Tryz.func270, Tryz.ntmps270
 go_upto_region 1 with fail
 rw [<- HWB.out]
 refine wp_region_quiet_below (by kernel_rfl) (by kernel_rfl) ?_
 repeat (any_goals (first | go_big_quiet_step (first | (with_reducible exact cP _ _) | (with_reducible exact cQ _ _)) | quiet_step (first | (with_reducible exact cP _ _) | (with_reducible exact cQ _ _))))
 refine wpQuiet_nil ?_
 intro _ hw'
 obtain ⟨⟨dq, osq⟩, hw''⟩ := hw'
 subst hw''
 have HBQ := hZ (below_over HB0.out (below_regrown wb dq osq))
 go_wp2_with fail
 go_ret
 exact ⟨by first | rfl | exact ret_bool hq, HBQ.out⟩
theorem indexDupI_any (A : Option Addr) (c n : Nat) (xs : List Im) (x : Im)  (nb xb : Nat) (w : World) (hlen : xs.length = n) (hz : n <= 9223372036854775807) (hS : RowIn imR w A xs)
  (hn : w.cell? ⟨nb, 0, none⟩ = some (.func (.func 240) #[] #[])) (hx : w.heap[xb]? = some (.cells #[.string x.pkg, .int .i64 x.major, .string x.mod, .string x.asn] 71 (0, 0))) :
  Calls Tryz.prog 95 #[.slice A n c, .func (.func 85) #[] #[.pointer (some ⟨nb, 0, none⟩), .pointer (some ⟨xb, 0, none⟩)]] w fun e w' => ∃ r : Int, e = .returned (.int .i64 r) /\ decide (0 <= r) = xs.any (fun y => decide (y.asn = x.asn)) /\ Below w.heap.size w w' := by
 have HS := hZ hS
 have HN := hZ hlen
 have HFN := hZ hn
 have HX := hZ hx
 clear hS hlen hn hx
 go_enter Tryz.func95, Tryz.ntmps95
 go_wp2_with fail
 go_loopw [8] (fun i wr => ∃ k : Nat, k <= n /\ i = .int .i64 k /\ Hid ((xs.take k).any (fun y => decide (y.asn = x.asn)) = false) /\ Hid (Below w.heap.size w wr)) (fun i _ => n - (intOf i).toNat)
 case atStart => exact ⟨0, by omega, rfl, hZ (by simp), hZ (Below.refl _ _)⟩
 case round =>
  obtain ⟨k, hk, rfl, HP, HB⟩ := hrel;obtain ⟨wo, rfl⟩ : ∃ wo : World, wo = wr := ⟨_, rfl⟩;by_cases hlt : k < n
  ·obtain ⟨y, hy⟩ : ∃ y, xs[k]? = some y := ⟨_, List.getElem?_eq_getElem (by rw [HN.out]; exact hlt)⟩
   obtain ⟨g, o, lv, rfl, hg, hcc, rfl, -⟩ := (HS.out.below HB.out) k y hy;have a0 := hcc 0 _ rfl;have a1 := hcc 1 _ rfl;have a2 := hcc 2 _ rfl;have a3 := hcc 3 _ rfl;have b0 : wo.cell? ⟨g, o + k * 4, none⟩ = some (.string y.pkg) := a0;have b1 : wo.cell? ⟨g, o + k * 4 + 1, none⟩ = some (.int .i64 y.major) := a1;have b2 : wo.cell? ⟨g, o + k * 4 + 2, none⟩ = some (.string y.mod) := a2;have b3 : wo.cell? ⟨g, o + k * 4 + 3, none⟩ = some (.string y.asn) := a3;have IM := hZ (alikeI_any y.pkg y.mod y.asn y.major x.pkg x.mod x.asn x.major nb xb wo ((HB.out.cell (p := ⟨nb, 0, none⟩) (World.block_lt_of_cell? _ _ HFN.out)).trans HFN.out) ((HB.out.block _ (Array.getElem?_eq_some_iff.1 HX.out).1).trans HX.out));have HY := hZ hy;clear hy hcc hg a0 a1 a2 a3;obtain ⟨q, hq⟩ : ∃ q, decide (y.asn = x.asn) = q := ⟨_, rfl⟩;rw [hq] at IM;have HQ := hZ hq;clear hq;cases q with
   | true =>
    have R : Hid (decide (0 <= (k : Int)) = xs.any (fun y => decide (y.asn = x.asn))) := hZ (by
     have : xs.any (fun y => decide (y.asn = x.asn)) = true := List.any_eq_true.2 ⟨y, List.mem_of_getElem? HY.out, HQ.out⟩
     rw [this]; simp)
    go_wp2_with fail
    refine IM.out.mono ?_; rintro e w2 ⟨rfl, hb2⟩
    have HB2 := hZ (below_over HB.out hb2);clear b0 b1 b2 b3 hb2;go_wp2_with fail
    go_ret;exact ⟨_, rfl, R.out, HB2.out⟩
   | false =>
    go_wp2_with fail
    refine IM.out.mono ?_; rintro e w2 ⟨rfl, hb2⟩
    have HB2 := hZ (below_over HB.out hb2);clear b0 b1 b2 b3 hb2;go_wp2_with fail
    go_roundw
    case rel => exact ⟨k + 1, by omega, by go_num, hZ (by rw [any_snoc _ _ _ _ HY.out, HP.out, HQ.out]; rfl), HB2⟩
    case measure => simp [intOf]; omega
  ·have R : Hid (decide (0 <= (-1 : Int)) = xs.any (fun y => decide (y.asn = x.asn))) := hZ (by
    have h := HP.out;rw [List.take_of_length_le (by rw [HN.out]; omega)] at h;rw [h]; rfl)
   go_wp2_with fail
   go_ret;exact ⟨_, rfl, R.out, HB.out⟩
theorem containsDupI_any (A : Option Addr) (c n : Nat) (xs : List Im) (x : Im)  (nb xb : Nat) (w : World) (hlen : xs.length = n) (hz : n <= 9223372036854775807) (hS : RowIn imR w A xs)
  (hn : w.cell? ⟨nb, 0, none⟩ = some (.func (.func 240) #[] #[])) (hx : w.heap[xb]? = some (.cells #[.string x.pkg, .int .i64 x.major, .string x.mod, .string x.asn] 71 (0, 0))) :
  Calls Tryz.prog 58 #[.slice A n c, .func (.func 85) #[] #[.pointer (some ⟨nb, 0, none⟩), .pointer (some ⟨xb, 0, none⟩)]] w fun e w' => e = .returned (.bool (xs.any (fun y => decide (y.asn = x.asn)))) /\ Below w.heap.size w w' := by
 have HC := hZ (indexDupI_any A c n xs x  nb xb w hlen hz hS hn hx)
 clear hlen hS hn hx
 go_enter Tryz.func58, Tryz.ntmps58
 go_wp2_with fail
 refine HC.out.mono ?_; rintro e w2 ⟨r, rfl, hr, hb2⟩
 have HR := hZ hr
 clear hr HC
 go_wp2_with fail
 go_ret
 exact ⟨ret_bool HR.out.symm, hb2⟩
theorem againI_any (A : Option Addr) (c n : Nat) (xs : List Im) (w : World) (hlen : xs.length = n) (hz : n <= 1000000) (hc : n <= c) (hS : RowIn imR w A xs) :
  Calls Tryz.prog 46 #[.slice A n c, .func (.func 240) #[] #[]] w fun e w' => e = .returned (.int .i64 (fstN (dupB (·.asn) xs) n)) /\ Below w.heap.size w w' := by
 obtain ⟨wb, hwb⟩ : ∃ wb, wb = w.alloc (.cells #[.func (.func 240) #[] #[]] 98) := ⟨_, rfl⟩
 have B0 : Below w.heap.size w wb := by rw [hwb]; exact below_new (Below.refl _ _) _
 have X0 : wb.heap[w.heap.size]? = some (.cells #[.func (.func 240) #[] #[]] 98 (0, 0)) := by rw [hwb]; exact heap_alloc_new w _
 have hbs : w.heap.size < wb.heap.size := by rw [hwb]; simp
 have HS := hZ (hS.below B0)
 have HN := hZ hlen
 have HX0 := hZ X0
 have HB0 := hZ B0
 have HWB := hZ hwb
 obtain ⟨V, hV⟩ : ∃ V, V = fstN (dupB (·.asn) xs) n := ⟨_, rfl⟩
 have HV := hZ hV
 rw [<- hV]
 clear hS hlen B0 X0 hwb hV
 go_enter Tryz.func46, Tryz.ntmps46
 go_upto_region 1 with fail
 rw [<- HWB.out]
 go_wp2_with fail
 go_loopw [10] (fun i wr => ∃ k : Nat, k <= n /\ i = .int .i64 k /\ Hid (∀ i, i < k -> dupB (·.asn) xs i = false) /\ Hid (Below wb.heap.size wb wr)) (fun i _ => n - (intOf i).toNat)
 case atStart => exact ⟨0, by omega, rfl, hZ (fun i h => by omega), hZ (Below.refl _ _)⟩
 case round =>
  obtain ⟨k, hk, rfl, HQ, HB⟩ := hrel;obtain ⟨wo, rfl⟩ : ∃ wo : World, wo = wr := ⟨_, rfl⟩;by_cases hlt : k < n
  ·obtain ⟨y, hy⟩ : ∃ y, xs[k]? = some y := ⟨_, List.getElem?_eq_getElem (by rw [HN.out]; exact hlt)⟩
   obtain ⟨g, o, lv, rfl, hg, hcc, rfl, -⟩ := (HS.out.below HB.out) k y hy;have a0 := hcc 0 _ rfl;have a1 := hcc 1 _ rfl;have a2 := hcc 2 _ rfl;have a3 := hcc 3 _ rfl;have b0 : wo.cell? ⟨g, o + k * 4, none⟩ = some (.string y.pkg) := a0;have b1 : wo.cell? ⟨g, o + k * 4 + 1, none⟩ = some (.int .i64 y.major) := a1;have b2 : wo.cell? ⟨g, o + k * 4 + 2, none⟩ = some (.string y.mod) := a2;have b3 : wo.cell? ⟨g, o + k * 4 + 3, none⟩ = some (.string y.asn) := a3;obtain ⟨w3, hw3⟩ : ∃ w3, w3 = wo.alloc (.cells #[.string y.pkg, .int .i64 y.major, .string y.mod, .string y.asn] 71) := ⟨_, rfl⟩;have B3 : Below wo.heap.size wo w3 := by rw [hw3]; exact below_new (Below.refl _ _) _
   have X3 : w3.heap[wo.heap.size]? = some (.cells #[.string y.pkg, .int .i64 y.major, .string y.mod, .string y.asn] 71 (0, 0)) := by rw [hw3]; exact heap_alloc_new wo _
   have B03 := below_over HB.out B3
   have hpre : RowIn imR w3 (some ⟨g, o, none⟩) (xs.take k) := fun i x hx => (HS.out.below B03) i x (by
    rw [List.getElem?_take] at hx;split at hx
    ·exact hx
    ·cases hx)
   have CT := hZ (containsDupI_any (some ⟨g, o, none⟩) c k (xs.take k) y  w.heap.size wo.heap.size w3 (by rw [List.length_take, HN.out]; omega) (by omega) hpre (cZ ((B03.block _ hbs).trans HX0.out) 0) X3);have HB3 := hZ B03;have HW3 := hZ hw3;have HY := hZ hy;obtain ⟨q, hq⟩ : ∃ q, (xs.take k).any (fun z => decide (z.asn = y.asn)) = q := ⟨_, rfl⟩;rw [hq] at CT;have HD : Hid (dupB (·.asn) xs k = q) := hZ (by rw [dupB_some hy]; exact hq);clear hy hq B3 X3 B03 hpre hw3 hcc hg a0 a1 a2 a3;have hkc : k <= c := by omega
   cases q with
   | true =>
    have RV : V = (k : Int) := by rw [HV.out]; exact fstN_yes hlt HQ.out HD.out
    subst RV;go_upto_region 4 with fail
    rw [<- HW3.out];clear b0 b1 b2 b3;go_wp2_with fail
    refine CT.out.mono ?_; rintro e w4 ⟨rfl, hb4⟩
    have HB4 := hZ (below_over HB0.out (below_over HB3.out hb4));clear hb4;go_wp2_with fail
    go_ret;exact ⟨rfl, HB4.out⟩
   | false =>
    go_upto_region 4 with fail
    rw [<- HW3.out];clear b0 b1 b2 b3;go_wp2_with fail
    refine CT.out.mono ?_; rintro e w4 ⟨rfl, hb4⟩
    have HB4 := hZ (below_over HB3.out hb4);clear hb4;go_wp2_with fail
    go_roundw
    case rel => exact ⟨k + 1, by omega, by go_num, hZ (fun i hi => by
     by_cases e : i = k
     ·rw [e]; exact HD.out
     ·exact HQ.out i (by omega)), HB4⟩
    case measure => simp [intOf]; omega
  ·have RV : V = -1 := by rw [HV.out]; exact fstN_no (fun i hi => HQ.out i (by omega))
   subst RV;have FB := hZ (below_over HB0.out HB.out);go_wp2_with fail
   go_ret;exact ⟨rfl, FB.out⟩
theorem indexDupD_any (A : Option Addr) (c n : Nat) (xs : List De) (x : De) (xA xB : Option Addr) (xb1 xc1 : Nat) (nb xb : Nat) (w : World) (hlen : xs.length = n) (hz : n <= 9223372036854775807) (hS : RowIn deR w A xs)
  (hn : w.cell? ⟨nb, 0, none⟩ = some (.func (.func 242) #[] #[])) (hx : w.heap[xb]? = some (.cells #[.int .i64 x.kind, .string x.name, .int .i64 x.typ.kind, .string x.typ.pkg, .int .i64 x.typ.major, .string x.typ.mod, .string x.typ.name, .slice xA x.typ.names.length xb1, .slice xB x.typ.subs.length xc1] 194 (0, 0))) :
  Calls Tryz.prog 285 #[.slice A n c, .func (.func 270) #[] #[.pointer (some ⟨nb, 0, none⟩), .pointer (some ⟨xb, 0, none⟩)]] w fun e w' => ∃ r : Int, e = .returned (.int .i64 r) /\ decide (0 <= r) = xs.any (fun y => decide (y.name = x.name)) /\ Below w.heap.size w w' := by
 have HS := hZ hS
 have HN := hZ hlen
 have HFN := hZ hn
 have HX := hZ hx
 clear hS hlen hn hx
 go_enter Tryz.func285, Tryz.ntmps285
 go_wp2_with fail
 go_loopw [8] (fun i wr => ∃ k : Nat, k <= n /\ i = .int .i64 k /\ Hid ((xs.take k).any (fun y => decide (y.name = x.name)) = false) /\ Hid (Below w.heap.size w wr)) (fun i _ => n - (intOf i).toNat)
 case atStart => exact ⟨0, by omega, rfl, hZ (by simp), hZ (Below.refl _ _)⟩
 case round =>
  obtain ⟨k, hk, rfl, HP, HB⟩ := hrel;obtain ⟨wo, rfl⟩ : ∃ wo : World, wo = wr := ⟨_, rfl⟩;by_cases hlt : k < n
  ·obtain ⟨y, hy⟩ : ∃ y, xs[k]? = some y := ⟨_, List.getElem?_eq_getElem (by rw [HN.out]; exact hlt)⟩
   obtain ⟨g, o, v0, v1, v2, v3, v4, v5, v6, rfl, -, a0, a1, u0, u1, u2, u3, u4, u5, u6, us, zs⟩ := (HS.out.below HB.out).de hy;obtain ⟨An, cA, As, cS, ev, -⟩ := us.parts;simp only [List.cons.injEq, and_true] at ev;obtain ⟨rfl, rfl, rfl, rfl, rfl, rfl, rfl⟩ := ev;have IM := hZ (alikeD_any y.kind y.typ.kind y.typ.major y.name y.typ.pkg y.typ.mod y.typ.name An As y.typ.names.length cA y.typ.subs.length cS x.kind x.typ.kind x.typ.major x.name x.typ.pkg x.typ.mod x.typ.name xA xB x.typ.names.length xb1 x.typ.subs.length xc1 nb xb wo ((HB.out.cell (p := ⟨nb, 0, none⟩) (World.block_lt_of_cell? _ _ HFN.out)).trans HFN.out) ((HB.out.block _ (Array.getElem?_eq_some_iff.1 HX.out).1).trans HX.out));have HY := hZ hy;clear hy us zs;obtain ⟨q, hq⟩ : ∃ q, decide (y.name = x.name) = q := ⟨_, rfl⟩;rw [hq] at IM;have HQ := hZ hq;clear hq;cases q with
   | true =>
    have R : Hid (decide (0 <= (k : Int)) = xs.any (fun y => decide (y.name = x.name))) := hZ (by
     have : xs.any (fun y => decide (y.name = x.name)) = true := List.any_eq_true.2 ⟨y, List.mem_of_getElem? HY.out, HQ.out⟩
     rw [this]; simp)
    go_wp2_with fail
    refine IM.out.mono ?_; rintro e w2 ⟨rfl, hb2⟩
    have HB2 := hZ (below_over HB.out hb2);clear a0 a1 u0 u1 u2 u3 u4 u5 u6 hb2;go_wp2_with fail
    go_ret;exact ⟨_, rfl, R.out, HB2.out⟩
   | false =>
    go_wp2_with fail
    refine IM.out.mono ?_; rintro e w2 ⟨rfl, hb2⟩
    have HB2 := hZ (below_over HB.out hb2);clear a0 a1 u0 u1 u2 u3 u4 u5 u6 hb2;go_wp2_with fail
    go_roundw
    case rel => exact ⟨k + 1, by omega, by go_num, hZ (by rw [any_snoc _ _ _ _ HY.out, HP.out, HQ.out]; rfl), HB2⟩
    case measure => simp [intOf]; omega
  ·have R : Hid (decide (0 <= (-1 : Int)) = xs.any (fun y => decide (y.name = x.name))) := hZ (by
    have h := HP.out;rw [List.take_of_length_le (by rw [HN.out]; omega)] at h;rw [h]; rfl)
   go_wp2_with fail
   go_ret;exact ⟨_, rfl, R.out, HB.out⟩
theorem containsDupD_any (A : Option Addr) (c n : Nat) (xs : List De) (x : De) (xA xB : Option Addr) (xb1 xc1 : Nat) (nb xb : Nat) (w : World) (hlen : xs.length = n) (hz : n <= 9223372036854775807) (hS : RowIn deR w A xs)
  (hn : w.cell? ⟨nb, 0, none⟩ = some (.func (.func 242) #[] #[])) (hx : w.heap[xb]? = some (.cells #[.int .i64 x.kind, .string x.name, .int .i64 x.typ.kind, .string x.typ.pkg, .int .i64 x.typ.major, .string x.typ.mod, .string x.typ.name, .slice xA x.typ.names.length xb1, .slice xB x.typ.subs.length xc1] 194 (0, 0))) :
  Calls Tryz.prog 267 #[.slice A n c, .func (.func 270) #[] #[.pointer (some ⟨nb, 0, none⟩), .pointer (some ⟨xb, 0, none⟩)]] w fun e w' => e = .returned (.bool (xs.any (fun y => decide (y.name = x.name)))) /\ Below w.heap.size w w' := by
 have HC := hZ (indexDupD_any A c n xs x xA xB xb1 xc1 nb xb w hlen hz hS hn hx)
 clear hlen hS hn hx
 go_enter Tryz.func267, Tryz.ntmps267
 go_wp2_with fail
 refine HC.out.mono ?_; rintro e w2 ⟨r, rfl, hr, hb2⟩
 have HR := hZ hr
 clear hr HC
 go_wp2_with fail
 go_ret
 exact ⟨ret_bool HR.out.symm, hb2⟩
theorem againD_any (A : Option Addr) (c n : Nat) (xs : List De) (w : World) (hlen : xs.length = n) (hz : n <= 1000000) (hc : n <= c) (hS : RowIn deR w A xs) :
  Calls Tryz.prog 241 #[.slice A n c, .func (.func 242) #[] #[]] w fun e w' => e = .returned (.int .i64 (fstN (dupB (·.name) xs) n)) /\ Below w.heap.size w w' := by
 obtain ⟨wb, hwb⟩ : ∃ wb, wb = w.alloc (.cells #[.func (.func 242) #[] #[]] 281) := ⟨_, rfl⟩
 have B0 : Below w.heap.size w wb := by rw [hwb]; exact below_new (Below.refl _ _) _
 have X0 : wb.heap[w.heap.size]? = some (.cells #[.func (.func 242) #[] #[]] 281 (0, 0)) := by rw [hwb]; exact heap_alloc_new w _
 have hbs : w.heap.size < wb.heap.size := by rw [hwb]; simp
 have HS := hZ (hS.below B0)
 have HN := hZ hlen
 have HX0 := hZ X0
 have HB0 := hZ B0
 have HWB := hZ hwb
 obtain ⟨V, hV⟩ : ∃ V, V = fstN (dupB (·.name) xs) n := ⟨_, rfl⟩
 have HV := hZ hV
 rw [<- hV]
 clear hS hlen B0 X0 hwb hV
 go_enter Tryz.func241, Tryz.ntmps241
 go_upto_region 1 with fail
 rw [<- HWB.out]
 go_wp2_with fail
 go_loopw [10] (fun i wr => ∃ k : Nat, k <= n /\ i = .int .i64 k /\ Hid (∀ i, i < k -> dupB (·.name) xs i = false) /\ Hid (Below wb.heap.size wb wr)) (fun i _ => n - (intOf i).toNat)
 case atStart => exact ⟨0, by omega, rfl, hZ (fun i h => by omega), hZ (Below.refl _ _)⟩
 case round =>
  obtain ⟨k, hk, rfl, HQ, HB⟩ := hrel;obtain ⟨wo, rfl⟩ : ∃ wo : World, wo = wr := ⟨_, rfl⟩;by_cases hlt : k < n
  ·obtain ⟨y, hy⟩ : ∃ y, xs[k]? = some y := ⟨_, List.getElem?_eq_getElem (by rw [HN.out]; exact hlt)⟩
   obtain ⟨g, o, v0, v1, v2, v3, v4, v5, v6, rfl, -, a0, a1, u0, u1, u2, u3, u4, u5, u6, us, zs⟩ := (HS.out.below HB.out).de hy;obtain ⟨An, cA, As, cS, ev, -⟩ := us.parts;simp only [List.cons.injEq, and_true] at ev;obtain ⟨rfl, rfl, rfl, rfl, rfl, rfl, rfl⟩ := ev;obtain ⟨w3, hw3⟩ : ∃ w3, w3 = wo.alloc (.cells #[.int .i64 y.kind, .string y.name, .int .i64 y.typ.kind, .string y.typ.pkg, .int .i64 y.typ.major, .string y.typ.mod, .string y.typ.name, .slice An y.typ.names.length cA, .slice As y.typ.subs.length cS] 194) := ⟨_, rfl⟩;have B3 : Below wo.heap.size wo w3 := by rw [hw3]; exact below_new (Below.refl _ _) _
   have X3 : w3.heap[wo.heap.size]? = some (.cells #[.int .i64 y.kind, .string y.name, .int .i64 y.typ.kind, .string y.typ.pkg, .int .i64 y.typ.major, .string y.typ.mod, .string y.typ.name, .slice An y.typ.names.length cA, .slice As y.typ.subs.length cS] 194 (0, 0)) := by rw [hw3]; exact heap_alloc_new wo _
   have B03 := below_over HB.out B3
   have hpre : RowIn deR w3 (some ⟨g, o, none⟩) (xs.take k) := fun i x hx => (HS.out.below B03) i x (by
    rw [List.getElem?_take] at hx;split at hx
    ·exact hx
    ·cases hx)
   have CT := hZ (containsDupD_any (some ⟨g, o, none⟩) c k (xs.take k) y An As cA cS w.heap.size wo.heap.size w3 (by rw [List.length_take, HN.out]; omega) (by omega) hpre (cZ ((B03.block _ hbs).trans HX0.out) 0) X3);have HB3 := hZ B03;have HW3 := hZ hw3;have HY := hZ hy;obtain ⟨q, hq⟩ : ∃ q, (xs.take k).any (fun z => decide (z.name = y.name)) = q := ⟨_, rfl⟩;rw [hq] at CT;have HD : Hid (dupB (·.name) xs k = q) := hZ (by rw [dupB_some hy]; exact hq);clear hy hq B3 X3 B03 hpre hw3 us zs;have hkc : k <= c := by omega
   cases q with
   | true =>
    have RV : V = (k : Int) := by rw [HV.out]; exact fstN_yes hlt HQ.out HD.out
    subst RV;go_upto_region 4 with fail
    rw [<- HW3.out];clear a0 a1 u0 u1 u2 u3 u4 u5 u6;go_wp2_with fail
    refine CT.out.mono ?_; rintro e w4 ⟨rfl, hb4⟩
    have HB4 := hZ (below_over HB0.out (below_over HB3.out hb4));clear hb4;go_wp2_with fail
    go_ret;exact ⟨rfl, HB4.out⟩
   | false =>
    go_upto_region 4 with fail
    rw [<- HW3.out];clear a0 a1 u0 u1 u2 u3 u4 u5 u6;go_wp2_with fail
    refine CT.out.mono ?_; rintro e w4 ⟨rfl, hb4⟩
    have HB4 := hZ (below_over HB3.out hb4);clear hb4;go_wp2_with fail
    go_roundw
    case rel => exact ⟨k + 1, by omega, by go_num, hZ (fun i hi => by
     by_cases e : i = k
     ·rw [e]; exact HD.out
     ·exact HQ.out i (by omega)), HB4⟩
    case measure => simp [intOf]; omega
  ·have RV : V = -1 := by rw [HV.out]; exact fstN_no (fun i hi => HQ.out i (by omega))
   subst RV;have FB := hZ (below_over HB0.out HB.out);go_wp2_with fail
   go_ret;exact ⟨rfl, FB.out⟩
end Go.Proofs.YteecgiebimdbhaaGreatDoor
