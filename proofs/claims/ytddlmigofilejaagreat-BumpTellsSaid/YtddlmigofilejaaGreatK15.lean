/-
  Several texts in one.
-/
import Derived.Test.YtddlmigofilejaaGreatK14
set_option maxRecDepth 100000
set_option maxHeartbeats 16000000
namespace Go.Proofs.YtddlmigofilejaaGreat
open Go Go.RowKit Go.Shelf
open Go.Sort
open M
def ofB (l : List ByteArray) (s : ByteArray) : Option Nat := l.findIdx? fun x => decide (x = s)
theorem ofB_some {l : List ByteArray} {s : ByteArray} {i : Nat} (h : ofB l s = some i) : l[i]? = some s := by
 unfold ofB at h
 rw [List.findIdx?_eq_some_iff_getElem] at h
 obtain ⟨h1, h2, -⟩ := h
 rw [List.getElem?_eq_getElem h1]
 simpa using h2
theorem ofB_none {l : List ByteArray} {s : ByteArray} (h : ofB l s = none) : s ∉ l := fun hs => by
 unfold ofB at h
 rw [List.findIdx?_eq_none_iff] at h
 have := h s hs
 simp at this
theorem rof9_any (A : Option Addr) (n c : Nat) (l : List ByteArray) (s : ByteArray) (w : World) (hn : n = l.length) (hz : n <= 9223372036854775807) (hN : NamesAt w A l) :
  Calls Tryz.prog 82 #[.slice A n c, .string s] w fun e w' => e = .returned (.int .i64 (optN (ofB l s))) /\ Below w.heap.size w w' := by
 have HN := hZ hn
 have HR := hZ hN
 clear hN hn
 go_enter Tryz.func82, Tryz.ntmps82
 go_wp2_with fail
 go_loopw [5] (fun s5 wr => ∃ k : Nat, k <= n /\ s5 = .int .i64 k /\ Hid (∀ x ∈ l.take k, decide (x = s) = false) /\ Hid (Below w.heap.size w wr)) (fun s5 _ => n - (intOf s5).toNat)
 case atStart => exact ⟨0, by omega, rfl, hZ (by simp), hZ (Below.refl _ _)⟩
 case round =>
  obtain ⟨k, hk, rfl, HNO, HB⟩ := hrel;obtain ⟨wo, rfl⟩ : ∃ wo : World, wo = wr := ⟨_, rfl⟩;by_cases hlt : k < n
  ·obtain ⟨x, hx⟩ : ∃ x, l[k]? = some x := ⟨_, List.getElem?_eq_getElem (by rw [<- HN.out]; exact hlt)⟩
   obtain ⟨g, o, rfl, hg, hc, -⟩ := HR.out k x hx;have a0 := (HB.out.cell (p := ⟨g, _, none⟩) hg).trans hc;have hq := str_eq x s;have HX := hZ hx;have hk0 : (0 : Int) <= k := by omega
   have hk1 : (k : Int) < n := by omega
   clear hx hc;by_cases hs : x = s
   ·have RES : Hid (ofB l s = some k) := hZ (idx_yes HX.out HNO.out (by simp [hs]))
    rw [decide_eq_true hs] at hq;clear hs;go_wp2_with fail
    go_ret;exact ⟨by rw [RES.out]; rfl, HB.out⟩
   ·have NX : Hid (∀ y ∈ l.take (k + 1), decide (y = s) = false) := hZ (fun y hy => by
     rw [List.take_add_one, HX.out] at hy;rcases List.mem_append.1 hy with h | h
     ·exact HNO.out y h
     ·simp at h; rw [h]; simp [hs])
    rw [decide_eq_false hs] at hq;clear hs;go_wp2_with fail
    go_roundw
    case rel => exact ⟨k + 1, by omega, by go_num, NX, HB⟩
    case measure => simp [intOf]; omega
  ·have RES : Hid (ofB l s = none) := hZ (idx_no (fun x hx => HNO.out x (by rw [List.take_of_length_le (by rw [<- HN.out]; omega)]; exact hx)))
   go_wp2_with fail
   go_ret;exact ⟨by rw [RES.out]; rfl, HB.out⟩
def RsCall (x y : Ty) : Prop := ∀ (lx ly : List Value) (w : World), TyAt w lx x -> TyAt w ly y ->
 Calls Tryz.prog 54 #[.agg lx.toArray, .agg ly.toArray] w fun e w' => e = .returned (.bool (subB x y)) /\ Below w.heap.size w w'
theorem rsub_any (N : Nat) : ∀ (a b : Ty), many a + many b <= N -> many a <= 9000 -> many b <= 9000 -> GoodT a -> GoodT b -> RsCall a b := by
 induction N with
 | zero => intro a b h; have := many_pos a; omega
 | succ N ih =>
  intro a b hN h9a h9b ga gb la lb w hTa hTb;have HIH := hZ (show ∀ x y, many x + many y < many a + many b -> many x <= 9000 -> many y <= 9000 -> GoodT x -> GoodT y -> RsCall x y from fun x y h h1 h2 g1 g2 => ih x y (by omega) h1 h2 g1 g2);have HTa := hZ hTa;have HTb := hZ hTb;have GA := hZ ga;have GB := hZ gb;obtain ⟨An, cA, As, cS, rfl, -, -, -, zna, zsa, hNa, hSa⟩ := hTa.parts;obtain ⟨Bn, cB, Bs, cD, rfl, -, -, -, znb, zsb, hNb, hSb⟩ := hTb.parts;obtain ⟨W2, hW2, B2, O0, O1, hl2⟩ := two_boxes w #[.int .i64 a.kind, .string a.pkg, .int .i64 a.major, .string a.mod, .string a.name, .slice An a.names.length cA, .slice As a.subs.length cS] #[.int .i64 b.kind, .string b.pkg, .int .i64 b.major, .string b.mod, .string b.name, .slice Bn b.names.length cB, .slice Bs b.subs.length cD] 50 50;have HB2 := hZ B2;obtain ⟨n, hn⟩ : ∃ n, n = a.subs.length := ⟨_, rfl⟩;obtain ⟨m, hm⟩ : ∃ m, m = b.subs.length := ⟨_, rfl⟩;obtain ⟨p, hp⟩ : ∃ p, p = a.names.length := ⟨_, rfl⟩;obtain ⟨r, hr⟩ : ∃ r, r = b.names.length := ⟨_, rfl⟩;have hn9 : n <= 9000 := by have h2 := manyL_len a.subs; have h3 := manyL_eq a; omega
  have hm9 : m <= 9000 := by have h2 := manyL_len b.subs; have h3 := manyL_eq b; omega
  have HX : Hid (∀ wx, Below W2.heap.size W2 wx -> (wx.cell? ⟨w.heap.size, 5, none⟩ = some (.slice An p cA) /\ wx.cell? ⟨w.heap.size, 6, none⟩ = some (.slice As n cS)) /\ wx.cell? ⟨w.heap.size + 1, 5, none⟩ = some (.slice Bn r cB) /\ wx.cell? ⟨w.heap.size + 1, 6, none⟩ = some (.slice Bs m cD)) := hZ (fun wx hb => by
   rw [hn, hm, hp, hr];have X0 := (hb.block _ (by omega)).trans O0;have X1 := (hb.block _ (by omega)).trans O1;exact ⟨⟨cZ X0 5, cZ X0 6⟩, cZ X1 5, cZ X1 6⟩)
  have HSA : Hid (∀ wx, Below W2.heap.size W2 wx -> SubsAt wx As a.subs) := hZ (fun wx hb => hSa.below (below_over HB2.out hb));have HSB : Hid (∀ wx, Below W2.heap.size W2 wx -> SubsAt wx Bs b.subs) := hZ (fun wx hb => hSb.below (below_over HB2.out hb))
  have mvN : ∀ (A : Option Addr) (l : List ByteArray), NamesAt w A l -> ∀ wx, Below w.heap.size w wx -> NamesAt wx A l := fun A l h wx hb i x hx => by
   obtain ⟨g, o, hA, hg, hc, hz⟩ := h i x hx;exact ⟨g, o, hA, Nat.lt_of_lt_of_le hg hb.size, (hb.cell (p := ⟨g, _, none⟩) hg).trans hc, hz⟩
  have HNA : Hid (∀ wx, Below W2.heap.size W2 wx -> NamesAt wx An a.names) := hZ (fun wx hb => mvN _ _ hNa wx (below_over HB2.out hb));have HNB : Hid (∀ wx, Below W2.heap.size W2 wx -> NamesAt wx Bn b.names) := hZ (fun wx hb => mvN _ _ hNb wx (below_over HB2.out hb));have HA2 := hZ (HTa.out.keep B2);have HB22 := hZ (HTb.out.keep B2);have HW := hZ hW2;have H99 := hZ (And.intro h9a h9b);have HN := hZ hn;have HM := hZ hm;have HPP := hZ hp;have HRR := hZ hr;obtain ⟨x0, x1, x2, x3, x4, x5, x6⟩ := cq7 O0;obtain ⟨y0, y1, y2, y3, y4, y5, y6⟩ := cq7 O1;simp at x0 x1 x2 x3 x4 x5 x6 y0 y1 y2 y3 y4 y5 y6;have cS : ∀ (x y : Ty) (lx ly : List Value) (wo : World) (q : Bool), q = subB x y -> RsCall x y -> TyAt wo lx x -> TyAt wo ly y -> ∀ dd os, Calls Tryz.prog 54 #[.agg lx.toArray, .agg ly.toArray] (Sort.grow (redrawn wo dd) os) fun e w'' => e = .returned (.bool q) /\ ∃ pp : Regrown, w'' = Sort.grow (redrawn wo pp.d) pp.os := fun x y lx ly wo q hq h hx hy dd os => Calls.regrown_of (by rw [hq]; exact h lx ly _ (hx.keep (below_regrown wo dd os)) (hy.keep (below_regrown wo dd os)))
  have HCS := hZ cS;clear hW2 O0 O1 hTa hTb ga gb ih hSa hSb hNa hNb hn hm hp hr mvN cS h9a h9b hN B2;go_enter Tryz.func54, Tryz.ntmps54
  go_upto_region 1 with fail
  rw [<- HW.out];clear HW;by_cases hk : a.kind = b.kind
  ·have k1 : (a.kind != b.kind) = false := by rw [hk]; simp
   have k1' : (a.kind == b.kind) = true := by rw [hk]; simp
   by_cases h4 : a.kind = 4
   ·have k4 : (a.kind == 4) = true := by rw [h4]; rfl
    have hn1 := (GA.out.parts (.inl h4)).2.2.2 h4;have hm1 := (GB.out.parts (.inl (hk.symm.trans h4))).2.2.2 (hk.symm.trans h4)
    have HLE : Hid (SubR a b ↔ a.subs.length = b.subs.length /\ ∀ i x y, a.subs[i]? = some x -> b.subs[i]? = some y -> Le (if i + 1 = a.subs.length then true else !true) x y) := hZ
     ⟨fun h => ((le_parts (up := true) (.inl h4)).1 h).2, fun h => (le_parts (up := true) (.inl h4)).2 ⟨hk, h⟩⟩
    have H11 := hZ (And.intro hn1 hm1);have hn1' : n = 1 := by rw [HN.out]; exact hn1
    have hm1' : m = 1 := by rw [HM.out]; exact hm1
    obtain ⟨x, hx⟩ : ∃ x, a.subs[0]? = some x := ⟨_, List.getElem?_eq_getElem (by have := HN.out; omega)⟩;obtain ⟨y, hy⟩ : ∃ y, b.subs[0]? = some y := ⟨_, List.getElem?_eq_getElem (by have := HM.out; omega)⟩;obtain ⟨g1, o1, v0, v1, v2, v3, v4, v5, v6, hA1, hg1, f0, f1, f2, f3, f4, f5, f6, hx7⟩ := HSA.out W2 (Below.refl _ _) 0 x hx;obtain ⟨g2, o2, u0, u1, u2, u3, u4, u5, u6, hA2, hg2, d0, d1, d2, d3, d4, d5, d6, hy7⟩ := HSB.out W2 (Below.refl _ _) 0 y hy;subst hA1 hA2;obtain ⟨Fn, cF, Fs, dF, rfl, rfl, rfl, rfl, rfl, rfl, rfl⟩ := hx7.seven;obtain ⟨Gn, cG, Gs, dG, rfl, rfl, rfl, rfl, rfl, rfl, rfl⟩ := hy7.seven;have HXX := hZ hx;have HYY := hZ hy;have HX7 := hZ hx7;have HY7 := hZ hy7
    have HLS : Hid (many x + many y < many a + many b /\ many x <= 9000 /\ many y <= 9000) := hZ (by
     have h1 := sub_lt_at hx;have h2 := sub_lt_at hy;have h3 := H99.out;omega)
    obtain ⟨⟨-, j6⟩, -, l6⟩ := HX.out W2 (Below.refl _ _);clear hx hy hx7 hy7;simp at f0 f1 f2 f3 f4 f5 f6 d0 d1 d2 d3 d4 d5 d6;clear h4 hk hn1 hm1;have hn0 : (0 : Int) < n := by omega
    have hm0 : (0 : Int) < m := by omega
    have hn00 : 0 < n := by omega
    have hm00 : 0 < m := by omega
    obtain ⟨q, hq⟩ : ∃ q, q = subB x y := ⟨_, rfl⟩;have HQ := hZ hq
    have RES : Hid (subB a b = q) := hZ (by
     rw [hq, Bool.eq_iff_iff, subB_iff, subB_iff];constructor
     ·intro h
      have h1 := (HLE.out.1 h).2 0 x y HXX.out HYY.out;rw [if_pos (by have := H11.out.1; omega)] at h1;exact h1
     ·intro h
      refine HLE.out.2 ⟨by rw [H11.out.1, H11.out.2], fun i x' y' h1 h2 => ?_⟩;have hi := (List.getElem?_eq_some_iff.1 h1).1;have h11 := H11.out.1;obtain rfl : i = 0 := by omega
      rw [if_pos (by omega)];rw [HXX.out] at h1; cases h1
      rw [HYY.out] at h2; cases h2
      exact h)
    have cS := HCS.out x y _ _ W2 q hq (HIH.out x y (by have := HLS.out; omega) (by have := HLS.out; omega) (by have := HLS.out; omega) (GA.out.sub (List.mem_of_getElem? HXX.out)) (GB.out.sub (List.mem_of_getElem? HYY.out))) HX7.out HY7.out;clear hq hn1' hm1';go_upto_region 5 with fail
    have p0 := cell_regrown f0;have p1 := cell_regrown f1;have p2 := cell_regrown f2;have p3 := cell_regrown f3;have p4 := cell_regrown f4;have p5 := cell_regrown f5;have p6 := cell_regrown f6;have r0 := cell_regrown d0;have r1 := cell_regrown d1;have r2 := cell_regrown d2;have r3 := cell_regrown d3;have r4 := cell_regrown d4;have r5 := cell_regrown d5;have r6 := cell_regrown d6;have s6 := cell_regrown j6;have t6 := cell_regrown l6;clear f0 f1 f2 f3 f4 f5 f6 d0 d1 d2 d3 d4 d5 d6 j6 l6;refine wp_region_quiet_below (by kernel_rfl) (by kernel_rfl) ?_;repeat (any_goals (first | go_big_quiet_step (with_reducible exact cS _ _) | quiet_step (with_reducible exact cS _ _)))
    refine wpQuiet_nil ?_;intro wq hw'
    have HBq : Hid (Below W2.heap.size W2 wq) := hZ (by
     obtain ⟨⟨dq, osq⟩, hw''⟩ := hw';rw [hw''];exact below_over (Below.refl _ _) (below_regrown W2 dq osq))
    clear hw' cS p0 p1 p2 p3 p4 p5 p6 r0 r1 r2 r3 r4 r5 r6 s6 t6;go_wp2_with fail
    go_ret;exact ⟨by rw [RES.out]; try rfl, below_over HB2.out HBq.out⟩
   ·have k4 : (a.kind == 4) = false := by simpa using h4
    by_cases h5 : a.kind = 5
    ·have k5 : (a.kind == 5) = true := by rw [h5]; rfl
     have HLE : Hid (∀ (hf : ∀ s y, AtN b s y -> ∃ x, AtN a s x /\ SubR x y), SubR a b) := hZ (fun hf => (le_loses (up := true) (a := a) (b := b) (by rw [h5]; exact .inl ⟨rfl, rfl⟩)).2 ⟨hk, hf⟩);have HNO : Hid (SubR a b -> ∀ s y, AtN b s y -> ∃ x, AtN a s x /\ SubR x y) := hZ (fun h => ((le_loses (up := true) (a := a) (b := b) (by rw [h5]; exact .inl ⟨rfl, rfl⟩)).1 h).2);have HLA := hZ (GA.out.row (.inl h5)).2.1;have HLB := hZ (GB.out.row (.inl (hk.symm.trans h5))).2.1;have hpn : p = n := by rw [HPP.out, HN.out, HLA.out]
     have hrm : r = m := by rw [HRR.out, HM.out, HLB.out]
     have HPN := hZ (And.intro hpn hrm);have hp9 : p <= 9000 := by omega
     have hr9 : r <= 9000 := by omega
     have hq8 : True := trivial;clear h5 hk hpn hrm hq8;go_upto_region 7 with fail
     clear x0 x1 x2 x3 x4 x5 x6 y0 y1 y2 y3 y4 y5 y6;go_wp2_with fail
     go_loopw [5] (fun s5 wr => ∃ k : Nat, k <= r /\ s5 = .int .i64 k /\ Hid (∀ q s y, q < k -> b.names[q]? = some s -> b.subs[q]? = some y -> ∃ x, AtN a s x /\ SubR x y) /\ Hid (Below W2.heap.size W2 wr)) (fun s5 _ => r - (intOf s5).toNat)
     case atStart => exact ⟨0, by omega, rfl, hZ (fun q s y h => by omega), hZ (Below.refl _ _)⟩
     case round =>
      obtain ⟨k, hk, rfl, HP, HB⟩ := hrel;obtain ⟨wo, rfl⟩ : ∃ wo : World, wo = wr := ⟨_, rfl⟩;obtain ⟨⟨i5, i6⟩, m5, m6⟩ := HX.out wo HB.out;by_cases hlt : k < r
      ·obtain ⟨s, hs⟩ : ∃ s, b.names[k]? = some s := ⟨_, List.getElem?_eq_getElem (by rw [<- HRR.out]; exact hlt)⟩
       obtain ⟨gn, on, hAn, hgn, hcn, -⟩ := HNB.out wo HB.out k s hs;subst hAn;have hk0 : (0 : Int) <= k := by omega
       have hk1 : (k : Int) < r := by omega
       have HS := hZ hs;obtain ⟨J, hJ⟩ : ∃ J, J = optN (ofB a.names s) := ⟨_, rfl⟩;have HJ := hZ hJ
       have cO : ∀ dd os, Calls Tryz.prog 82 #[.slice An p cA, .string s] (Sort.grow (redrawn wo dd) os) fun e w'' => e = .returned (.int .i64 J) /\ ∃ pp : Regrown, w'' = Sort.grow (redrawn wo pp.d) pp.os := fun dd os => Calls.regrown_of (by
        rw [hJ]; exact rof9_any An p cA a.names s _ HPP.out (by omega) (fun i x hx => by
         obtain ⟨g, o, hA, hg, hc, hz⟩ := HNA.out wo HB.out i x hx;have hbr := below_regrown wo dd os;exact ⟨g, o, hA, Nat.lt_of_lt_of_le hg hbr.size, (hbr.cell (p := ⟨g, _, none⟩) hg).trans hc, hz⟩))
       clear hs hJ i6 m6;go_upto_region 10 with fail
       have e1 := cell_regrown i5;have e2 := cell_regrown m5;have e3 := cell_regrown hcn;clear i5 m5 hcn;refine wp_region_quiet_below (by kernel_rfl) (by kernel_rfl) ?_;repeat (any_goals (first | go_big_quiet_step (with_reducible exact cO _ _) | quiet_step (with_reducible exact cO _ _)))
       refine wpQuiet_nil ?_;intro wp hw'
       have HBp : Hid (Below W2.heap.size W2 wp) := hZ (by
        obtain ⟨⟨dq, osq⟩, hw''⟩ := hw';rw [hw''];exact below_over HB.out (below_regrown wo dq osq))
       clear hw' cO e1 e2 e3;cases hj : ofB a.names s with
       | none =>
        obtain rfl : J = -1 := by rw [HJ.out, hj]; rfl
        have RES : Hid (subB a b = false) := hZ (subB_no.2 (fun h => by
         obtain ⟨y', hy'⟩ : ∃ y', b.subs[k]? = some y' := ⟨_, List.getElem?_eq_getElem (by rw [<- HM.out]; have := HPN.out; omega)⟩;obtain ⟨x', hx', -⟩ := HNO.out h s y' ⟨k, HS.out, hy'⟩;exact ofB_none hj hx'.name))
        clear hj;go_wp2_with fail
        go_ret;exact ⟨by rw [RES.out]; try rfl, below_over HB2.out HBp.out⟩
       | some j =>
        obtain rfl : J = (j : Int) := by rw [HJ.out, hj]; rfl
        have hjs := ofB_some hj;have hjl := (List.getElem?_eq_some_iff.1 hjs).1;have HJS := hZ hjs;have hj0 : (0 : Int) <= j := by omega
        have hj1 : (j : Int) < n := by have := HPN.out; have := HPP.out; omega
        have hk3 : (k : Int) < m := by have := HPN.out; omega
        have hj2 : ¬ (j : Int) < 0 := by omega
        have hjN : j < n := by omega
        have hkN : k < m := by omega
        obtain ⟨x, hx⟩ : ∃ x, a.subs[j]? = some x := ⟨_, List.getElem?_eq_getElem (by have := HN.out; omega)⟩;obtain ⟨y, hy⟩ : ∃ y, b.subs[k]? = some y := ⟨_, List.getElem?_eq_getElem (by have := HM.out; omega)⟩;obtain ⟨g1, o1, v0, v1, v2, v3, v4, v5, v6, hA1, hg1, f0, f1, f2, f3, f4, f5, f6, hx7⟩ := HSA.out wp HBp.out j x hx;obtain ⟨g2, o2, u0, u1, u2, u3, u4, u5, u6, hA2, hg2, d0, d1, d2, d3, d4, d5, d6, hy7⟩ := HSB.out wp HBp.out k y hy;subst hA1 hA2;obtain ⟨Fn, cF, Fs, dF, rfl, rfl, rfl, rfl, rfl, rfl, rfl⟩ := hx7.seven;obtain ⟨Gn, cG, Gs, dG, rfl, rfl, rfl, rfl, rfl, rfl, rfl⟩ := hy7.seven;have HXX := hZ hx;have HYY := hZ hy;have HX7 := hZ hx7;have HY7 := hZ hy7
        have HLS : Hid (many x + many y < many a + many b /\ many x <= 9000 /\ many y <= 9000) := hZ (by
         have h1 := sub_lt_at hx;have h2 := sub_lt_at hy;have h3 := H99.out;omega)
        obtain ⟨⟨-, j6⟩, -, l6⟩ := HX.out wp HBp.out;clear hx hy hx7 hy7;obtain ⟨q, hq⟩ : ∃ q, q = subB x y := ⟨_, rfl⟩;have HQ := hZ hq;have cS := HCS.out x y _ _ wp q hq (HIH.out x y (by have := HLS.out; omega) (by have := HLS.out; omega) (by have := HLS.out; omega) (GA.out.sub (List.mem_of_getElem? HXX.out)) (GB.out.sub (List.mem_of_getElem? HYY.out))) HX7.out HY7.out;clear hq hj hjs hjl;go_upto_region 13 with fail
        have p0 := cell_regrown f0;have p1 := cell_regrown f1;have p2 := cell_regrown f2;have p3 := cell_regrown f3;have p4 := cell_regrown f4;have p5 := cell_regrown f5;have p6 := cell_regrown f6;have r0 := cell_regrown d0;have r1 := cell_regrown d1;have r2 := cell_regrown d2;have r3 := cell_regrown d3;have r4 := cell_regrown d4;have r5 := cell_regrown d5;have r6 := cell_regrown d6;have s6 := cell_regrown j6;have t6 := cell_regrown l6;clear f0 f1 f2 f3 f4 f5 f6 d0 d1 d2 d3 d4 d5 d6 j6 l6;refine wp_region_quiet_below (by kernel_rfl) (by kernel_rfl) ?_;repeat (any_goals (first | go_big_quiet_step (with_reducible exact cS _ _) | quiet_step (with_reducible exact cS _ _)))
        refine wpQuiet_nil ?_;intro wq hw'
        have HBq : Hid (Below W2.heap.size W2 wq) := hZ (by
         obtain ⟨⟨dq, osq⟩, hw''⟩ := hw';rw [hw''];exact below_over HBp.out (below_regrown wp dq osq))
        clear hw' cS p0 p1 p2 p3 p4 p5 p6 r0 r1 r2 r3 r4 r5 r6 s6 t6;cases q with
        | true =>
         have NX : Hid (∀ q s y, q < k + 1 -> b.names[q]? = some s -> b.subs[q]? = some y -> ∃ x, AtN a s x /\ SubR x y) := hZ (fun q s' y' hq h1 h2 => by
          rcases Nat.lt_or_ge q k with c | c
          ·exact HP.out q s' y' c h1 h2
          ·obtain rfl : q = k := by omega
           rw [HS.out] at h1; cases h1
           rw [HYY.out] at h2; cases h2
           exact ⟨x, ⟨j, HJS.out, HXX.out⟩, subB_iff.1 HQ.out.symm⟩)
         go_wp2_with fail
         go_roundw
         case rel => exact ⟨k + 1, by omega, by go_num, NX, HBq⟩
         case measure => simp [intOf]; omega
        | false =>
         have RES : Hid (subB a b = false) := hZ (subB_no.2 (fun h => by
          obtain ⟨x', hx', hsub⟩ := HNO.out h s y ⟨k, HS.out, HYY.out⟩;obtain rfl := GA.out.one ⟨j, HJS.out, HXX.out⟩ hx';exact subB_no.1 HQ.out.symm hsub))
         go_wp2_with fail
         go_ret;exact ⟨by rw [RES.out]; try rfl, below_over HB2.out HBq.out⟩
      ·have RES : Hid (subB a b = true) := hZ (subB_iff.2 (HLE.out (fun s y hy => by
        obtain ⟨i, h1, h2⟩ := hy;have := (List.getElem?_eq_some_iff.1 h1).1
        exact HP.out i s y (by have := HRR.out; omega) h1 h2)))
       go_wp2_with fail
       go_ret;exact ⟨by rw [RES.out]; try rfl, below_over HB2.out HB.out⟩
    ·have k5 : (a.kind == 5) = false := by simpa using h5
     by_cases h6 : a.kind = 6
     ·have k6 : (a.kind == 6) = true := by rw [h6]; rfl
      clear h4 h5;have HLE : Hid (∀ (hf : ∀ s y, AtN a s y -> ∃ x, AtN b s x /\ SubR y x), SubR a b) := hZ (fun hf => (le_wins (up := true) (a := a) (b := b) (by rw [h6]; exact .inl ⟨rfl, rfl⟩)).2 ⟨hk, hf⟩);have HNO : Hid (SubR a b -> ∀ s y, AtN a s y -> ∃ x, AtN b s x /\ SubR y x) := hZ (fun h => ((le_wins (up := true) (a := a) (b := b) (by rw [h6]; exact .inl ⟨rfl, rfl⟩)).1 h).2);have HLA := hZ (GA.out.row (.inr h6)).2.1;have HLB := hZ (GB.out.row (.inr (hk.symm.trans h6))).2.1;have hpn : p = n := by rw [HPP.out, HN.out, HLA.out]
      have hrm : r = m := by rw [HRR.out, HM.out, HLB.out]
      have HPN := hZ (And.intro hpn hrm);have hp9 : p <= 9000 := by omega
      have hr9 : r <= 9000 := by omega
      have hq8 : True := trivial;clear h6 hk hpn hrm hq8;go_upto_region 18 with fail
      clear x0 x1 x2 x3 x4 x5 x6 y0 y1 y2 y3 y4 y5 y6;go_wp2_with fail
      go_loopw [8] (fun s8 wr => ∃ k : Nat, k <= p /\ s8 = .int .i64 k /\ Hid (∀ q s y, q < k -> a.names[q]? = some s -> a.subs[q]? = some y -> ∃ x, AtN b s x /\ SubR y x) /\ Hid (Below W2.heap.size W2 wr)) (fun s8 _ => p - (intOf s8).toNat)
      case atStart => exact ⟨0, by omega, rfl, hZ (fun q s y h => by omega), hZ (Below.refl _ _)⟩
      case round =>
       obtain ⟨k, hk, rfl, HP, HB⟩ := hrel;obtain ⟨wo, rfl⟩ : ∃ wo : World, wo = wr := ⟨_, rfl⟩;obtain ⟨⟨i5, i6⟩, m5, m6⟩ := HX.out wo HB.out;by_cases hlt : k < p
       ·obtain ⟨s, hs⟩ : ∃ s, a.names[k]? = some s := ⟨_, List.getElem?_eq_getElem (by rw [<- HPP.out]; exact hlt)⟩
        obtain ⟨gn, on, hAn, hgn, hcn, -⟩ := HNA.out wo HB.out k s hs;subst hAn;have hk0 : (0 : Int) <= k := by omega
        have hk1 : (k : Int) < p := by omega
        have HS := hZ hs;obtain ⟨J, hJ⟩ : ∃ J, J = optN (ofB b.names s) := ⟨_, rfl⟩;have HJ := hZ hJ
        have cO : ∀ dd os, Calls Tryz.prog 82 #[.slice Bn r cB, .string s] (Sort.grow (redrawn wo dd) os) fun e w'' => e = .returned (.int .i64 J) /\ ∃ pp : Regrown, w'' = Sort.grow (redrawn wo pp.d) pp.os := fun dd os => Calls.regrown_of (by
         rw [hJ]; exact rof9_any Bn r cB b.names s _ HRR.out (by omega) (fun i x hx => by
          obtain ⟨g, o, hA, hg, hc, hz⟩ := HNB.out wo HB.out i x hx;have hbr := below_regrown wo dd os;exact ⟨g, o, hA, Nat.lt_of_lt_of_le hg hbr.size, (hbr.cell (p := ⟨g, _, none⟩) hg).trans hc, hz⟩))
        clear hs hJ i6 m6;go_upto_region 21 with fail
        have e1 := cell_regrown i5;have e2 := cell_regrown m5;have e3 := cell_regrown hcn;clear i5 m5 hcn;refine wp_region_quiet_below (by kernel_rfl) (by kernel_rfl) ?_;repeat (any_goals (first | go_big_quiet_step (with_reducible exact cO _ _) | quiet_step (with_reducible exact cO _ _)))
        refine wpQuiet_nil ?_;intro wp hw'
        have HBp : Hid (Below W2.heap.size W2 wp) := hZ (by
         obtain ⟨⟨dq, osq⟩, hw''⟩ := hw';rw [hw''];exact below_over HB.out (below_regrown wo dq osq))
        clear hw' cO e1 e2 e3;cases hj : ofB b.names s with
        | none =>
         obtain rfl : J = -1 := by rw [HJ.out, hj]; rfl
         have RES : Hid (subB a b = false) := hZ (subB_no.2 (fun h => by
          obtain ⟨y', hy'⟩ : ∃ y', a.subs[k]? = some y' := ⟨_, List.getElem?_eq_getElem (by rw [<- HN.out]; have := HPN.out; omega)⟩;obtain ⟨x', hx', -⟩ := HNO.out h s y' ⟨k, HS.out, hy'⟩;exact ofB_none hj hx'.name))
         clear hj;go_wp2_with fail
         go_ret;exact ⟨by rw [RES.out]; try rfl, below_over HB2.out HBp.out⟩
        | some j =>
         obtain rfl : J = (j : Int) := by rw [HJ.out, hj]; rfl
         have hjs := ofB_some hj;have hjl := (List.getElem?_eq_some_iff.1 hjs).1;have HJS := hZ hjs;have hj0 : (0 : Int) <= j := by omega
         have hj1 : (j : Int) < m := by have := HPN.out; have := HRR.out; omega
         have hk3 : (k : Int) < n := by have := HPN.out; omega
         have hj2 : ¬ (j : Int) < 0 := by omega
         have hjN : j < m := by omega
         have hkN : k < n := by omega
         obtain ⟨x, hx⟩ : ∃ x, a.subs[k]? = some x := ⟨_, List.getElem?_eq_getElem (by have := HN.out; omega)⟩;obtain ⟨y, hy⟩ : ∃ y, b.subs[j]? = some y := ⟨_, List.getElem?_eq_getElem (by have := HM.out; omega)⟩;obtain ⟨g1, o1, v0, v1, v2, v3, v4, v5, v6, hA1, hg1, f0, f1, f2, f3, f4, f5, f6, hx7⟩ := HSA.out wp HBp.out k x hx;obtain ⟨g2, o2, u0, u1, u2, u3, u4, u5, u6, hA2, hg2, d0, d1, d2, d3, d4, d5, d6, hy7⟩ := HSB.out wp HBp.out j y hy;subst hA1 hA2;obtain ⟨Fn, cF, Fs, dF, rfl, rfl, rfl, rfl, rfl, rfl, rfl⟩ := hx7.seven;obtain ⟨Gn, cG, Gs, dG, rfl, rfl, rfl, rfl, rfl, rfl, rfl⟩ := hy7.seven;have HXX := hZ hx;have HYY := hZ hy;have HX7 := hZ hx7;have HY7 := hZ hy7
         have HLS : Hid (many x + many y < many a + many b /\ many x <= 9000 /\ many y <= 9000) := hZ (by
          have h1 := sub_lt_at hx;have h2 := sub_lt_at hy;have h3 := H99.out;omega)
         obtain ⟨⟨-, j6⟩, -, l6⟩ := HX.out wp HBp.out;clear hx hy hx7 hy7;obtain ⟨q, hq⟩ : ∃ q, q = subB x y := ⟨_, rfl⟩;have HQ := hZ hq;have cS := HCS.out x y _ _ wp q hq (HIH.out x y (by have := HLS.out; omega) (by have := HLS.out; omega) (by have := HLS.out; omega) (GA.out.sub (List.mem_of_getElem? HXX.out)) (GB.out.sub (List.mem_of_getElem? HYY.out))) HX7.out HY7.out;clear hq hj hjs hjl;go_upto_region 24 with fail
         have p0 := cell_regrown f0;have p1 := cell_regrown f1;have p2 := cell_regrown f2;have p3 := cell_regrown f3;have p4 := cell_regrown f4;have p5 := cell_regrown f5;have p6 := cell_regrown f6;have r0 := cell_regrown d0;have r1 := cell_regrown d1;have r2 := cell_regrown d2;have r3 := cell_regrown d3;have r4 := cell_regrown d4;have r5 := cell_regrown d5;have r6 := cell_regrown d6;have s6 := cell_regrown j6;have t6 := cell_regrown l6;clear f0 f1 f2 f3 f4 f5 f6 d0 d1 d2 d3 d4 d5 d6 j6 l6;refine wp_region_quiet_below (by kernel_rfl) (by kernel_rfl) ?_;repeat (any_goals (first | go_big_quiet_step (with_reducible exact cS _ _) | quiet_step (with_reducible exact cS _ _)))
         refine wpQuiet_nil ?_;intro wq hw'
         have HBq : Hid (Below W2.heap.size W2 wq) := hZ (by
          obtain ⟨⟨dq, osq⟩, hw''⟩ := hw';rw [hw''];exact below_over HBp.out (below_regrown wp dq osq))
         clear hw' cS p0 p1 p2 p3 p4 p5 p6 r0 r1 r2 r3 r4 r5 r6 s6 t6;cases q with
         | true =>
          have NX : Hid (∀ q s y, q < k + 1 -> a.names[q]? = some s -> a.subs[q]? = some y -> ∃ x, AtN b s x /\ SubR y x) := hZ (fun q s' y' hq h1 h2 => by
           rcases Nat.lt_or_ge q k with c | c
           ·exact HP.out q s' y' c h1 h2
           ·obtain rfl : q = k := by omega
            rw [HS.out] at h1; cases h1
            rw [HXX.out] at h2; cases h2
            exact ⟨y, ⟨j, HJS.out, HYY.out⟩, subB_iff.1 HQ.out.symm⟩)
          go_wp2_with fail
          go_roundw
          case rel => exact ⟨k + 1, by omega, by go_num, NX, HBq⟩
          case measure => simp [intOf]; omega
         | false =>
          have RES : Hid (subB a b = false) := hZ (subB_no.2 (fun h => by
           obtain ⟨x', hx', hsub⟩ := HNO.out h s x ⟨k, HS.out, HXX.out⟩;obtain rfl := GB.out.one ⟨j, HJS.out, HYY.out⟩ hx';exact subB_no.1 HQ.out.symm hsub))
          go_wp2_with fail
          go_ret;exact ⟨by rw [RES.out]; try rfl, below_over HB2.out HBq.out⟩
       ·have RES : Hid (subB a b = true) := hZ (subB_iff.2 (HLE.out (fun s y hy => by
         obtain ⟨i, h1, h2⟩ := hy;have := (List.getElem?_eq_some_iff.1 h1).1
         exact HP.out i s y (by have := HPP.out; omega) h1 h2)))
        go_wp2_with fail
        go_ret;exact ⟨by rw [RES.out]; try rfl, below_over HB2.out HB.out⟩
     ·have k6 : (a.kind == 6) = false := by simpa using h6
      by_cases h7 : a.kind = 7
      ·have k7 : (a.kind == 7) = true := by rw [h7]; rfl
       have hnp := (GA.out.parts (.inr h7)).2.2.1
       have HLE : Hid (SubR a b ↔ a.subs.length = b.subs.length /\ ∀ i x y, a.subs[i]? = some x -> b.subs[i]? = some y -> Le (if i + 1 = a.subs.length then true else !true) x y) := hZ
        ⟨fun h => ((le_parts (up := true) (.inr h7)).1 h).2, fun h => (le_parts (up := true) (.inr h7)).2 ⟨hk, h⟩⟩
       have hnp' : 0 < n := by rw [HN.out]; exact hnp
       have hxn : W2.cell? ⟨w.heap.size, 6, none⟩ = some (.slice As n cS) := by rw [HN.out]; exact x6
       have hyn : W2.cell? ⟨w.heap.size + 1, 6, none⟩ = some (.slice Bs m cD) := by rw [HM.out]; exact y6
       clear h4 h5 h6 h7 hk hnp x6 y6;by_cases hnm : n = m
       ·have HNM := hZ hnm
        have e1 : ((n : Int) != (m : Int)) = false := by rw [hnm]; simp
        have e2 : ((n : Int) == (m : Int)) = true := by rw [hnm]; simp
        have wl : IntKind.i64.wrap ((n : Int) - 1) = ((n - 1 : Nat) : Int) := by rw [IntKind.wrap_i64]; omega
        obtain ⟨L, hL⟩ : ∃ L, L = n - 1 := ⟨_, rfl⟩;have HL := hZ hL;rw [<- hL] at wl;clear hnm hL;go_upto_region 32 with fail
        clear x0 x1 x2 x3 x4 x5 y0 y1 y2 y3 y4 y5 hxn hyn e1 e2;go_wp2_with fail
        go_loopw [12] (fun s12 wr => ∃ k : Nat, k <= L /\ s12 = .int .i64 k /\ Hid (∀ i x y, i < k -> a.subs[i]? = some x -> b.subs[i]? = some y -> SubR y x) /\ Hid (Below W2.heap.size W2 wr)) (fun s12 _ => L - (intOf s12).toNat)
        case atStart => exact ⟨0, by omega, rfl, hZ (fun i x y h => by omega), hZ (Below.refl _ _)⟩
        case round =>
         obtain ⟨k, hk, rfl, HP, HB⟩ := hrel;obtain ⟨wo, rfl⟩ : ∃ wo : World, wo = wr := ⟨_, rfl⟩;have hLn : L < n := by have := HL.out; omega
         have hkN : k < n := by omega
         have hkM : k < m := by have := HNM.out; omega
         obtain ⟨x, hx⟩ : ∃ x, a.subs[k]? = some x := ⟨_, List.getElem?_eq_getElem (by have := HN.out; omega)⟩;obtain ⟨y, hy⟩ : ∃ y, b.subs[k]? = some y := ⟨_, List.getElem?_eq_getElem (by have := HM.out; omega)⟩;obtain ⟨g1, o1, v0, v1, v2, v3, v4, v5, v6, hA1, hg1, f0, f1, f2, f3, f4, f5, f6, hx7⟩ := HSA.out wo HB.out k x hx;obtain ⟨g2, o2, u0, u1, u2, u3, u4, u5, u6, hA2, hg2, d0, d1, d2, d3, d4, d5, d6, hy7⟩ := HSB.out wo HB.out k y hy;subst hA1 hA2;obtain ⟨Fn, cF, Fs, dF, rfl, rfl, rfl, rfl, rfl, rfl, rfl⟩ := hx7.seven;obtain ⟨Gn, cG, Gs, dG, rfl, rfl, rfl, rfl, rfl, rfl, rfl⟩ := hy7.seven;have HXX := hZ hx;have HYY := hZ hy;have HX7 := hZ hx7;have HY7 := hZ hy7
         have HLS : Hid (many x + many y < many a + many b /\ many x <= 9000 /\ many y <= 9000) := hZ (by
          have h1 := sub_lt_at hx;have h2 := sub_lt_at hy;have h3 := H99.out;omega)
         obtain ⟨⟨-, j6⟩, -, l6⟩ := HX.out wo HB.out;clear hx hy hx7 hy7;have hk0 : (0 : Int) <= k := by omega
         have hk1 : (k : Int) < n := by omega
         have hk2 : (k : Int) < m := by omega
         by_cases hlt : k < L
         ·have hlt' : (k : Int) < L := by omega
          obtain ⟨q, hq⟩ : ∃ q, q = subB y x := ⟨_, rfl⟩;have HQ := hZ hq;have cS := HCS.out y x _ _ wo q hq (HIH.out y x (by have := HLS.out; omega) (by have := HLS.out; omega) (by have := HLS.out; omega) (GB.out.sub (List.mem_of_getElem? HYY.out)) (GA.out.sub (List.mem_of_getElem? HXX.out))) HY7.out HX7.out;clear hq;go_upto_region 35 with fail
          have p0 := cell_regrown f0;have p1 := cell_regrown f1;have p2 := cell_regrown f2;have p3 := cell_regrown f3;have p4 := cell_regrown f4;have p5 := cell_regrown f5;have p6 := cell_regrown f6;have r0 := cell_regrown d0;have r1 := cell_regrown d1;have r2 := cell_regrown d2;have r3 := cell_regrown d3;have r4 := cell_regrown d4;have r5 := cell_regrown d5;have r6 := cell_regrown d6;have s6 := cell_regrown j6;have t6 := cell_regrown l6;clear f0 f1 f2 f3 f4 f5 f6 d0 d1 d2 d3 d4 d5 d6 j6 l6;refine wp_region_quiet_below (by kernel_rfl) (by kernel_rfl) ?_;repeat (any_goals (first | go_big_quiet_step (with_reducible exact cS _ _) | quiet_step (with_reducible exact cS _ _)))
          refine wpQuiet_nil ?_;intro wq hw'
          have HBq : Hid (Below W2.heap.size W2 wq) := hZ (by
           obtain ⟨⟨dq, osq⟩, hw''⟩ := hw';rw [hw''];exact below_over HB.out (below_regrown wo dq osq))
          clear hw' cS p0 p1 p2 p3 p4 p5 p6 r0 r1 r2 r3 r4 r5 r6 s6 t6;cases q with
          | true =>
           have NX : Hid (∀ i x y, i < k + 1 -> a.subs[i]? = some x -> b.subs[i]? = some y -> SubR y x) := hZ (fun i x' y' hi h1 h2 => by
            rcases Nat.lt_or_ge i k with c | c
            ·exact HP.out i x' y' c h1 h2
            ·obtain rfl : i = k := by omega
             rw [HXX.out] at h1; cases h1
             rw [HYY.out] at h2; cases h2
             exact subB_iff.1 HQ.out.symm)
           go_wp2_with fail
           go_roundw
           case rel => exact ⟨k + 1, by omega, by go_num, NX, HBq⟩
           case measure => simp [intOf]; omega
          | false =>
           have RES : Hid (subB a b = false) := hZ (subB_no.2 (fun h => by
            have h1 := (HLE.out.1 h).2 k x y HXX.out HYY.out;rw [if_neg (by rw [<- HN.out]; have := HL.out; omega)] at h1;exact subB_no.1 HQ.out.symm h1))
           go_wp2_with fail
           go_ret;exact ⟨by rw [RES.out]; try rfl, below_over HB2.out HBq.out⟩
         ·have hlt' : ¬ (k : Int) < L := by omega
          obtain rfl : k = L := by omega
          obtain ⟨q, hq⟩ : ∃ q, q = subB x y := ⟨_, rfl⟩;have HQ := hZ hq;have cS := HCS.out x y _ _ wo q hq (HIH.out x y (by have := HLS.out; omega) (by have := HLS.out; omega) (by have := HLS.out; omega) (GA.out.sub (List.mem_of_getElem? HXX.out)) (GB.out.sub (List.mem_of_getElem? HYY.out))) HX7.out HY7.out
          have RES : Hid (subB a b = q) := hZ (by
           rw [hq, Bool.eq_iff_iff, subB_iff, subB_iff];constructor
           ·intro h
            have h1 := (HLE.out.1 h).2 k x y HXX.out HYY.out;rw [if_pos (by rw [<- HN.out]; have := HL.out; omega)] at h1;exact h1
           ·intro h
            refine HLE.out.2 ⟨by rw [<- HN.out, <- HM.out]; exact HNM.out, fun i x' y' h1 h2 => ?_⟩;have hi := (List.getElem?_eq_some_iff.1 h1).1;rcases Nat.lt_or_ge i k with c | c
            ·rw [if_neg (by rw [<- HN.out]; omega)]
             exact HP.out i x' y' c h1 h2
            ·obtain rfl : i = k := by have := HN.out; have := HL.out; omega
             rw [if_pos (by rw [<- HN.out]; have := HL.out; omega)];rw [HXX.out] at h1; cases h1
             rw [HYY.out] at h2; cases h2
             exact h)
          clear hq hlt;go_upto_region 38 with fail
          have p0 := cell_regrown f0;have p1 := cell_regrown f1;have p2 := cell_regrown f2;have p3 := cell_regrown f3;have p4 := cell_regrown f4;have p5 := cell_regrown f5;have p6 := cell_regrown f6;have r0 := cell_regrown d0;have r1 := cell_regrown d1;have r2 := cell_regrown d2;have r3 := cell_regrown d3;have r4 := cell_regrown d4;have r5 := cell_regrown d5;have r6 := cell_regrown d6;have s6 := cell_regrown j6;have t6 := cell_regrown l6;clear f0 f1 f2 f3 f4 f5 f6 d0 d1 d2 d3 d4 d5 d6 j6 l6;refine wp_region_quiet_below (by kernel_rfl) (by kernel_rfl) ?_;repeat (any_goals (first | go_big_quiet_step (with_reducible exact cS _ _) | quiet_step (with_reducible exact cS _ _)))
          refine wpQuiet_nil ?_;intro wq hw'
          have HBq : Hid (Below W2.heap.size W2 wq) := hZ (by
           obtain ⟨⟨dq, osq⟩, hw''⟩ := hw';rw [hw''];exact below_over HB.out (below_regrown wo dq osq))
          clear hw' cS p0 p1 p2 p3 p4 p5 p6 r0 r1 r2 r3 r4 r5 r6 s6 t6;go_wp2_with fail
          go_ret;exact ⟨by rw [RES.out]; try rfl, below_over HB2.out HBq.out⟩
       ·have e1 : ((n : Int) != (m : Int)) = true := by simp; omega
        have e2 : ((n : Int) == (m : Int)) = false := by simp; omega
        have RES : Hid (subB a b = false) := hZ (subB_no.2 (fun h => hnm (by rw [HN.out, HM.out]; exact (HLE.out.1 h).1)));clear hnm;go_wp2_with fail
        go_ret;exact ⟨by rw [RES.out]; try rfl, HB2.out⟩
      ·have k7 : (a.kind == 7) = false := by simpa using h7
       have CC := same_any (many a) a b (Nat.le_refl _) (.agg #[.int .i64 a.kind, .string a.pkg, .int .i64 a.major, .string a.mod, .string a.name, .slice An a.names.length cA, .slice As a.subs.length cS]) (.agg #[.int .i64 b.kind, .string b.pkg, .int .i64 b.major, .string b.mod, .string b.name, .slice Bn b.names.length cB, .slice Bs b.subs.length cD]) W2 ⟨_, rfl, HA2.out⟩ ⟨_, rfl, HB22.out⟩
       have RES : Hid (sameT a b = subB a b) := hZ (by
        rw [Bool.eq_iff_iff, sameT_iff, subB_iff];exact (le_leaf (up := true) h4 h5 h6 h7).symm)
       rw [RES.out] at CC;have CCC := hZ CC;clear h4 h5 h6 h7 hk CC RES;go_upto_region 39 with fail
       go_wp2_with fail
       refine CCC.out.mono ?_; rintro e w3 ⟨rfl, hb3⟩
       have FIN := hZ (below_over HB2.out hb3);clear hb3 CCC x0 x1 x2 x3 x4 x5 x6 y0 y1 y2 y3 y4 y5 y6;go_wp2_with fail
       go_ret;exact ⟨rfl, FIN.out⟩
  ·have k1 : (a.kind != b.kind) = true := by simpa using hk
   have k1' : (a.kind == b.kind) = false := by simpa using hk
   have RES : Hid (subB a b = false) := hZ (subB_no.2 (fun h => hk (Le.kind (up := true) h)));clear hk;go_wp2_with fail
   go_ret;exact ⟨by rw [RES.out]; try rfl, HB2.out⟩
end Go.Proofs.YtddlmigofilejaaGreat
