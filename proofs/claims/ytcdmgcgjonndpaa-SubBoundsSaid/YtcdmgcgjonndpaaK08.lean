/-
  Several texts in one:  ·  ·  · 
-/
import Derived.Test.YtcdmgcgjonndpaaK07
import Derived.Test.YtcdmgcgjonndpaaK04
import Derived.Test.YtcdmgcgjonndpaaK03
import Derived.Laws.MakeOwn
import Derived.Lib.SliceRun
import Derived.Deep.Upon
/-  -/
namespace Go.Proofs.Ytcdmgcgjonndpaa
open Go Go.RowKit Go.Shelf
open Go.Sort
open M
theorem leaf_may {t : Ty} (h : GoodT t) (h4 : t.kind ≠ 4) (h5 : t.kind ≠ 5) (h6 : t.kind ≠ 6) (h7 : t.kind ≠ 7) : mayT t = true := by
  obtain ⟨hs, hn⟩ := h.leaf h4 h5 h6 h7
  have ho := h.own
  unfold ownG at ho
  simp only [Bool.and_eq_true] at ho
  have hm : many t = 1 := by have := manyL_eq t; rw [hs] at this; simp [manyL] at this; exact this
  have hd : deep t = 1 := by cases t with | mk k p j d n ns ss => have : ss = [] := hs
                                                                  subst this; simp [deep, deepL]
  unfold mayT
  rw [allOk_eq, hs, hm, hd]
  unfold ownOk
  rw [hs, hn]
  have h1 := ho.1.1
  rw [hn] at h1
  rw [h1, ho.1.2]
  simp [allOkL]
set_option maxRecDepth 100000 in
set_option maxHeartbeats 8000000 in
theorem partsStand_any (a b : Ty) (la lb : List Value) (w : World) (ga : GoodT a) (gb : GoodT b) (hk : a.kind = 4 ∨ a.kind = 7) (hkk : a.kind = b.kind) (h9a : many a ≤ 9000) (h9b : many b ≤ 9000) (hTa : TyAt w la a) (hTb : TyAt w lb b)
  (IH : ∀ x y, many x + many y < many a + many b → many x ≤ 9000 → many y ≤ 9000 → GoodT x → GoodT y → StCall x y) :
  Calls Try.prog 39 #[.agg la.toArray, .agg lb.toArray] w fun e w' => e = .returned (.bool (subB a b)) ∧ Below w.heap.size w w' := by
 have HTa := Lib.hid hTa
 have HTb := Lib.hid hTb
 obtain ⟨An, cA, As, cS, rfl, -, -, -, -, -, -, hSa⟩ := hTa.parts
 obtain ⟨Bn, cB, Bs, cD, rfl, -, -, -, -, -, -, hSb⟩ := hTb.parts
 obtain ⟨W2, hW2, B2, O0, O1, hl2⟩ := two_boxes w #[.int .i64 a.kind, .string a.pkg, .int .i64 a.major, .string a.mod, .string a.name, .slice An a.names.length cA, .slice As a.subs.length cS] #[.int .i64 b.kind, .string b.pkg, .int .i64 b.major, .string b.mod, .string b.name, .slice Bn b.names.length cB, .slice Bs b.subs.length cD] 25 25
 have HB2 := Lib.hid B2
 obtain ⟨n, hn⟩ : ∃ n, n = a.subs.length := ⟨_, rfl⟩
 obtain ⟨m, hm⟩ : ∃ m, m = b.subs.length := ⟨_, rfl⟩
 have hnp : 0 < n := by rw [hn]; exact (ga.parts hk).2.2.1
 have hn9 : n ≤ 9000 := by have h2 := manyL_len a.subs; have h3 := manyL_eq a; omega
 have hm9 : m ≤ 9000 := by have h2 := manyL_len b.subs; have h3 := manyL_eq b; omega
 have HX0 : Hid (∀ wx, Below W2.heap.size W2 wx → wx.cell? ⟨w.heap.size, 6, none⟩ = some (.slice As n cS)) := Lib.hid (fun wx hb => by rw [hn]; exact Lib.cell_of_heap ((hb.block _ (by omega)).trans O0) 6)
 have HX1 : Hid (∀ wx, Below W2.heap.size W2 wx → wx.cell? ⟨w.heap.size + 1, 6, none⟩ = some (.slice Bs m cD)) := Lib.hid (fun wx hb => by rw [hm]; exact Lib.cell_of_heap ((hb.block _ (by omega)).trans O1) 6)
 have HSA : Hid (∀ wx, Below W2.heap.size W2 wx → SubsAt wx As a.subs) := Lib.hid (fun wx hb => hSa.below (below_over HB2.out hb))
 have HSB : Hid (∀ wx, Below W2.heap.size W2 wx → SubsAt wx Bs b.subs) := Lib.hid (fun wx hb => hSb.below (below_over HB2.out hb))
 have GA := Lib.hid ga
 have GB := Lib.hid gb
 have HIH := Lib.hid IH
 have HLE : Hid (SubR a b ↔ a.subs.length = b.subs.length ∧ ∀ i x y, a.subs[i]? = some x → b.subs[i]? = some y → Le (if i + 1 = a.subs.length then true else !true) x y) := Lib.hid
  ⟨fun h => ((le_parts (up := true) hk).1 h).2, fun h => (le_parts (up := true) hk).2 ⟨hkk, h⟩⟩
 have HW := Lib.hid hW2
 have H99 := Lib.hid (And.intro h9a h9b)
 have HN := Lib.hid hn
 have HM := Lib.hid hm
 have x6 := HX0.out W2 (Below.refl _ _)
 have y6 := HX1.out W2 (Below.refl _ _)
 clear hW2 B2 O0 O1 hTa hTb hSa hSb ga gb hk hkk IH hn hm h9a h9b
 go_enter Try.func39, Try.ntmps39
 go_upto_region 1 with fail
 rw [← HW.out]
 clear HW
 by_cases hnm : n = m
 ·have HNM := Lib.hid hnm
  have e1 : ((n : Int) != (m : Int)) = false := by rw [hnm]; simp
  have e2 : ((n : Int) == (m : Int)) = true := by rw [hnm]; simp
  have wl : IntKind.i64.wrap ((n : Int) - 1) = ((n - 1 : Nat) : Int) := by rw [IntKind.wrap_i64]; omega
  obtain ⟨L, hL⟩ : ∃ L, L = n - 1 := ⟨_, rfl⟩
  have HL := Lib.hid hL
  rw [← hL] at wl
  clear hnm hL
  go_wp2_with fail
  clear x6 y6 e1 e2 wl
  go_loopw [19] (fun s19 wr => ∃ k : Nat, k ≤ L ∧ s19 = .int .i64 k ∧ Hid (∀ i x y, i < k → a.subs[i]? = some x → b.subs[i]? = some y → SubR y x) ∧ Hid (Below W2.heap.size W2 wr)) (fun s19 _ => L - (intOf s19).toNat)
  case atStart => exact ⟨0, by omega, rfl, Lib.hid (fun i x y h => by omega), Lib.hid (Below.refl _ _)⟩
  case round =>
   obtain ⟨k, hk, rfl, HP, HB⟩ := hrel
   obtain ⟨wo, rfl⟩ : ∃ wo : World, wo = wr := ⟨_, rfl⟩
   have hLn : L < n := by have := HL.out; omega
   have hkn : k < n := by omega
   obtain ⟨x, hx⟩ : ∃ x, a.subs[k]? = some x := ⟨_, List.getElem?_eq_getElem (by rw [← HN.out]; exact hkn)⟩
   obtain ⟨y, hy⟩ : ∃ y, b.subs[k]? = some y := ⟨_, List.getElem?_eq_getElem (by rw [← HM.out, ← HNM.out]; exact hkn)⟩
   obtain ⟨g1, o1, v0, v1, v2, v3, v4, v5, v6, hA1, hg1, f0, f1, f2, f3, f4, f5, f6, hx7⟩ := HSA.out wo HB.out k x hx
   obtain ⟨g2, o2, u0, u1, u2, u3, u4, u5, u6, hA2, hg2, d0, d1, d2, d3, d4, d5, d6, hy7⟩ := HSB.out wo HB.out k y hy
   subst hA1 hA2
   obtain ⟨Fn, cF, Fs, dF, rfl, rfl, rfl, rfl, rfl, rfl, rfl⟩ := hx7.seven
   obtain ⟨Gn, cG, Gs, dG, rfl, rfl, rfl, rfl, rfl, rfl, rfl⟩ := hy7.seven
   have HXX := Lib.hid hx
   have HYY := Lib.hid hy
   have HX7 := Lib.hid hx7
   have HY7 := Lib.hid hy7
   have hls : many x + many y < many a + many b ∧ many x ≤ 9000 ∧ many y ≤ 9000 := by
    have h1 := sub_lt_at hx
    have h2 := sub_lt_at hy
    have h3 := H99.out
    omega
   have HLS := Lib.hid hls
   have hk0 : (0 : Int) ≤ k := by omega
   have hk1 : (k : Int) < n := by omega
   have hk2 : (k : Int) < m := by have := HNM.out; omega
   have x6 := HX0.out wo HB.out
   have y6 := HX1.out wo HB.out
   clear hx hy hx7 hy7 hls
   by_cases hlt : k < L
   ·have hlt' : (k : Int) < L := by omega
    obtain ⟨q, hq⟩ : ∃ q, q = subB y x := ⟨_, rfl⟩
    have HQ := Lib.hid hq
    have cS : ∀ dd os, Calls Try.prog 24 #[.agg #[.int .i64 y.kind, .string y.pkg, .int .i64 y.major, .string y.mod, .string y.name, .slice Gn y.names.length cG, .slice Gs y.subs.length dG], .agg #[.int .i64 x.kind, .string x.pkg, .int .i64 x.major, .string x.mod, .string x.name, .slice Fn x.names.length cF, .slice Fs x.subs.length dF]] (Sort.grow (redrawn wo dd) os) fun e w'' => e = .returned (.bool q) ∧ ∃ pp : Regrown, w'' = Sort.grow (redrawn wo pp.d) pp.os := fun dd os => Calls.regrown_of (by
     have hls := HLS.out
     rw [hq]; exact HIH.out y x (by omega) (by omega) (by omega) (GB.out.sub (List.mem_of_getElem? HYY.out)) (GA.out.sub (List.mem_of_getElem? HXX.out)) _ _ _ (HY7.out.keep (below_regrown wo dd os)) (HX7.out.keep (below_regrown wo dd os)))
    clear hq
    go_upto_region 7 with fail
    have p0 := cell_regrown f0
    have p1 := cell_regrown f1
    have p2 := cell_regrown f2
    have p3 := cell_regrown f3
    have p4 := cell_regrown f4
    have p5 := cell_regrown f5
    have p6 := cell_regrown f6
    have r0 := cell_regrown d0
    have r1 := cell_regrown d1
    have r2 := cell_regrown d2
    have r3 := cell_regrown d3
    have r4 := cell_regrown d4
    have r5 := cell_regrown d5
    have r6 := cell_regrown d6
    have s6 := cell_regrown x6
    have t6 := cell_regrown y6
    clear f0 f1 f2 f3 f4 f5 f6 d0 d1 d2 d3 d4 d5 d6 x6 y6
    refine wp_region_quiet_below (by kernel_rfl) (by kernel_rfl) ?_
    repeat (any_goals (first | go_big_quiet_step (with_reducible exact cS _ _) | quiet_step (with_reducible exact cS _ _)))
    refine wpQuiet_nil ?_
    intro w5 hw'
    have HB5 : Hid (Below W2.heap.size W2 w5) := Lib.hid (by
     obtain ⟨⟨dq, osq⟩, hw''⟩ := hw'
     rw [hw'']
     exact below_over HB.out (below_regrown wo dq osq))
    clear hw' cS p0 p1 p2 p3 p4 p5 p6 r0 r1 r2 r3 r4 r5 r6 s6 t6
    cases q with
    | true =>
     have NX : Hid (∀ i x y, i < k + 1 → a.subs[i]? = some x → b.subs[i]? = some y → SubR y x) := Lib.hid (fun i x' y' hi h1 h2 => by
      rcases Nat.lt_or_ge i k with c | c
      ·exact HP.out i x' y' c h1 h2
      ·obtain rfl : i = k := by omega
       rw [HXX.out] at h1; cases h1
       rw [HYY.out] at h2; cases h2
       exact subB_iff.1 HQ.out.symm)
     go_wp2_with fail
     go_roundw
     case rel => exact ⟨k + 1, by omega, by go_num, NX, HB5⟩
     case measure => simp [intOf]; omega
    | false =>
     have RES : Hid (subB a b = false) := Lib.hid (subB_no.2 (fun h => by
      have h1 := (HLE.out.1 h).2 k x y HXX.out HYY.out
      rw [if_neg (by rw [← HN.out]; have := HL.out; omega)] at h1
      exact subB_no.1 HQ.out.symm h1))
     go_wp2_with fail
     go_ret
     exact ⟨by rw [RES.out]; try rfl, below_over HB2.out HB5.out⟩
   ·have hlt' : ¬ (k : Int) < L := by omega
    obtain rfl : k = L := by omega
    obtain ⟨q, hq⟩ : ∃ q, q = subB x y := ⟨_, rfl⟩
    have HQ := Lib.hid hq
    have cS : ∀ dd os, Calls Try.prog 24 #[.agg #[.int .i64 x.kind, .string x.pkg, .int .i64 x.major, .string x.mod, .string x.name, .slice Fn x.names.length cF, .slice Fs x.subs.length dF], .agg #[.int .i64 y.kind, .string y.pkg, .int .i64 y.major, .string y.mod, .string y.name, .slice Gn y.names.length cG, .slice Gs y.subs.length dG]] (Sort.grow (redrawn wo dd) os) fun e w'' => e = .returned (.bool q) ∧ ∃ pp : Regrown, w'' = Sort.grow (redrawn wo pp.d) pp.os := fun dd os => Calls.regrown_of (by
     have hls := HLS.out
     rw [hq]; exact HIH.out x y (by omega) (by omega) (by omega) (GA.out.sub (List.mem_of_getElem? HXX.out)) (GB.out.sub (List.mem_of_getElem? HYY.out)) _ _ _ (HX7.out.keep (below_regrown wo dd os)) (HY7.out.keep (below_regrown wo dd os)))
    have RES : Hid (subB a b = q) := Lib.hid (by
     rw [hq, Bool.eq_iff_iff, subB_iff, subB_iff]
     constructor
     ·intro h
      have h1 := (HLE.out.1 h).2 k x y HXX.out HYY.out
      rw [if_pos (by rw [← HN.out]; have := HL.out; omega)] at h1
      exact h1
     ·intro h
      refine HLE.out.2 ⟨by rw [← HN.out, ← HM.out]; exact HNM.out, fun i x' y' h1 h2 => ?_⟩
      have hi := (List.getElem?_eq_some_iff.1 h1).1
      rcases Nat.lt_or_ge i k with c | c
      ·rw [if_neg (by rw [← HN.out]; omega)]
       exact HP.out i x' y' c h1 h2
      ·obtain rfl : i = k := by have := HN.out; have := HL.out; omega
       rw [if_pos (by rw [← HN.out]; have := HL.out; omega)]
       rw [HXX.out] at h1; cases h1
       rw [HYY.out] at h2; cases h2
       exact h)
    clear hq hlt
    go_upto_region 10 with fail
    have p0 := cell_regrown f0
    have p1 := cell_regrown f1
    have p2 := cell_regrown f2
    have p3 := cell_regrown f3
    have p4 := cell_regrown f4
    have p5 := cell_regrown f5
    have p6 := cell_regrown f6
    have r0 := cell_regrown d0
    have r1 := cell_regrown d1
    have r2 := cell_regrown d2
    have r3 := cell_regrown d3
    have r4 := cell_regrown d4
    have r5 := cell_regrown d5
    have r6 := cell_regrown d6
    have s6 := cell_regrown x6
    have t6 := cell_regrown y6
    clear f0 f1 f2 f3 f4 f5 f6 d0 d1 d2 d3 d4 d5 d6 x6 y6
    refine wp_region_quiet_below (by kernel_rfl) (by kernel_rfl) ?_
    repeat (any_goals (first | go_big_quiet_step (with_reducible exact cS _ _) | quiet_step (with_reducible exact cS _ _)))
    refine wpQuiet_nil ?_
    intro w5 hw'
    have HB5 : Hid (Below W2.heap.size W2 w5) := Lib.hid (by
     obtain ⟨⟨dq, osq⟩, hw''⟩ := hw'
     rw [hw'']
     exact below_over HB.out (below_regrown wo dq osq))
    clear hw' cS p0 p1 p2 p3 p4 p5 p6 r0 r1 r2 r3 r4 r5 r6 s6 t6
    go_wp2_with fail
    go_ret
    exact ⟨by rw [RES.out]; try rfl, below_over HB2.out HB5.out⟩
 ·have e1 : ((n : Int) != (m : Int)) = true := by simp; omega
  have e2 : ((n : Int) == (m : Int)) = false := by simp; omega
  have RES : Hid (subB a b = false) := Lib.hid (subB_no.2 (fun h => hnm (by rw [HN.out, HM.out]; exact (HLE.out.1 h).1)))
  clear hnm
  go_wp2_with fail
  go_ret
  exact ⟨by rw [RES.out]; try rfl, HB2.out⟩
end Go.Proofs.Ytcdmgcgjonndpaa

/-  -/
namespace Go.Proofs.Ytcdmgcgjonndpaa
open Go Go.RowKit Go.Shelf
open Go.Sort
open M
set_option maxRecDepth 100000 in
set_option maxHeartbeats 8000000 in
theorem standsB_any (N : Nat) : ∀ (a b : Ty), many a + many b ≤ N → many a ≤ 9000 → many b ≤ 9000 → GoodT a → GoodT b → StCall a b := by
 induction N with
 | zero => intro a b h; have := many_pos a; omega
 | succ N ih =>
  intro a b hN h9a h9b ga gb la lb w hTa hTb
  have IH := Lib.hid (show ∀ x y, many x + many y < many a + many b → many x ≤ 9000 → many y ≤ 9000 → GoodT x → GoodT y → StCall x y from fun x y h h1 h2 g1 g2 => ih x y (by omega) h1 h2 g1 g2)
  have HTa := Lib.hid hTa
  have HTb := Lib.hid hTb
  have GA := Lib.hid ga
  have GB := Lib.hid gb
  obtain ⟨An, cA, As, cS, rfl, -⟩ := hTa.parts
  obtain ⟨Bn, cB, Bs, cD, rfl, -⟩ := hTb.parts
  obtain ⟨W2, hW2, B2, O0, O1, hl2⟩ := two_boxes w #[.int .i64 a.kind, .string a.pkg, .int .i64 a.major, .string a.mod, .string a.name, .slice An a.names.length cA, .slice As a.subs.length cS] #[.int .i64 b.kind, .string b.pkg, .int .i64 b.major, .string b.mod, .string b.name, .slice Bn b.names.length cB, .slice Bs b.subs.length cD] 25 25
  have HB2 := Lib.hid B2
  have HA2 := Lib.hid (HTa.out.keep B2)
  have HB22 := Lib.hid (HTb.out.keep B2)
  have HW := Lib.hid hW2
  have x0 := Lib.cell_of_heap O0 0
  have x1 := Lib.cell_of_heap O0 1
  have x2 := Lib.cell_of_heap O0 2
  have x3 := Lib.cell_of_heap O0 3
  have x4 := Lib.cell_of_heap O0 4
  have x5 := Lib.cell_of_heap O0 5
  have x6 := Lib.cell_of_heap O0 6
  have y0 := Lib.cell_of_heap O1 0
  have y1 := Lib.cell_of_heap O1 1
  have y2 := Lib.cell_of_heap O1 2
  have y3 := Lib.cell_of_heap O1 3
  have y4 := Lib.cell_of_heap O1 4
  have y5 := Lib.cell_of_heap O1 5
  have y6 := Lib.cell_of_heap O1 6
  simp at x0 x1 x2 x3 x4 x5 x6 y0 y1 y2 y3 y4 y5 y6
  clear hW2 B2 O0 O1 hTa hTb ga gb ih
  go_enter Try.func24, Try.ntmps24
  go_upto_region 1 with fail
  rw [← HW.out]
  clear HW
  by_cases hk : a.kind = b.kind
  ·have k1 : (a.kind != b.kind) = false := by rw [hk]; simp
   have k1' : (a.kind == b.kind) = true := by rw [hk]; simp
   by_cases h5 : a.kind = 5
   ·have k5 : (a.kind == 5) = true := by rw [h5]; rfl
    have CC := Lib.hid (recordStands_any a b _ _ W2 GA.out GB.out h5 (hk.symm.trans h5) h9a h9b HA2.out HB22.out IH.out)
    clear h5 hk
    go_wp2_with fail
    refine CC.out.mono ?_; rintro e w3 ⟨rfl, hb3⟩
    have FIN := Lib.hid (below_over HB2.out hb3)
    clear hb3 CC x0 x1 x2 x3 x4 x5 x6 y0 y1 y2 y3 y4 y5 y6
    go_wp2_with fail
    go_ret
    exact ⟨rfl, FIN.out⟩
   ·have k5 : (a.kind == 5) = false := by simpa using h5
    by_cases h6 : a.kind = 6
    ·have k6 : (a.kind == 6) = true := by rw [h6]; rfl
     have CC := Lib.hid (variantStands_any a b _ _ W2 GA.out GB.out h6 (hk.symm.trans h6) h9a h9b HA2.out HB22.out IH.out)
     clear h5 h6 hk
     go_wp2_with fail
     refine CC.out.mono ?_; rintro e w3 ⟨rfl, hb3⟩
     have FIN := Lib.hid (below_over HB2.out hb3)
     clear hb3 CC x0 x1 x2 x3 x4 x5 x6 y0 y1 y2 y3 y4 y5 y6
     go_wp2_with fail
     go_ret
     exact ⟨rfl, FIN.out⟩
    ·have k6 : (a.kind == 6) = false := by simpa using h6
     by_cases h47 : a.kind = 4 ∨ a.kind = 7
     ·have hpos := (GA.out.parts h47).2.2.1
      have z1 : ((a.subs.length : Int) == 0) = false := by simp; intro h; rw [h] at hpos; simp at hpos
      have CC := Lib.hid (partsStand_any a b _ _ W2 GA.out GB.out h47 hk h9a h9b HA2.out HB22.out IH.out)
      obtain ⟨nn, hnn⟩ : ∃ nn, nn = a.subs.length := ⟨_, rfl⟩
      have hz : ¬ (nn : Int) = 0 := by omega
      rw [← hnn] at z1 x6 CC
      have HNN := Lib.hid hnn
      rw [← hnn]
      clear h5 h6 hk h47 hpos hnn
      go_wp2_with fail
      refine CC.out.mono ?_; rintro e w3 ⟨rfl, hb3⟩
      have FIN := Lib.hid (below_over HB2.out hb3)
      clear hb3 CC x0 x1 x2 x3 x4 x5 x6 y0 y1 y2 y3 y4 y5 y6
      go_wp2_with fail
      go_ret
      exact ⟨rfl, FIN.out⟩
     ·have h4 : a.kind ≠ 4 := fun h => h47 (.inl h)
      have h7 : a.kind ≠ 7 := fun h => h47 (.inr h)
      have hl := (GA.out.leaf h4 h5 h6 h7).1
      have hlen : a.subs.length = 0 := by rw [hl]; rfl
      have CC := sameK_any a b (.agg #[.int .i64 a.kind, .string a.pkg, .int .i64 a.major, .string a.mod, .string a.name, .slice An a.names.length cA, .slice As a.subs.length cS]) (.agg #[.int .i64 b.kind, .string b.pkg, .int .i64 b.major, .string b.mod, .string b.name, .slice Bn b.names.length cB, .slice Bs b.subs.length cD]) W2 ⟨_, rfl, HA2.out⟩ ⟨_, rfl, HB22.out⟩
      rw [leaf_may GA.out h4 h5 h6 h7, leaf_may GB.out (by rw [← hk]; exact h4) (by rw [← hk]; exact h5) (by rw [← hk]; exact h6) (by rw [← hk]; exact h7)] at CC
      have RES : Hid ((true && true && sameT a b) = subB a b) := Lib.hid (by
       rw [Bool.and_self, Bool.true_and, Bool.eq_iff_iff, sameT_iff, subB_iff]
       exact (le_leaf (up := true) h4 h5 h6 h7).symm)
      rw [RES.out, hlen] at CC
      rw [hlen] at x6 ⊢
      have CCC := Lib.hid CC
      clear h4 h7 h47 hl hlen h5 h6 hk CC RES
      go_wp2_with fail
      refine CCC.out.mono ?_; rintro e w3 ⟨rfl, hb3⟩
      have FIN := Lib.hid (below_over HB2.out hb3)
      clear hb3 CCC x0 x1 x2 x3 x4 x5 x6 y0 y1 y2 y3 y4 y5 y6
      go_wp2_with fail
      go_ret
      exact ⟨rfl, FIN.out⟩
  ·have k1 : (a.kind != b.kind) = true := by simpa using hk
   have k1' : (a.kind == b.kind) = false := by simpa using hk
   have RES : Hid (subB a b = false) := Lib.hid (subB_no.2 (fun h => hk (Le.kind (up := true) h)))
   clear hk
   go_wp2_with fail
   go_ret
   exact ⟨by rw [RES.out]; try rfl, HB2.out⟩
noncomputable def subP (a b : Ty) : Bool := (mayT a && plainT a) && (mayT b && plainT b) && subB a b
set_option maxRecDepth 100000 in
set_option maxHeartbeats 8000000 in
theorem subC_any9 (a b : Ty) (la lb : List Value) (w : World) (h9a : mayT a = true → many a ≤ 9000) (h9b : mayT b = true → many b ≤ 9000) (hTa : TyAt w la a) (hTb : TyAt w lb b) :
  Calls Try.prog 11 #[.agg la.toArray, .agg lb.toArray] w fun e w' => e = .returned (.bool (subP a b)) ∧ Below w.heap.size w w' := by
 have HTa := Lib.hid hTa
 have HTb := Lib.hid hTb
 obtain ⟨An, cA, As, cS, rfl, -⟩ := hTa.parts
 obtain ⟨Bn, cB, Bs, cD, rfl, -⟩ := hTb.parts
 obtain ⟨W2, hW2, B2, O0, O1, hl2⟩ := two_boxes w #[.int .i64 a.kind, .string a.pkg, .int .i64 a.major, .string a.mod, .string a.name, .slice An a.names.length cA, .slice As a.subs.length cS] #[.int .i64 b.kind, .string b.pkg, .int .i64 b.major, .string b.mod, .string b.name, .slice Bn b.names.length cB, .slice Bs b.subs.length cD] 25 25
 have HB2 := Lib.hid B2
 have HX0 : Hid (∀ wx, Below W2.heap.size W2 wx → wx.heap[w.heap.size]? = some (.cells #[.int .i64 a.kind, .string a.pkg, .int .i64 a.major, .string a.mod, .string a.name, .slice An a.names.length cA, .slice As a.subs.length cS] 25 (0, 0))) := Lib.hid (fun wx hb => (hb.block _ (by omega)).trans O0)
 have HX1 : Hid (∀ wx, Below W2.heap.size W2 wx → wx.heap[w.heap.size + 1]? = some (.cells #[.int .i64 b.kind, .string b.pkg, .int .i64 b.major, .string b.mod, .string b.name, .slice Bn b.names.length cB, .slice Bs b.subs.length cD] 25 (0, 0))) := Lib.hid (fun wx hb => (hb.block _ (by omega)).trans O1)
 have HAW : Hid (∀ wx, Below W2.heap.size W2 wx → TyAt wx [.int .i64 a.kind, .string a.pkg, .int .i64 a.major, .string a.mod, .string a.name, .slice An a.names.length cA, .slice As a.subs.length cS] a) := Lib.hid (fun wx hb => HTa.out.keep (below_over HB2.out hb))
 have HBW : Hid (∀ wx, Below W2.heap.size W2 wx → TyAt wx [.int .i64 b.kind, .string b.pkg, .int .i64 b.major, .string b.mod, .string b.name, .slice Bn b.names.length cB, .slice Bs b.subs.length cD] b) := Lib.hid (fun wx hb => HTb.out.keep (below_over HB2.out hb))
 have HW := Lib.hid hW2
 have H9 := Lib.hid (And.intro h9a h9b)
 obtain ⟨p, hp⟩ : ∃ p, p = (mayT a && plainT a) := ⟨_, rfl⟩
 obtain ⟨q, hq⟩ : ∃ q, q = (mayT b && plainT b) := ⟨_, rfl⟩
 have HP := Lib.hid hp
 have HQ := Lib.hid hq
 have CA := Lib.hid (plainK_any a (.agg #[.int .i64 a.kind, .string a.pkg, .int .i64 a.major, .string a.mod, .string a.name, .slice An a.names.length cA, .slice As a.subs.length cS]) W2 ⟨_, rfl, HAW.out W2 (Below.refl _ _)⟩)
 rw [← hp] at CA
 have HSP : Hid (subP a b = (p && q && subB a b)) := Lib.hid (by unfold subP; rw [hp, hq])
 have X0 := HX0.out W2 (Below.refl _ _)
 have x0 := Lib.cell_of_heap X0 0
 have x1 := Lib.cell_of_heap X0 1
 have x2 := Lib.cell_of_heap X0 2
 have x3 := Lib.cell_of_heap X0 3
 have x4 := Lib.cell_of_heap X0 4
 have x5 := Lib.cell_of_heap X0 5
 have x6 := Lib.cell_of_heap X0 6
 simp at x0 x1 x2 x3 x4 x5 x6
 clear hW2 B2 O0 O1 hTa hTb hp hq X0 h9a h9b
 go_enter Try.func11, Try.ntmps11
 go_upto_region 1 with fail
 rw [← HW.out]
 clear HW
 go_wp2_with fail
 refine CA.out.mono ?_; rintro e w3 ⟨rfl, hb3⟩
 have HB3 := Lib.hid hb3
 clear x0 x1 x2 x3 x4 x5 x6 hb3 CA
 cases p with
 | false =>
  go_wp2_with fail
  go_ret
  exact ⟨by rw [HSP.out]; rfl, below_over HB2.out HB3.out⟩
 | true =>
  have CB := Lib.hid (plainK_any b (.agg #[.int .i64 b.kind, .string b.pkg, .int .i64 b.major, .string b.mod, .string b.name, .slice Bn b.names.length cB, .slice Bs b.subs.length cD]) w3 ⟨_, rfl, HBW.out w3 HB3.out⟩)
  rw [← HQ.out] at CB
  have X1 := HX1.out w3 HB3.out
  have x0 := Lib.cell_of_heap X1 0
  have x1 := Lib.cell_of_heap X1 1
  have x2 := Lib.cell_of_heap X1 2
  have x3 := Lib.cell_of_heap X1 3
  have x4 := Lib.cell_of_heap X1 4
  have x5 := Lib.cell_of_heap X1 5
  have x6 := Lib.cell_of_heap X1 6
  simp at x0 x1 x2 x3 x4 x5 x6
  clear X1
  go_wp2_with fail
  refine CB.out.mono ?_; rintro e w4 ⟨rfl, hb4⟩
  have HB4 := Lib.hid (below_over HB3.out hb4)
  clear x0 x1 x2 x3 x4 x5 x6 hb4 CB
  cases q with
  | false =>
   go_wp2_with fail
   go_ret
   exact ⟨by rw [HSP.out]; rfl, below_over HB2.out HB4.out⟩
  | true =>
   have hpa := HP.out.symm
   have hqb := HQ.out.symm
   rw [Bool.and_eq_true] at hpa hqb
   have CC := Lib.hid (standsB_any _ a b (Nat.le_refl _) (H9.out.1 hpa.1) (H9.out.2 hqb.1) (good_of_may hpa.1 hpa.2) (good_of_may hqb.1 hqb.2) _ _ w4 (HAW.out w4 HB4.out) (HBW.out w4 HB4.out))
   have X0 := HX0.out w4 HB4.out
   have X1 := HX1.out w4 HB4.out
   have x0 := Lib.cell_of_heap X0 0
   have x1 := Lib.cell_of_heap X0 1
   have x2 := Lib.cell_of_heap X0 2
   have x3 := Lib.cell_of_heap X0 3
   have x4 := Lib.cell_of_heap X0 4
   have x5 := Lib.cell_of_heap X0 5
   have x6 := Lib.cell_of_heap X0 6
   have y0 := Lib.cell_of_heap X1 0
   have y1 := Lib.cell_of_heap X1 1
   have y2 := Lib.cell_of_heap X1 2
   have y3 := Lib.cell_of_heap X1 3
   have y4 := Lib.cell_of_heap X1 4
   have y5 := Lib.cell_of_heap X1 5
   have y6 := Lib.cell_of_heap X1 6
   simp at x0 x1 x2 x3 x4 x5 x6 y0 y1 y2 y3 y4 y5 y6
   clear X0 X1 hpa hqb
   go_wp2_with fail
   refine CC.out.mono ?_; rintro e w5 ⟨rfl, hb5⟩
   have FIN := Lib.hid (below_over HB2.out (below_over HB4.out hb5))
   clear x0 x1 x2 x3 x4 x5 x6 y0 y1 y2 y3 y4 y5 y6 hb5 CC
   go_wp2_with fail
   go_ret
   exact ⟨by rw [HSP.out]; rfl, FIN.out⟩
end Go.Proofs.Ytcdmgcgjonndpaa

/-  -/
namespace Go.Proofs.Ytcdmgcgjonndpaa
open Go Go.RowKit Go.Shelf
open Go.Sort
open M
def PtOut0 (w0 : World) (t : Ty) (s : ByteArray) (w : World) (e : Ending) (w' : World) : Prop :=
  ∃ (l : List Value) (b : Bool), e = .returned (.tuple #[.agg l.toArray, .bool b]) ∧ Below w.heap.size w w' ∧ ((b = true ∧ ∃ x, AtN t s x ∧ TyAt w0 l x) ∨ (b = false ∧ l = [.int .i64 0, .string ⟨#[]⟩, .int .i64 0, .string ⟨#[]⟩, .string ⟨#[]⟩, .slice none 0 0, .slice none 0 0] ∧ ∀ y, ¬ AtN t s y))
def BdOut (w0 : World) (up : Bool) (x y : Ty) (w : World) (e : Ending) (w' : World) : Prop :=
  ∃ (l : List Value) (b : Bool), e = .returned (.tuple #[.agg l.toArray, .bool b]) ∧ Below w.heap.size w w' ∧
    ((b = true ∧ ∃ t, IsBnd up x y t ∧ TyAt (strike (fun k => w0.heap.size ≤ k ∧ k < w.heap.size) w') l t) ∨ (b = false ∧ l = [.int .i64 0, .string ⟨#[]⟩, .int .i64 0, .string ⟨#[]⟩, .string ⟨#[]⟩, .slice none 0 0, .slice none 0 0] ∧ NoBnd up x y))
theorem BdOut.zero {w0 w wk : World} {up : Bool} {x y : Ty} {b : Nat} (hb : Below w.heap.size w wk) (hle : w.heap.size ≤ b) (h : NoBnd up x y) : BdOut w0 up x y w (.returned (.tuple #[.agg #[.int .i64 0, .string ⟨#[]⟩, .int .i64 0, .string ⟨#[]⟩, .string ⟨#[]⟩, .slice none 0 0, .slice none 0 0], .bool false])) (wk.setRow b #[.int .i64 0, .string ⟨#[]⟩, .int .i64 0, .string ⟨#[]⟩, .string ⟨#[]⟩, .slice none 0 0, .slice none 0 0]) :=
  ⟨[.int .i64 0, .string ⟨#[]⟩, .int .i64 0, .string ⟨#[]⟩, .string ⟨#[]⟩, .slice none 0 0, .slice none 0 0], false, rfl, setRow_below hb hle _, .inr ⟨rfl, rfl, h⟩⟩
theorem TyAt.base {w0 w : World} {l : List Value} {t : Ty} {S : Nat → Prop} (h : TyAt w0 l t) (hb : Below w0.heap.size w0 w) (hS : ∀ k, S k → w0.heap.size ≤ k) : TyAt (strike S w) l t :=
  (h.cells (w' := strike S w) (by rw [strike_size]; exact hb.size) fun b o x hx => by
    have hlt := World.block_lt_of_cell? _ _ hx
    exact strike_cell.2 ⟨fun e => by have := hS b e; have : b < w0.heap.size := hlt; omega, (hb.cell (p := ⟨b, o, none⟩) hlt).trans hx⟩)
set_option maxRecDepth 100000 in
set_option maxHeartbeats 8000000 in
theorem part0_any (w0 : World) (t : Ty) (lt : List Value) (s : ByteArray) (w : World) (hT : TyAt w0 lt t) (hw0 : Below w0.heap.size w0 w) (hr : Rising t.names) (hl : t.subs.length = t.names.length) (hz : t.names.length ≤ 1000000) :
    Calls Try.prog 47 #[.agg lt.toArray, .string s] w (PtOut0 w0 t s w) := by
  have HT := Lib.hid hT
  obtain ⟨An, cA, As, cS, rfl, -, -, -, -, -, hNA, hSu⟩ := hT.parts
  obtain ⟨W2, hW2, B2, O0, O1, hl2⟩ := two_boxes w #[.int .i64 t.kind, .string t.pkg, .int .i64 t.major, .string t.mod, .string t.name, .slice An t.names.length cA, .slice As t.subs.length cS] #[.int .i64 0, .string ⟨#[]⟩, .int .i64 0, .string ⟨#[]⟩, .string ⟨#[]⟩, .slice none 0 0, .slice none 0 0] 25 25
  have HB2 := Lib.hid B2
  have HX0 : Hid (∀ wx, Below W2.heap.size W2 wx → wx.heap[w.heap.size]? = some (.cells #[.int .i64 t.kind, .string t.pkg, .int .i64 t.major, .string t.mod, .string t.name, .slice An t.names.length cA, .slice As t.subs.length cS] 25 (0, 0))) := Lib.hid (fun wx hb => (hb.block _ (by omega)).trans O0)
  have HX1 : Hid (∀ wx, Below W2.heap.size W2 wx → wx.heap[w.heap.size + 1]? = some (.cells #[.int .i64 0, .string ⟨#[]⟩, .int .i64 0, .string ⟨#[]⟩, .string ⟨#[]⟩, .slice none 0 0, .slice none 0 0] 25 (0, 0))) := Lib.hid (fun wx hb => (hb.block _ (by omega)).trans O1)
  have HSU := Lib.hid hSu
  have HR := Lib.hid hr
  have HLL := Lib.hid hl
  have HW := Lib.hid hW2
  have CS := Lib.hid (search_any An t.names.length cA t.names s W2 rfl (by omega) (fun i x hx => by
    obtain ⟨g, o, hA, hg, hc, hz⟩ := hNA i x hx
    have hbb := below_over hw0 B2
    exact ⟨g, o, hA, Nat.lt_of_lt_of_le hg hbb.size, (hbb.cell (p := ⟨g, _, none⟩) hg).trans hc, hz⟩) hr)
  have HW0 := Lib.hid hw0
  have X0 := HX0.out W2 (Below.refl _ _)
  have x5 := Lib.cell_of_heap X0 5
  simp at x5
  clear hW2 B2 O0 O1 hT hNA hSu hr hl X0 hw0
  go_enter Try.func47, Try.ntmps47
  go_upto_region 1 with fail
  rw [← HW.out]
  clear HW
  go_wp2_with fail
  refine CS.out.mono ?_; rintro e w3 ⟨i, b, rfl, hb1, hb2, hb3⟩
  have HB3 := Lib.hid hb3
  have H1 := Lib.hid hb1
  have H2 := Lib.hid hb2
  have X1 := HX1.out w3 hb3
  have HX := Lib.hid X1
  clear x5 hb1 hb2 hb3 CS
  cases b with
  | false =>
    have FIN : Hid (PtOut0 w0 t s w (.returned (.tuple #[.agg #[.int .i64 0, .string ⟨#[]⟩, .int .i64 0, .string ⟨#[]⟩, .string ⟨#[]⟩, .slice none 0 0, .slice none 0 0], .bool false])) (w3.setRow (w.heap.size + 1) #[.int .i64 0, .string ⟨#[]⟩, .int .i64 0, .string ⟨#[]⟩, .string ⟨#[]⟩, .slice none 0 0, .slice none 0 0])) := Lib.hid
      ⟨[.int .i64 0, .string ⟨#[]⟩, .int .i64 0, .string ⟨#[]⟩, .string ⟨#[]⟩, .slice none 0 0, .slice none 0 0], false, rfl, setRow_below (below_over HB2.out HB3.out) (by omega) _, .inr ⟨rfl, rfl, fun y hy => by have := H1.out.2 hy.name; cases this⟩⟩
    go_upto_region 3 with fail
    go_wp2_with (first | ((with_reducible refine wpList_putRow 25 (w.heap.size + 1) #[.int .i64 0, .string ⟨#[]⟩, .int .i64 0, .string ⟨#[]⟩, .string ⟨#[]⟩, .slice none 0 0, .slice none 0 0] _ _ X1 ?_ ?_ ?_ ?_ ?_ ?_); exact tySize; rfl; exact tyOne; (focus (first | (go_simp; done) | rfl)); (focus (first | (go_simp; done) | rfl))))
    exact ret_agg (fn := Try.f47) (vs := [.int .i64 0, .string ⟨#[]⟩, .int .i64 0, .string ⟨#[]⟩, .string ⟨#[]⟩, .slice none 0 0, .slice none 0 0]) (b := w.heap.size + 1) rfl rfl rfl Try.underlying25 (by kernel_rfl) (cell7 (setRow_heap _ (w.heap.size + 1) _ _ _ _ HX.out)) rfl FIN.out
  | true =>
    have hi := H2.out rfl
    have hil := (List.getElem?_eq_some_iff.1 hi).1
    obtain ⟨x, hx⟩ : ∃ x, t.subs[i]? = some x := ⟨_, List.getElem?_eq_getElem (by rw [HLL.out]; exact hil)⟩
    obtain ⟨g, o, v0, v1, v2, v3, v4, v5, v6, rfl, hg, h0, h1, h2, h3, h4, h5, h6, hx7⟩ := HSU.out i x hx
    obtain ⟨Bn, cB, Bs, cD, rfl, rfl, rfl, rfl, rfl, rfl, rfl⟩ := hx7.seven
    have hbw := below_over HB2.out HB3.out
    have e := fun (q : Nat) (v : Value) (hv : w0.cell? ⟨g, q, none⟩ = some v) => ((below_over HW0.out hbw).cell (p := ⟨g, q, none⟩) hg).trans hv
    have k0 := e _ _ h0
    have k1 := e _ _ h1
    have k2 := e _ _ h2
    have k3 := e _ _ h3
    have k4 := e _ _ h4
    have k5 := e _ _ h5
    have k6 := e _ _ h6
    have X0 := HX0.out w3 HB3.out
    have y6 := Lib.cell_of_heap X0 6
    simp at y6
    have FIN : Hid (PtOut0 w0 t s w (.returned (.tuple #[.agg #[.int .i64 x.kind, .string x.pkg, .int .i64 x.major, .string x.mod, .string x.name, .slice Bn x.names.length cB, .slice Bs x.subs.length cD], .bool true])) (w3.setRow (w.heap.size + 1) #[.int .i64 x.kind, .string x.pkg, .int .i64 x.major, .string x.mod, .string x.name, .slice Bn x.names.length cB, .slice Bs x.subs.length cD])) := Lib.hid
      ⟨[.int .i64 x.kind, .string x.pkg, .int .i64 x.major, .string x.mod, .string x.name, .slice Bn x.names.length cB, .slice Bs x.subs.length cD], true, rfl, setRow_below hbw (by omega) _, .inl ⟨rfl, x, ⟨i, hi, hx⟩, hx7⟩⟩
    have hi0 : (0 : Int) ≤ i := by omega
    have hi1 : (i : Int) < t.subs.length := by have := HLL.out; omega
    clear hi hx hx7 h0 h1 h2 h3 h4 h5 h6 e hbw X0
    go_upto_region 4 with fail
    go_wp2_with (first | ((with_reducible refine wpList_putRow 25 (w.heap.size + 1) #[.int .i64 x.kind, .string x.pkg, .int .i64 x.major, .string x.mod, .string x.name, .slice Bn x.names.length cB, .slice Bs x.subs.length cD] _ _ X1 ?_ ?_ ?_ ?_ ?_ ?_); exact tySize; rfl; exact tyOne; (focus (first | (go_simp; done) | rfl)); (focus (first | (go_simp; done) | rfl))))
    exact ret_agg (fn := Try.f47) (vs := [.int .i64 x.kind, .string x.pkg, .int .i64 x.major, .string x.mod, .string x.name, .slice Bn x.names.length cB, .slice Bs x.subs.length cD]) (b := w.heap.size + 1) rfl rfl rfl Try.underlying25 (by kernel_rfl) (cell7 (setRow_heap _ (w.heap.size + 1) _ _ _ _ HX.out)) rfl FIN.out
set_option maxRecDepth 100000 in
set_option maxHeartbeats 8000000 in
theorem same9_any (w0 : World) (up : Bool) (a b : Ty) (la lb : List Value) (w : World) (ga : GoodT a) (gb : GoodT b) (hk : a.kind = b.kind) (h4 : a.kind ≠ 4) (h5 : a.kind ≠ 5) (h6 : a.kind ≠ 6) (h7 : a.kind ≠ 7) (hTa : TyAt w0 la a) (hTb : TyAt w0 lb b) (hw0 : Below w0.heap.size w0 w) :
    Calls Try.prog 54 #[.agg la.toArray, .agg lb.toArray] w (BdOut w0 up a b w) := by
  have HTa := Lib.hid hTa
  have HTb := Lib.hid hTb
  have HW0 := Lib.hid hw0
  obtain ⟨An, cA, As, cS, rfl, -⟩ := hTa.parts
  obtain ⟨Bn, cB, Bs, cD, rfl, -⟩ := hTb.parts
  obtain ⟨W2, hW2, B2, O0, O1, hl2⟩ := two_boxes w #[.int .i64 a.kind, .string a.pkg, .int .i64 a.major, .string a.mod, .string a.name, .slice An a.names.length cA, .slice As a.subs.length cS] #[.int .i64 b.kind, .string b.pkg, .int .i64 b.major, .string b.mod, .string b.name, .slice Bn b.names.length cB, .slice Bs b.subs.length cD] 25 25
  have s2 : W2.heap.size = w.heap.size + 1 + 1 := by rw [hW2]; simp
  obtain ⟨W3, hW3⟩ : ∃ W3, W3 = W2.alloc (.cells #[.int .i64 0, .string ⟨#[]⟩, .int .i64 0, .string ⟨#[]⟩, .string ⟨#[]⟩, .slice none 0 0, .slice none 0 0] 25) := ⟨_, rfl⟩
  have B3 : Below W2.heap.size W2 W3 := by rw [hW3]; exact below_new (Below.refl _ _) _
  have s3 : W3.heap.size = w.heap.size + 1 + 1 + 1 := by rw [hW3]; simp [s2]
  have O2 : W3.heap[w.heap.size + 1 + 1]? = some (.cells #[.int .i64 0, .string ⟨#[]⟩, .int .i64 0, .string ⟨#[]⟩, .string ⟨#[]⟩, .slice none 0 0, .slice none 0 0] 25 (0, 0)) := by rw [hW3, ← s2]; exact heap_alloc_new W2 _
  have HB3 : Hid (Below w.heap.size w W3) := Lib.hid (below_over B2 B3)
  have HX0 : Hid (∀ wx, Below W3.heap.size W3 wx → wx.heap[w.heap.size]? = some (.cells #[.int .i64 a.kind, .string a.pkg, .int .i64 a.major, .string a.mod, .string a.name, .slice An a.names.length cA, .slice As a.subs.length cS] 25 (0, 0))) := Lib.hid (fun wx hb => (hb.block _ (by omega)).trans ((B3.block _ (by omega)).trans O0))
  have HX1 : Hid (W3.heap[w.heap.size + 1]? = some (.cells #[.int .i64 b.kind, .string b.pkg, .int .i64 b.major, .string b.mod, .string b.name, .slice Bn b.names.length cB, .slice Bs b.subs.length cD] 25 (0, 0))) := Lib.hid ((B3.block _ (by omega)).trans O1)
  have HR : Hid (∀ wx, Below W3.heap.size W3 wx → wx.heap[w.heap.size + 1 + 1]? = some (.cells #[.int .i64 0, .string ⟨#[]⟩, .int .i64 0, .string ⟨#[]⟩, .string ⟨#[]⟩, .slice none 0 0, .slice none 0 0] 25 (0, 0))) := Lib.hid (fun wx hb => (hb.block _ (by omega)).trans O2)
  have HW : Hid (((w.alloc (.cells #[.int .i64 a.kind, .string a.pkg, .int .i64 a.major, .string a.mod, .string a.name, .slice An a.names.length cA, .slice As a.subs.length cS] 25)).alloc (.cells #[.int .i64 b.kind, .string b.pkg, .int .i64 b.major, .string b.mod, .string b.name, .slice Bn b.names.length cB, .slice Bs b.subs.length cD] 25)).alloc (.cells #[.int .i64 0, .string ⟨#[]⟩, .int .i64 0, .string ⟨#[]⟩, .string ⟨#[]⟩, .slice none 0 0, .slice none 0 0] 25) = W3) := Lib.hid (by rw [hW3, hW2])
  have hbl : w.heap.size ≤ w.heap.size + 1 + 1 := by omega
  have CC := sameK_any a b (.agg #[.int .i64 a.kind, .string a.pkg, .int .i64 a.major, .string a.mod, .string a.name, .slice An a.names.length cA, .slice As a.subs.length cS]) (.agg #[.int .i64 b.kind, .string b.pkg, .int .i64 b.major, .string b.mod, .string b.name, .slice Bn b.names.length cB, .slice Bs b.subs.length cD]) W3 ⟨_, rfl, HTa.out.keep (below_over hw0 HB3.out)⟩ ⟨_, rfl, HTb.out.keep (below_over hw0 HB3.out)⟩
  rw [leaf_may ga h4 h5 h6 h7, leaf_may gb (by rw [← hk]; exact h4) (by rw [← hk]; exact h5) (by rw [← hk]; exact h6) (by rw [← hk]; exact h7)] at CC
  obtain ⟨q, hq⟩ : ∃ q, q = sameT a b := ⟨_, rfl⟩
  rw [Bool.and_self, Bool.true_and, ← hq] at CC
  have HC := Lib.hid CC
  have HYES : Hid (q = true → IsBnd up a b a) := Lib.hid (fun h => bnd_leaf h4 h5 h6 h7 ga ((sameT_iff a b).1 (hq.symm.trans h)))
  have HNO : Hid (q = false → NoBnd up a b) := Lib.hid (fun h => no_leaf h4 h5 h6 h7 (fun e => by have := (sameT_iff a b).2 e; rw [← hq, h] at this; cases this))
  have X0 := HX0.out W3 (Below.refl _ _)
  have X1 := HX1.out
  have x0 := Lib.cell_of_heap X0 0
  have x1 := Lib.cell_of_heap X0 1
  have x2 := Lib.cell_of_heap X0 2
  have x3 := Lib.cell_of_heap X0 3
  have x4 := Lib.cell_of_heap X0 4
  have x5 := Lib.cell_of_heap X0 5
  have x6 := Lib.cell_of_heap X0 6
  have y0 := Lib.cell_of_heap X1 0
  have y1 := Lib.cell_of_heap X1 1
  have y2 := Lib.cell_of_heap X1 2
  have y3 := Lib.cell_of_heap X1 3
  have y4 := Lib.cell_of_heap X1 4
  have y5 := Lib.cell_of_heap X1 5
  have y6 := Lib.cell_of_heap X1 6
  simp at x0 x1 x2 x3 x4 x5 x6 y0 y1 y2 y3 y4 y5 y6
  clear hW2 hW3 B2 B3 O0 O1 O2 s2 s3 hl2 hTa hTb ga gb hk h4 h5 h6 h7 CC hq hw0 X0 X1
  go_enter Try.func54, Try.ntmps54
  go_upto_region 1 with fail
  rw [HW.out]
  clear HW
  go_wp2_with fail
  refine HC.out.mono ?_; rintro e w4 ⟨rfl, hb4⟩
  have HB4 := Lib.hid hb4
  have X7 := HR.out w4 hb4
  have HX7 := Lib.hid X7
  have X0 := HX0.out w4 hb4
  clear x0 x1 x2 x3 x4 x5 x6 y0 y1 y2 y3 y4 y5 y6 hb4 HC
  have x0 := Lib.cell_of_heap X0 0
  have x1 := Lib.cell_of_heap X0 1
  have x2 := Lib.cell_of_heap X0 2
  have x3 := Lib.cell_of_heap X0 3
  have x4 := Lib.cell_of_heap X0 4
  have x5 := Lib.cell_of_heap X0 5
  have x6 := Lib.cell_of_heap X0 6
  simp at x0 x1 x2 x3 x4 x5 x6
  clear X0
  cases q with
  | false =>
    have FIN := Lib.hid (BdOut.zero (w0 := w0) (below_over HB3.out HB4.out) hbl (HNO.out rfl))
    go_upto_region 2 with fail
    go_wp2_with (first | ((with_reducible refine wpList_putRow 25 (w.heap.size + 1 + 1) #[.int .i64 0, .string ⟨#[]⟩, .int .i64 0, .string ⟨#[]⟩, .string ⟨#[]⟩, .slice none 0 0, .slice none 0 0] _ _ X7 ?_ ?_ ?_ ?_ ?_ ?_); exact tySize; rfl; exact tyOne; (focus (first | (go_simp; done) | rfl)); (focus (first | (go_simp; done) | rfl))))
    exact ret_agg (fn := Try.f54) (vs := [.int .i64 0, .string ⟨#[]⟩, .int .i64 0, .string ⟨#[]⟩, .string ⟨#[]⟩, .slice none 0 0, .slice none 0 0]) (b := w.heap.size + 1 + 1) rfl rfl rfl Try.underlying25 (by kernel_rfl) (cell7 (setRow_heap _ (w.heap.size + 1 + 1) _ _ _ _ HX7.out)) rfl FIN.out
  | true =>
    have FIN : Hid (BdOut w0 up a b w (.returned (.tuple #[.agg #[.int .i64 a.kind, .string a.pkg, .int .i64 a.major, .string a.mod, .string a.name, .slice An a.names.length cA, .slice As a.subs.length cS], .bool true])) (w4.setRow (w.heap.size + 1 + 1) #[.int .i64 a.kind, .string a.pkg, .int .i64 a.major, .string a.mod, .string a.name, .slice An a.names.length cA, .slice As a.subs.length cS])) := Lib.hid
      ⟨[.int .i64 a.kind, .string a.pkg, .int .i64 a.major, .string a.mod, .string a.name, .slice An a.names.length cA, .slice As a.subs.length cS], true, rfl, setRow_below (below_over HB3.out HB4.out) hbl _, .inl ⟨rfl, a, HYES.out rfl, HTa.out.base (below_over HW0.out (setRow_below (below_over HB3.out HB4.out) hbl _)) (fun k hk => hk.1)⟩⟩
    go_upto_region 3 with fail
    go_wp2_with (first | ((with_reducible refine wpList_putRow 25 (w.heap.size + 1 + 1) #[.int .i64 a.kind, .string a.pkg, .int .i64 a.major, .string a.mod, .string a.name, .slice An a.names.length cA, .slice As a.subs.length cS] _ _ X7 ?_ ?_ ?_ ?_ ?_ ?_); exact tySize; rfl; exact tyOne; (focus (first | (go_simp; done) | rfl)); (focus (first | (go_simp; done) | rfl))))
    exact ret_agg (fn := Try.f54) (vs := [.int .i64 a.kind, .string a.pkg, .int .i64 a.major, .string a.mod, .string a.name, .slice An a.names.length cA, .slice As a.subs.length cS]) (b := w.heap.size + 1 + 1) rfl rfl rfl Try.underlying25 (by kernel_rfl) (cell7 (setRow_heap _ (w.heap.size + 1 + 1) _ _ _ _ HX7.out)) rfl FIN.out
end Go.Proofs.Ytcdmgcgjonndpaa

/-  -/
namespace Go.Proofs.Ytcdmgcgjonndpaa
open Go Go.RowKit Go.Shelf
open Go.Sort Go.Maps
open M
def tR : Reads Ty := ⟨7, 25, TyAt, fun _ _ _ _ _ _ h hz hb => h.move hz hb, fun _ _ _ _ h hb => h.keep hb, fun _ _ _ _ h => h.free, fun _ _ _ h => h.len⟩
def stE (_ : World) (l : List Value) (s : ByteArray) : Prop := l = [.string s] ∧ s.size ≤ 9223372036854775807
def stR : Reads ByteArray := ⟨1, 9, stE, fun _ _ _ _ _ _ h _ _ => h, fun _ _ _ _ h _ => h, fun _ _ _ _ h => h, fun _ l x h => by rw [h.1]; rfl⟩
theorem SubsAt.row {w : World} {A : Option Addr} {l : List Ty} (h : SubsAt w A l) : RowIn tR w A l := fun i t ht => by
  obtain ⟨g, o, v0, v1, v2, v3, v4, v5, v6, hA, hg, h0, h1, h2, h3, h4, h5, h6, hT⟩ := h i t ht
  refine ⟨g, o, [v0, v1, v2, v3, v4, v5, v6], hA, hg, fun j v hv => ?_, hT⟩
  have hj := (List.getElem?_eq_some_iff.1 hv).1
  simp at hj
  match j, hv with
  | 0, hv => simp at hv; subst hv; exact h0
  | 1, hv => simp at hv; subst hv; exact h1
  | 2, hv => simp at hv; subst hv; exact h2
  | 3, hv => simp at hv; subst hv; exact h3
  | 4, hv => simp at hv; subst hv; exact h4
  | 5, hv => simp at hv; subst hv; exact h5
  | 6, hv => simp at hv; subst hv; exact h6
  | j + 7, _ => omega
theorem NamesAt.row {w : World} {A : Option Addr} {l : List ByteArray} (h : NamesAt w A l) : RowIn stR w A l := fun i s hs => by
  obtain ⟨g, o, hA, hg, hc, hz⟩ := h i s hs
  refine ⟨g, o, [.string s], hA, hg, fun j v hv => ?_, rfl, hz⟩
  cases j with
  | zero =>
    simp at hv; subst hv
    show w.cell? ⟨g, o + i * 1 + 0, none⟩ = _
    rw [show o + i * 1 + 0 = o + i by omega]; exact hc
  | succ j => simp at hv
theorem RowIn.names {w : World} {A : Option Addr} {l : List ByteArray} (h : RowIn stR w A l) : NamesAt w A l := fun i s hs => by
  obtain ⟨g, o, l, hA, hg, hc, rfl, hz⟩ := h i s hs
  refine ⟨g, o, hA, hg, ?_, hz⟩
  have := hc 0 _ rfl
  rw [show o + i * stR.k + 0 = o + i by show o + i * 1 + 0 = o + i; omega] at this
  exact this
theorem RowIn.none_nil {α : Type} {R : Reads α} {w : World} {xs : List α} (h : RowIn R w none xs) : xs = [] := by
  cases xs with
  | nil => rfl
  | cons x r => obtain ⟨g, o, l, e, -⟩ := h 0 x rfl; cases e
theorem ty_made {w : World} {t : Ty} {An As : Option Addr} {cn cs : Nat} (hp : t.pkg.size ≤ 9223372036854775807) (hm : t.mod.size ≤ 9223372036854775807) (hn : t.name.size ≤ 9223372036854775807) (hln : t.names.length ≤ 9223372036854775807) (hls : t.subs.length ≤ 9223372036854775807) (hcs : t.subs.length ≤ cs)
    (hN : NamesAt w An t.names) (hS : RowIn tR w As t.subs) : TyAt w [.int .i64 t.kind, .string t.pkg, .int .i64 t.major, .string t.mod, .string t.name, .slice An t.names.length cn, .slice As t.subs.length cs] t := by
  have hall : ∀ i : Nat, ∃ l : List Value, l.length = 7 ∧ ∀ s, t.subs[i]? = some s → TyAt w l s ∧ ∃ g o, As = some ⟨g, o, none⟩ ∧ g < w.heap.size ∧ ∀ j v, l[j]? = some v → w.cell? ⟨g, o + i * 7 + j, none⟩ = some v := fun i => by
    cases hs : t.subs[i]? with
    | none => exact ⟨[.int .i64 0, .string ⟨#[]⟩, .int .i64 0, .string ⟨#[]⟩, .string ⟨#[]⟩, .slice none 0 0, .slice none 0 0], rfl, fun s h => by cases h⟩
    | some s =>
      obtain ⟨g, o, l, hA, hg, hc, hE⟩ := hS i s hs
      refine ⟨l, hE.len, fun s' h => ?_⟩
      cases h
      exact ⟨hE, g, o, hA, hg, hc⟩
  obtain ⟨C, hC⟩ := Classical.axiomOfChoice hall
  have hd : t = .mk t.kind t.pkg t.major t.mod t.name t.names t.subs := by cases t; rfl
  rw [show TyAt w [.int .i64 t.kind, .string t.pkg, .int .i64 t.major, .string t.mod, .string t.name, .slice An t.names.length cn, .slice As t.subs.length cs] t = TyAt w [.int .i64 t.kind, .string t.pkg, .int .i64 t.major, .string t.mod, .string t.name, .slice An t.names.length cn, .slice As t.subs.length cs] (.mk t.kind t.pkg t.major t.mod t.name t.names t.subs) by rw [← hd]]
  exact .mk t.kind t.pkg t.major t.mod t.name t.names t.subs An cn As cs C hp hm hn hln hls hcs hN (fun i => (hC i).1) (fun i s hs => ((hC i).2 s hs).2) (fun i s hs => ((hC i).2 s hs).1)
structure Fill {α : Type} (R : Reads α) (lo g : Nat) (xs : List α) (j : Nat) (w : World) : Prop where
  hlo : lo ≤ g
  hg : g < w.heap.size
  there : w.there g 0 (xs.length * R.k)
  rows : ∀ i x, i < j → xs[i]? = some x → ∃ l : List Value, (∀ q v, l[q]? = some v → w.cell? ⟨g, i * R.k + q, none⟩ = some v) ∧ R.E (strike (fun b => b < lo ∨ b = g) w) l x
theorem Fill.start {α : Type} (R : Reads α) {lo : Nat} {w : World} (hlo : lo ≤ w.heap.size) (cells : Array Value) (T : TypeId) (xs : List α) (hs : cells.size = xs.length * R.k) : Fill R lo w.heap.size xs 0 (w.alloc (.cells cells T)) := by
  have hb : (w.alloc (.cells cells T)).heap[w.heap.size]? = some (.cells cells T (0, 0)) := heap_alloc_new w _
  refine ⟨hlo, by simp, fun j hj => ⟨?_, ?_⟩, fun i x hi => by omega⟩
  · rw [Lib.cell_of_heap hb, Nat.zero_add, Array.getElem?_eq_getElem (by omega)]; rfl
  · exact Lib.frozen_of_heap hb _
theorem Fill.keep {α : Type} {R : Reads α} {lo g j : Nat} {xs : List α} {w w' : World} (h : Fill R lo g xs j w) (hz : w.heap.size ≤ w'.heap.size) (hb : ∀ b, lo ≤ b → b < w.heap.size → w'.heap[b]? = w.heap[b]?) : Fill R lo g xs j w' := by
  have eg := hb g h.hlo h.hg
  refine ⟨h.hlo, Nat.lt_of_lt_of_le h.hg hz, fun q hq => ?_, fun i x hi hx => ?_⟩
  · have := h.there q hq
    rw [World.cell?_of_block (w := w) (w' := w') (a := ⟨g, 0 + q, none⟩) eg]
    refine ⟨this.1, ?_⟩
    have e2 : w'.frozen? ⟨g, 0 + q, none⟩ = w.frozen? ⟨g, 0 + q, none⟩ := by simp only [World.frozen?]; rw [eg]
    rw [e2]; exact this.2
  · obtain ⟨l, hc, hE⟩ := h.rows i x hi hx
    exact ⟨l, fun q v hv => (World.cell?_of_block (w := w) (w' := w') (a := ⟨g, _, none⟩) eg).trans (hc q v hv), R.move _ _ _ _ _ _ hE hz fun b hlt hS => ⟨hS, hb b (by
      rcases Nat.lt_or_ge b lo with c | c
      · exact absurd (.inl c) hS
      · exact c) hlt⟩⟩
theorem Fill.at {α : Type} {R : Reads α} {lo g j m : Nat} {xs : List α} {w : World} (h : Fill R lo g xs j w) (hj : j < xs.length) (hm : m = R.k) : w.there g (j * R.k) m := fun q hq => by
  have h1 : (j + 1) * R.k ≤ xs.length * R.k := Nat.mul_le_mul_right _ hj
  rw [Nat.succ_mul] at h1
  have := h.there (j * R.k + q) (by omega)
  rw [Nat.zero_add] at this
  exact this
theorem Fill.put {α : Type} {R : Reads α} {lo g j B : Nat} {xs : List α} {w : World} {l : List Value} {x : α} (h : Fill R lo g xs j w) (hx : xs[j]? = some x) (hE : R.E (strike (· < B) w) l x) (hB : g < B) : Fill R lo g xs (j + 1) (w.setCells g (j * R.k) l) := by
  have hlen := R.len _ _ _ hE
  have hj := (List.getElem?_eq_some_iff.1 hx).1
  have hat := h.at hj hlen
  have ot : ∀ b, b < w.heap.size → b ≠ g → (w.setCells g (j * R.k) l).heap[b]? = w.heap[b]? := fun b hb hne => World.heap_setCells_other w g (j * R.k) l hb hne
  have hsz : (w.setCells g (j * R.k) l).heap.size = w.heap.size := size_setCells g l _ w
  refine ⟨h.hlo, by rw [hsz]; exact h.hg, World.there_setCells h.there _ _ _, fun i y hi hy => ?_⟩
  rcases Nat.lt_or_ge i j with c | c
  · obtain ⟨l', hc, hE'⟩ := h.rows i y c hy
    have hl' := R.len _ _ _ hE'
    refine ⟨l', fun q v hv => ?_, R.move _ _ _ _ _ _ hE' (by rw [hsz]; exact Nat.le_refl _) fun b hb hS => ⟨hS, ot b hb fun e => hS (.inr e)⟩⟩
    have hq := (List.getElem?_eq_some_iff.1 hv).1
    rw [World.cell?_setCells_out]
    · exact hc q v hv
    · intro _ _
      have h1 : (i + 1) * R.k ≤ j * R.k := Nat.mul_le_mul_right _ c
      rw [Nat.succ_mul] at h1
      exact .inl (by show i * R.k + q < j * R.k; omega)
  · obtain rfl : i = j := by omega
    rw [hx] at hy
    cases hy
    refine ⟨l, fun q v hv => ?_, R.move _ _ _ _ _ _ hE (by rw [hsz]; exact Nat.le_refl _) fun b hb hS => ⟨?_, ot b hb (by omega)⟩⟩
    · have hq := (List.getElem?_eq_some_iff.1 hv).1
      rw [World.cell?_setCells_in g l (i * R.k) w (fun q hq => (hat q hq).1) q hq]
      rw [← hv, List.getElem?_eq_getElem hq]
    · have := h.hlo
      omega
theorem Fill.done {α : Type} {R : Reads α} {lo g j m : Nat} {xs : List α} {w : World} (h : Fill R lo g xs j w) (hj : xs.length ≤ j) (hm : m ≤ lo) : RowIn R (strike (· < m) w) (some ⟨g, 0, none⟩) xs := fun i x hx => by
  have hi := (List.getElem?_eq_some_iff.1 hx).1
  obtain ⟨l, hc, hE⟩ := h.rows i x (by omega) hx
  have := h.hlo
  refine ⟨g, 0, l, rfl, by rw [strike_size]; exact h.hg, fun q v hv => strike_cell.2 ⟨by omega, ?_⟩, R.move _ _ _ _ _ _ hE (Nat.le_refl _) fun b _ hS => ⟨fun e => hS (.inl (by omega)), rfl⟩⟩
  rw [Nat.zero_add]; exact hc q v hv
theorem setCells_below {n : Nat} {w w' : World} (h : Below n w w') {g : Nat} (hg : n ≤ g) (o : Nat) (l : List Value) : Below n w (w'.setCells g o l) :=
  h.trans ⟨World.os_setCells _ _ _ _, by
    induction l generalizing o w' with
    | nil => rfl
    | cons v r ih => exact (ih (h.setCell hg v) (o + 1)).trans rfl, World.output_setCells _ _ _ _, by rw [size_setCells]; exact Nat.le_refl _, fun b hb => by
    rcases Nat.lt_or_ge b w'.heap.size with c | c
    · exact World.heap_setCells_other w' g o l c (by omega)
    · rw [Array.getElem?_eq_none c, Array.getElem?_eq_none (by rw [size_setCells]; exact c)]⟩
theorem cln_any (s : ByteArray) (w : World) (hs : s.size ≤ 281474976710656) : Calls Try.prog 62 #[.string s] w fun e w' => e = .returned (.string s) ∧ Below w.heap.size w w' := by
  go_enter Try.func62, Try.ntmps62
  go_wp2_with fail
  refine (Try.stringslite_Clone _ _ hs).mono ?_; rintro e w1 ⟨rfl, hb1⟩
  go_wp2_with fail
  go_ret
  exact ⟨rfl, hb1⟩
set_option maxRecDepth 100000 in
set_option maxHeartbeats 4000000 in
theorem listS_any (w0 w : World) (A : Option Addr) (n c : Nat) (xs : List ByteArray) (hn : xs.length = n) (hz : n ≤ 1000000) (hS : NamesAt w0 A xs) (hw : Below w0.heap.size w0 w) (hsz : ∀ s ∈ xs, s.size ≤ 281474976710656) :
    Calls Try.prog 63 #[.slice A n c, .func (.func 62) #[] #[]] w fun e w' => ∃ (A' : Option Addr) (c' : Nat), e = .returned (.slice A' n c') ∧ NamesAt (strike (· < w.heap.size) w') A' xs ∧ Below w.heap.size w w' := by
  have HN := Lib.hid hn
  have HS := Lib.hid hS
  have HW := Lib.hid hw
  have HSZ := Lib.hid hsz
  have EQ : ∀ wz : World, (binOp .eql 22 (.slice A n c) (.slice none 0 0)).run Try.prog wz = .ok (.bool A.isNone) wz := fun wz => Lib.run_eql_slice_nil wz _ _ _ _ _ _ _ Try.underlying22
  cases A with
  | none =>
    have h0 : xs = [] := hS.row.none_nil
    have hn0 : n = 0 := by rw [← hn, h0]; rfl
    have HX := Lib.hid h0
    subst hn0
    clear hS hn h0 hw hsz
    go_enter Try.func63, Try.ntmps63
    go_wp2_with fail
    go_ret
    exact ⟨_, _, rfl, fun i s h => by rw [HX.out] at h; simp at h, Below.refl _ _⟩
  | some ad =>
    obtain ⟨i0, hi, hz0, hz1, hz2⟩ := info_parts str_info
    obtain ⟨W1, hW1⟩ : ∃ W1, W1 = w.alloc (.cells (madeCells (Value.string ⟨#[]⟩).cells (n * 1)) 9) := ⟨_, rfl⟩
    have MS := run_make (P := Try.prog) w 22 9 i0 (.string ⟨#[]⟩) Try.underlying22 hi hz0 .i64 .i64 (n : Int) (n : Int) (by omega) (by omega) (by rw [hz2]; omega) (by omega)
    rw [hz1] at MS
    simp only [Int.toNat_natCast] at MS
    rw [← hW1] at MS
    have START : Hid (Fill stR w.heap.size w.heap.size xs 0 W1) := Lib.hid (by rw [hW1]; exact Fill.start stR (Nat.le_refl _) _ _ xs (by rw [size_madeCells, hn]; rfl))
    have HB1 : Hid (Below w.heap.size w W1) := Lib.hid (by rw [hW1]; exact below_new (Below.refl _ _) _)
    have EQ' : ∀ wz : World, (binOp .eql 22 (.slice (some ad) n c) (.slice none 0 0)).run Try.prog wz = .ok (.bool false) wz := EQ
    clear EQ hW1 hS hn hw hsz
    go_enter Try.func63, Try.ntmps63
    go_wp2_with fail
    go_loopw [15] (fun s15 wr => ∃ k : Nat, k ≤ n ∧ s15 = .int .i64 k ∧ Hid (Fill stR w.heap.size w.heap.size xs k wr) ∧ Hid (Below w.heap.size w wr)) (fun s15 _ => n - (intOf s15).toNat)
    case atStart => exact ⟨0, by omega, rfl, START, HB1⟩
    case round =>
      obtain ⟨k, hk, rfl, HF, HB⟩ := hrel
      obtain ⟨wo, rfl⟩ : ∃ wo : World, wo = wr := ⟨_, rfl⟩
      clear MS EQ' START HB1
      by_cases hlt : k < n
      · obtain ⟨s, hs⟩ : ∃ s, xs[k]? = some s := ⟨_, List.getElem?_eq_getElem (by rw [HN.out]; exact hlt)⟩
        obtain ⟨g, o, e1, hg, hc, -⟩ := HS.out k s hs
        obtain rfl := Option.some.inj e1
        have hc' := ((below_over HW.out HB.out).cell (p := ⟨g, _, none⟩) hg).trans hc
        have CL := Lib.hid (cln_any s wo (HSZ.out s (List.mem_of_getElem? hs)))
        have HSS := Lib.hid hs
        clear hs hc hg e1
        go_upto_region 7 with fail
        clear hc'
        go_wp2_with fail
        refine CL.out.mono ?_; rintro e w2 ⟨rfl, hb2⟩
        have hlw : w.heap.size < wo.heap.size := HF.out.hg
        have F2 := HF.out.keep hb2.size (fun b _ hb => hb2.block b hb)
        have HT := F2.at (m := 1) (by rw [HN.out]; exact hlt) rfl
        have t0 := (HT 0 (by omega)).1
        have f0 := (HT 0 (by omega)).2
        rw [show k * stR.k + 0 = k by show k * 1 + 0 = k; omega] at t0 f0
        obtain ⟨u0, t0⟩ := Option.isSome_iff_exists.1 t0
        have F3 : Hid (Fill stR w.heap.size w.heap.size xs (k + 1) (w2.setCell ⟨w.heap.size, k, none⟩ (.string s))) := Lib.hid (by
          have := F2.put HSS.out (l := [.string s]) (B := wo.heap.size) ⟨rfl, by have := HSZ.out s (List.mem_of_getElem? HSS.out); omega⟩ hlw
          rw [show k * stR.k = k by show k * 1 = k; omega] at this
          exact this)
        have B3 : Hid (Below w.heap.size w (w2.setCell ⟨w.heap.size, k, none⟩ (.string s))) := Lib.hid (below_put (below_over HB.out hb2) (Nat.le_refl _) _)
        clear F2 HT hb2 CL
        go_wp2_with fail
        go_roundw
        case rel => exact ⟨k + 1, by omega, by go_num, F3, B3⟩
        case measure => simp [intOf]; omega
      · have hkn : k = n := by omega
        have DONE := Lib.hid (HF.out.done (m := w.heap.size) (by rw [HN.out]; omega) (Nat.le_refl _))
        clear hkn
        go_wp2_with fail
        go_ret
        exact ⟨_, _, rfl, DONE.out.names, HB.out⟩
end Go.Proofs.Ytcdmgcgjonndpaa
