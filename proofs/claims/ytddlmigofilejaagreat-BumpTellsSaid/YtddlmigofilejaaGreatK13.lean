/-
  Several texts in one.
-/
import Derived.Test.YtddlmigofilejaaGreatK12
set_option maxRecDepth 100000
set_option maxHeartbeats 16000000
namespace Go.Proofs.YtddlmigofilejaaGreat
open Go Go.RowKit Go.Shelf
open Go.Sort
open M
theorem box1 (w : World) (cs : Array Value) (T : TypeId) : ∃ W, W = w.alloc (.cells cs T) /\ Below w.heap.size w W /\ W.heap[w.heap.size]? = some (.cells cs T (0, 0)) /\ W.heap.size = w.heap.size + 1 :=
  ⟨_, rfl, below_new (Below.refl _ _) _, heap_alloc_new w _, by simp⟩
theorem may10_any (x : If) (lx : List Value) (w : World) (hx : ifE w lx x) :
    Calls Tryz.prog 24 #[.agg lx.toArray] w fun e w' => e = .returned (.bool (mayIf x)) /\ Below w.heap.size w w' := by
  obtain ⟨At, ct, Av, cv, rfl, z1, z2, z3, z4, hT, hV⟩ := hx;obtain ⟨W, hW, B, X, sW⟩ := box1 w #[.string x.pkg, .int .i64 x.major, .string x.mod, .slice At x.types.length ct, .slice Av x.vals.length cv] 44;have HT := hZ hT;have HV := hZ hV;have HB := hZ B;have HW := hZ hW;have HX : Hid (∀ wx, Below W.heap.size W wx -> wx.heap[w.heap.size]? = some (.cells #[.string x.pkg, .int .i64 x.major, .string x.mod, .slice At x.types.length ct, .slice Av x.vals.length cv] 44 (0, 0))) := hZ (fun wx hb => (hb.block _ (by omega)).trans X);obtain ⟨q1, hq1⟩ : ∃ q, q = mayT (opT x.pkg x.major x.mod ⟨#[84]⟩) := ⟨_, rfl⟩;obtain ⟨q2, hq2⟩ : ∃ q, q = risesN true x.types := ⟨_, rfl⟩;obtain ⟨q3, hq3⟩ : ∃ q, q = risesN false x.vals := ⟨_, rfl⟩;have e : mayIf x = (q1 && (q2 && q3)) := by rw [hq1, hq2, hq3]; rfl
  rw [e];have C1 := hZ (fun w' => mayK_any _ _ w' (opV x.pkg x.major x.mod ⟨#[84]⟩ w' z1 z2 (by decide)));have C2 := hZ (fun w' (hb : Below w.heap.size w w') => rising10_great At ct x.types w' (HT.out.below hb) z3);have C3 := hZ (fun w' (hb : Below w.heap.size w w') => rising10_small Av cv x.vals w' (HV.out.below hb) z4);rw [<- hq1] at C1;rw [<- hq2] at C2;rw [<- hq3] at C3;obtain ⟨x0, x1, x2, x3, x4⟩ := cq5 X;simp at x0 x1 x2 x3 x4;clear hT hV B hW X sW e hq1 hq2 hq3;go_enter Tryz.func24, Tryz.ntmps24
  go_upto_region 1 with fail
  rw [<- HW.out];clear HW;go_wp2_with fail
  refine (open10_any _ _ _ _ _).mono ?_; rintro e w2 ⟨rfl, hb2⟩
  go_wp2_with fail
  refine (C1.out _).mono ?_; rintro e w3 ⟨rfl, hb3⟩
  have HB3w := hZ (below_over hb2 hb3);have HB3 := hZ (below_over HB.out HB3w.out);clear x0 x1 x2 x3 x4 hb2 hb3;cases q1 with
  | false =>
    go_wp2_with fail
    go_ret;exact ⟨rfl, HB3.out⟩
  | true =>
    have X3 := HX.out w3 HB3w.out;obtain ⟨x0, x1, x2, x3, x4⟩ := cq5 X3;simp at x0 x1 x2 x3 x4;clear X3;go_wp2_with fail
    refine (C2.out w3 HB3.out).mono ?_; rintro e w4 ⟨rfl, hb4⟩
    have HB4w := hZ (below_over HB3w.out hb4);have HB4 := hZ (below_over HB3.out hb4);clear x0 x1 x2 x3 x4 hb4;cases q2 with
    | false =>
      go_wp2_with fail
      go_ret;exact ⟨rfl, HB4.out⟩
    | true =>
      have X4 := HX.out w4 HB4w.out;obtain ⟨x0, x1, x2, x3, x4⟩ := cq5 X4;simp at x0 x1 x2 x3 x4;clear X4;go_wp2_with fail
      refine (C3.out w4 HB4.out).mono ?_; rintro e w5 ⟨rfl, hb5⟩
      have HB5 := hZ (below_over HB4.out hb5);clear x0 x1 x2 x3 x4 hb5;go_wp2_with fail
      go_ret;exact ⟨rfl, HB5.out⟩
theorem ifE.below12 {w w' : World} {l : List Value} {x : If} (h : ifE w l x) (hb : Below w.heap.size w w') : ifE w' l x := ifR.keep _ _ _ _ h hb
theorem RowIn.ifc2 {w : World} {A : Option Addr} {xs : List If} (h : RowIn ifR w A xs) {i : Nat} {x : If} (hx : xs[i]? = some x) : ∃ (g o : Nat) (At : Option Addr) (ct : Nat) (Av : Option Addr) (cv : Nat), A = some ⟨g, o, none⟩ /\ g < w.heap.size /\
  w.cell? ⟨g, o + i * 5, none⟩ = some (.string x.pkg) /\ w.cell? ⟨g, o + i * 5 + 1, none⟩ = some (.int .i64 x.major) /\ w.cell? ⟨g, o + i * 5 + 2, none⟩ = some (.string x.mod) /\ w.cell? ⟨g, o + i * 5 + 3, none⟩ = some (.slice At x.types.length ct) /\ w.cell? ⟨g, o + i * 5 + 4, none⟩ = some (.slice Av x.vals.length cv) /\
  ifE w [.string x.pkg, .int .i64 x.major, .string x.mod, .slice At x.types.length ct, .slice Av x.vals.length cv] x := by
 obtain ⟨g, o, l, hA, hg, hc, At, ct, Av, cv, rfl, h1, h2, h3, h4, h5, h6⟩ := h i x hx
 exact ⟨g, o, At, ct, Av, cv, hA, hg, hc 0 _ rfl, hc 1 _ rfl, hc 2 _ rfl, hc 3 _ rfl, hc 4 _ rfl, _, _, _, _, rfl, h1, h2, h3, h4, h5, h6⟩
theorem mayPk_any (A : Option Addr) (c : Nat) (l : List If) (w : World) (hR : RowIn ifR w A l) (hl : l.length <= 9223372036854775807) :
  Calls Tryz.prog 9 #[.slice A l.length c] w fun e w' => e = .returned (.bool (mayPk l)) /\ Below w.heap.size w w' := by
 have HR := hZ hR
 obtain ⟨n, hn⟩ : ∃ n, n = l.length := ⟨_, rfl⟩
 have HN := hZ hn
 obtain ⟨V, hV⟩ : ∃ V, V = mayPk l := ⟨_, rfl⟩
 have HV := hZ hV
 rw [<- hn] at hl ⊢
 rw [<- hV]
 clear hR hn hV
 by_cases h20 : 20 < n
 ·have e1 : (n : Int) > 20 := by omega
  have e2 : (20 : Int) < n := by omega
  have RV : V = false := by rw [HV.out]; exact mayPk_long (by rw [<- HN.out]; exact h20)
  subst RV;go_enter Tryz.func9, Tryz.ntmps9
  go_wp2_with fail
  go_ret;exact ⟨rfl, Below.refl _ _⟩
 have e1 : ¬ (n : Int) > 20 := by omega
 have e2 : ¬ (20 : Int) < n := by omega
 go_enter Tryz.func9, Tryz.ntmps9
 go_wp2_with fail
 clear e1 e2
 go_loopw [10] (fun s10 wr => ∃ k : Nat, k <= n /\ s10 = .int .i64 k /\ Hid (∀ i, i < k -> okPk l i = true) /\ Hid (Below w.heap.size w wr)) (fun s10 _ => n - (intOf s10).toNat)
 case atStart => exact ⟨0, by omega, rfl, hZ (fun i h => by omega), hZ (Below.refl _ _)⟩
 case round =>
  obtain ⟨k, hk, rfl, HP, HB⟩ := hrel;obtain ⟨wo, rfl⟩ : ∃ wo : World, wo = wr := ⟨_, rfl⟩;by_cases hlt : k < n
  ·obtain ⟨x, hx⟩ : ∃ x, l[k]? = some x := ⟨_, List.getElem?_eq_getElem (by rw [<- HN.out]; exact hlt)⟩
   obtain ⟨g, o, A1, c1, A2, c2, rfl, hg, a0, a1, a2, a3, a4, hT⟩ := (HR.out.below HB.out).ifc2 hx;have HX := hZ hx;obtain ⟨w4, hw4⟩ : ∃ w4, w4 = wo.alloc (.cells #[.string x.pkg, .int .i64 x.major, .string x.mod, .slice A1 x.types.length c1, .slice A2 x.vals.length c2] 44) := ⟨_, rfl⟩;have B4 : Below wo.heap.size wo w4 := by rw [hw4]; exact below_new (Below.refl _ _) _
   have Y4 : w4.heap[wo.heap.size]? = some (.cells #[.string x.pkg, .int .i64 x.major, .string x.mod, .slice A1 x.types.length c1, .slice A2 x.vals.length c2] 44 (0, 0)) := by rw [hw4]; exact heap_alloc_new wo _
   have HB4 := hZ (below_over HB.out B4);have HT4 := hZ (hT.below12 B4);have HW4 := hZ hw4;have hk0 : (0 : Int) <= k := by omega
   have hk1 : (k : Int) < n := by omega
   obtain ⟨q1, hq1⟩ : ∃ q, q = mayIf x := ⟨_, rfl⟩
   have cM : ∀ dd os, Calls Tryz.prog 24 #[.agg #[.string x.pkg, .int .i64 x.major, .string x.mod, .slice A1 x.types.length c1, .slice A2 x.vals.length c2]] (Sort.grow (redrawn w4 dd) os) fun e w'' => e = .returned (.bool q1) /\ ∃ pp : Regrown, w'' = Sort.grow (redrawn w4 pp.d) pp.os := fun dd os => Calls.regrown_of (by
    rw [hq1]; exact may10_any x [.string x.pkg, .int .i64 x.major, .string x.mod, .slice A1 x.types.length c1, .slice A2 x.vals.length c2] _ (HT4.out.below12 (below_regrown w4 dd os)))
   have HQ1 := hZ hq1;obtain ⟨y0, y1, y2, y3, y4⟩ := cq5 Y4;simp at y0 y1 y2 y3 y4;clear hq1 Y4 hT hx hg B4 hw4;cases k with
   | zero =>
    simp at a0 a1 a2 a3 a4;go_upto_region 6 with fail
    rw [<- HW4.out];clear HW4;cases q1 with
    | false =>
     have p0 := cell_regrown y0;have p1 := cell_regrown y1;have p2 := cell_regrown y2;have p3 := cell_regrown y3;have p4 := cell_regrown y4;clear y0 y1 y2 y3 y4;refine wp_region_quiet_below (by kernel_rfl) (by kernel_rfl) ?_;repeat (any_goals (first | go_big_quiet_step (first | with_reducible exact cM _ _) | quiet_step (first | with_reducible exact cM _ _)))
     refine wpQuiet_nil ?_;intro w5 hw'
     have HB5 : Hid (Below w.heap.size w w5) := hZ (by
      obtain ⟨⟨dq, osq⟩, hw''⟩ := hw';rw [hw''];exact below_over HB4.out (below_regrown w4 dq osq))
     clear hw' cM p0 p1 p2 p3 p4;have RES : V = false := by rw [HV.out]; exact mayPk_no (i := 0) (by have := HN.out; omega) (by rw [okPk_0 HX.out, <- HQ1.out]; try simp)
     subst RES;go_wp2_with fail
     go_ret;exact ⟨rfl, HB5.out⟩
    | true =>
     have p0 := cell_regrown y0;have p1 := cell_regrown y1;have p2 := cell_regrown y2;have p3 := cell_regrown y3;have p4 := cell_regrown y4;clear y0 y1 y2 y3 y4;refine wp_region_quiet_below (by kernel_rfl) (by kernel_rfl) ?_;repeat (any_goals (first | go_big_quiet_step (first | with_reducible exact cM _ _) | quiet_step (first | with_reducible exact cM _ _)))
     refine wpQuiet_nil ?_;intro w5 hw'
     have HB5 : Hid (Below w.heap.size w w5) := hZ (by
      obtain ⟨⟨dq, osq⟩, hw''⟩ := hw';rw [hw''];exact below_over HB4.out (below_regrown w4 dq osq))
     clear hw' cM p0 p1 p2 p3 p4
     have NX : Hid (∀ i, i < 0 + 1 -> okPk l i = true) := hZ (fun i hi => by
      rcases Nat.lt_or_ge i (0) with c | c
      ·exact HP.out i c
      ·obtain rfl : i = 0 := by omega
       rw [okPk_0 HX.out, <- HQ1.out]; try simp)
     go_wp2_with fail
     go_roundw
     case rel => exact ⟨0 + 1, by omega, by go_num, NX, HB5⟩
     case measure => simp [intOf]; omega
   | succ k =>
    obtain ⟨y, hy⟩ : ∃ y, l[k]? = some y := ⟨_, List.getElem?_eq_getElem (by rw [<- HN.out]; omega)⟩;obtain ⟨g', o', A3, c3, A4, c4, e', hg', b0, b1, b2, b3, b4, -⟩ := (HR.out.below HB4.out).ifc2 hy;cases e'
    have HY := hZ hy;obtain ⟨q2, hq2⟩ : ∃ q, q = samePk y x := ⟨_, rfl⟩
    have cS : ∀ dd os, Calls Tryz.prog 25 #[.agg #[.string y.pkg, .int .i64 y.major, .string y.mod, .slice A3 y.types.length c3, .slice A4 y.vals.length c4], .agg #[.string x.pkg, .int .i64 x.major, .string x.mod, .slice A1 x.types.length c1, .slice A2 x.vals.length c2]] (Sort.grow (redrawn w4 dd) os) fun e w'' => e = .returned (.bool q2) /\ ∃ pp : Regrown, w'' = Sort.grow (redrawn w4 pp.d) pp.os := fun dd os => Calls.regrown_of (by
     rw [hq2]; exact samePk_any y x A3 c3 A4 c4 A1 c1 A2 c2 _)
    have HQ2 := hZ hq2;obtain ⟨q3, hq3⟩ : ∃ q, Op.bytesLess y.mod.toList x.mod.toList = q := ⟨_, rfl⟩;have HQ3 : Hid (decide (LtS y.mod x.mod) = q3) := hZ (by rw [<- hq3, bless_lts]);have hp1 : ((k : Nat) : Int) + 1 - 1 = k := by omega
    have hp1' : (((k + 1 : Nat) : Int)) - 1 = k := by omega
    have hp0 : decide ((0 : Int) < ((k + 1 : Nat) : Int)) = true := by simp; try omega
    have hp0' : decide ((0 : Int) < (k : Int) + 1) = true := by simp; try omega
    have hkk0 : (0 : Int) <= (k : Int) := by omega
    have hkk1 : (k : Int) < n := by omega
    clear hy hg' hq2;go_upto_region 6 with fail
    rw [<- HW4.out];clear HW4;cases q1 with
    | false =>
     have p0 := cell_regrown y0;have p1 := cell_regrown y1;have p2 := cell_regrown y2;have p3 := cell_regrown y3;have p4 := cell_regrown y4;have r0 := cell_regrown b0;have r1 := cell_regrown b1;have r2 := cell_regrown b2;have r3 := cell_regrown b3;have r4 := cell_regrown b4;clear y0 y1 y2 y3 y4 b0 b1 b2 b3 b4;refine wp_region_quiet_below (by kernel_rfl) (by kernel_rfl) ?_;repeat (any_goals (first | go_big_quiet_step (first | with_reducible exact cM _ _ | with_reducible exact cS _ _) | quiet_step (first | with_reducible exact cM _ _ | with_reducible exact cS _ _)))
     refine wpQuiet_nil ?_;intro w5 hw'
     have HB5 : Hid (Below w.heap.size w w5) := hZ (by
      obtain ⟨⟨dq, osq⟩, hw''⟩ := hw';rw [hw''];exact below_over HB4.out (below_regrown w4 dq osq))
     clear hw' cM cS p0 p1 p2 p3 p4 r0 r1 r2 r3 r4;have RES : V = false := by rw [HV.out]; exact mayPk_no (i := k + 1) (by have := HN.out; omega) (by rw [okPk_s HX.out HY.out, <- HQ1.out, <- HQ2.out, HQ3.out]; try simp)
     subst RES;go_wp2_with fail
     go_ret;exact ⟨rfl, HB5.out⟩
    | true =>
     cases q2 with
     | false =>
      have p0 := cell_regrown y0;have p1 := cell_regrown y1;have p2 := cell_regrown y2;have p3 := cell_regrown y3;have p4 := cell_regrown y4;have r0 := cell_regrown b0;have r1 := cell_regrown b1;have r2 := cell_regrown b2;have r3 := cell_regrown b3;have r4 := cell_regrown b4;clear y0 y1 y2 y3 y4 b0 b1 b2 b3 b4;refine wp_region_quiet_below (by kernel_rfl) (by kernel_rfl) ?_;repeat (any_goals (first | go_big_quiet_step (first | with_reducible exact cM _ _ | with_reducible exact cS _ _) | quiet_step (first | with_reducible exact cM _ _ | with_reducible exact cS _ _)))
      refine wpQuiet_nil ?_;intro w5 hw'
      have HB5 : Hid (Below w.heap.size w w5) := hZ (by
       obtain ⟨⟨dq, osq⟩, hw''⟩ := hw';rw [hw''];exact below_over HB4.out (below_regrown w4 dq osq))
      clear hw' cM cS p0 p1 p2 p3 p4 r0 r1 r2 r3 r4;have RES : V = false := by rw [HV.out]; exact mayPk_no (i := k + 1) (by have := HN.out; omega) (by rw [okPk_s HX.out HY.out, <- HQ1.out, <- HQ2.out, HQ3.out]; try simp)
      subst RES;go_wp2_with fail
      go_ret;exact ⟨rfl, HB5.out⟩
     | true =>
      cases q3 with
      | false =>
       have p0 := cell_regrown y0;have p1 := cell_regrown y1;have p2 := cell_regrown y2;have p3 := cell_regrown y3;have p4 := cell_regrown y4;have r0 := cell_regrown b0;have r1 := cell_regrown b1;have r2 := cell_regrown b2;have r3 := cell_regrown b3;have r4 := cell_regrown b4;clear y0 y1 y2 y3 y4 b0 b1 b2 b3 b4;refine wp_region_quiet_below (by kernel_rfl) (by kernel_rfl) ?_;repeat (any_goals (first | go_big_quiet_step (first | with_reducible exact cM _ _ | with_reducible exact cS _ _) | quiet_step (first | with_reducible exact cM _ _ | with_reducible exact cS _ _)))
       refine wpQuiet_nil ?_;intro w5 hw'
       have HB5 : Hid (Below w.heap.size w w5) := hZ (by
        obtain ⟨⟨dq, osq⟩, hw''⟩ := hw';rw [hw''];exact below_over HB4.out (below_regrown w4 dq osq))
       clear hw' cM cS p0 p1 p2 p3 p4 r0 r1 r2 r3 r4;have RES : V = false := by rw [HV.out]; exact mayPk_no (i := k + 1) (by have := HN.out; omega) (by rw [okPk_s HX.out HY.out, <- HQ1.out, <- HQ2.out, HQ3.out]; try simp)
       subst RES;go_wp2_with fail
       go_ret;exact ⟨rfl, HB5.out⟩
      | true =>
       have p0 := cell_regrown y0;have p1 := cell_regrown y1;have p2 := cell_regrown y2;have p3 := cell_regrown y3;have p4 := cell_regrown y4;have r0 := cell_regrown b0;have r1 := cell_regrown b1;have r2 := cell_regrown b2;have r3 := cell_regrown b3;have r4 := cell_regrown b4;clear y0 y1 y2 y3 y4 b0 b1 b2 b3 b4;refine wp_region_quiet_below (by kernel_rfl) (by kernel_rfl) ?_;repeat (any_goals (first | go_big_quiet_step (first | with_reducible exact cM _ _ | with_reducible exact cS _ _) | quiet_step (first | with_reducible exact cM _ _ | with_reducible exact cS _ _)))
       refine wpQuiet_nil ?_;intro w5 hw'
       have HB5 : Hid (Below w.heap.size w w5) := hZ (by
        obtain ⟨⟨dq, osq⟩, hw''⟩ := hw';rw [hw''];exact below_over HB4.out (below_regrown w4 dq osq))
       clear hw' cM cS p0 p1 p2 p3 p4 r0 r1 r2 r3 r4
       have NX : Hid (∀ i, i < k + 1 + 1 -> okPk l i = true) := hZ (fun i hi => by
        rcases Nat.lt_or_ge i (k + 1) with c | c
        ·exact HP.out i c
        ·obtain rfl : i = k + 1 := by omega
         rw [okPk_s HX.out HY.out, <- HQ1.out, <- HQ2.out, HQ3.out]; try simp)
       go_wp2_with fail
       go_roundw
       case rel => exact ⟨k + 1 + 1, by omega, by go_num, NX, HB5⟩
       case measure => simp [intOf]; omega
  ·have RV : V = true := by rw [HV.out]; exact mayPk_yes (by rw [<- HN.out]; omega) (fun i hi => HP.out i (by have := HN.out; omega))
   subst RV;go_wp2_with fail
   go_ret;exact ⟨rfl, HB.out⟩
theorem fairP_eq {a b : List If} {x y : If} (hx : a[0]? = some x) (hy : b[0]? = some y) : fairP a b = (mayPk a && (mayPk b && samePk x y)) := by
 unfold fairP; rw [hx, hy]
theorem fairP_nil {a b : List If} (h : a.length = 0 \/ b.length = 0) : fairP a b = (mayPk a && mayPk b) := by
 unfold fairP
 rcases h with h | h
 ·rw [List.length_eq_zero_iff] at h
  subst h; simp
 ·rw [List.length_eq_zero_iff] at h
  subst h;cases a[0]? <;> simp
theorem ofOne_any (A : Option Addr) (ca : Nat) (B : Option Addr) (cb : Nat) (a b : List If) (w : World) (hA : RowIn ifR w A a) (hB : RowIn ifR w B b) (hla : a.length <= 9223372036854775807) (hlb : b.length <= 9223372036854775807) :
  Calls Tryz.prog 18 #[.slice A a.length ca, .slice B b.length cb] w fun e w' => e = .returned (.bool (fairP a b)) /\ Below w.heap.size w w' := by
 obtain ⟨q1, hq1⟩ : ∃ q, q = mayPk a := ⟨_, rfl⟩
 obtain ⟨q2, hq2⟩ : ∃ q, q = mayPk b := ⟨_, rfl⟩
 have cA : ∀ dd os, Calls Tryz.prog 9 #[.slice A a.length ca] (Sort.grow (redrawn w dd) os) fun e w'' => e = .returned (.bool q1) /\ ∃ pp : Regrown, w'' = Sort.grow (redrawn w pp.d) pp.os := fun dd os => Calls.regrown_of (by
  rw [hq1]; exact mayPk_any A ca a _ (hA.below (below_regrown w dd os)) hla)
 have cB : ∀ dd os, Calls Tryz.prog 9 #[.slice B b.length cb] (Sort.grow (redrawn w dd) os) fun e w'' => e = .returned (.bool q2) /\ ∃ pp : Regrown, w'' = Sort.grow (redrawn w pp.d) pp.os := fun dd os => Calls.regrown_of (by
  rw [hq2]; exact mayPk_any B cb b _ (hB.below (below_regrown w dd os)) hlb)
 obtain ⟨V, hV⟩ : ∃ V, V = fairP a b := ⟨_, rfl⟩
 have HV := hZ hV
 have HQ1 := hZ hq1
 have HQ2 := hZ hq2
 rw [<- hV]
 clear hV hq1 hq2
 rcases Nat.eq_zero_or_pos a.length with ea | ea
 ·have HE : Hid (V = (q1 && q2)) := hZ (by rw [HV.out, fairP_nil (.inl ea), HQ1.out, HQ2.out])
  rw [ea] at cA ⊢;obtain ⟨nb, hnb⟩ : ∃ k, k = b.length := ⟨_, rfl⟩;rw [<- hnb] at cB ⊢;clear hA hB hla hlb ea hnb;cases q1 with
  | false =>
   have RV : V = false := HE.out;subst RV;go_enter Tryz.func18, Tryz.ntmps18
   go_upto_region 1 with fail
   refine wp_region_quiet_below (by kernel_rfl) (by kernel_rfl) ?_;repeat (any_goals (first | go_big_quiet_step (first | with_reducible exact cA _ _ | with_reducible exact cB _ _) | quiet_step (first | with_reducible exact cA _ _ | with_reducible exact cB _ _)))
   refine wpQuiet_nil ?_;intro w5 hw';obtain ⟨⟨dq, osq⟩, hw''⟩ := hw';subst hw'';have HBQ := hZ (below_regrown w dq osq);go_wp2_with fail
   go_ret;exact ⟨rfl, HBQ.out⟩
  | true =>
   cases q2 with
   | false =>
    have RV : V = false := HE.out;subst RV;go_enter Tryz.func18, Tryz.ntmps18
    go_upto_region 1 with fail
    refine wp_region_quiet_below (by kernel_rfl) (by kernel_rfl) ?_;repeat (any_goals (first | go_big_quiet_step (first | with_reducible exact cA _ _ | with_reducible exact cB _ _) | quiet_step (first | with_reducible exact cA _ _ | with_reducible exact cB _ _)))
    refine wpQuiet_nil ?_;intro w5 hw';obtain ⟨⟨dq, osq⟩, hw''⟩ := hw';subst hw'';have HBQ := hZ (below_regrown w dq osq);go_wp2_with fail
    go_ret;exact ⟨rfl, HBQ.out⟩
   | true =>
    have RV : V = true := HE.out;subst RV;go_enter Tryz.func18, Tryz.ntmps18
    go_upto_region 1 with fail
    refine wp_region_quiet_below (by kernel_rfl) (by kernel_rfl) ?_;repeat (any_goals (first | go_big_quiet_step (first | with_reducible exact cA _ _ | with_reducible exact cB _ _) | quiet_step (first | with_reducible exact cA _ _ | with_reducible exact cB _ _)))
    refine wpQuiet_nil ?_;intro w5 hw';obtain ⟨⟨dq, osq⟩, hw''⟩ := hw';subst hw'';have HBQ := hZ (below_regrown w dq osq);go_wp2_with fail
    go_ret;exact ⟨rfl, HBQ.out⟩
 obtain ⟨x, hx⟩ : ∃ x, a[0]? = some x := ⟨_, List.getElem?_eq_getElem ea⟩
 obtain ⟨g, o, A1, c1, A2, c2, rfl, hg, a0, a1, a2, a3, a4, -⟩ := hA.ifc2 hx
 obtain ⟨na, hna⟩ : ∃ k, k = a.length := ⟨_, rfl⟩
 rw [<- hna] at cA ea ⊢
 have ea0 : ((na : Int) == 0) = false := by simp; omega
 have ea1 : (0 : Int) < na := by omega
 rcases Nat.eq_zero_or_pos b.length with eb | eb
 ·have HE : Hid (V = (q1 && q2)) := hZ (by rw [HV.out, fairP_nil (.inr eb), HQ1.out, HQ2.out])
  rw [eb] at cB ⊢;clear hA hB hla hlb eb hx hg hna a0 a1 a2 a3 a4;cases q1 with
  | false =>
   have RV : V = false := HE.out;subst RV;go_enter Tryz.func18, Tryz.ntmps18
   go_upto_region 1 with fail
   refine wp_region_quiet_below (by kernel_rfl) (by kernel_rfl) ?_;repeat (any_goals (first | go_big_quiet_step (first | with_reducible exact cA _ _ | with_reducible exact cB _ _) | quiet_step (first | with_reducible exact cA _ _ | with_reducible exact cB _ _)))
   refine wpQuiet_nil ?_;intro w5 hw';obtain ⟨⟨dq, osq⟩, hw''⟩ := hw';subst hw'';have HBQ := hZ (below_regrown w dq osq);go_wp2_with fail
   go_ret;exact ⟨rfl, HBQ.out⟩
  | true =>
   cases q2 with
   | false =>
    have RV : V = false := HE.out;subst RV;go_enter Tryz.func18, Tryz.ntmps18
    go_upto_region 1 with fail
    refine wp_region_quiet_below (by kernel_rfl) (by kernel_rfl) ?_;repeat (any_goals (first | go_big_quiet_step (first | with_reducible exact cA _ _ | with_reducible exact cB _ _) | quiet_step (first | with_reducible exact cA _ _ | with_reducible exact cB _ _)))
    refine wpQuiet_nil ?_;intro w5 hw';obtain ⟨⟨dq, osq⟩, hw''⟩ := hw';subst hw'';have HBQ := hZ (below_regrown w dq osq);go_wp2_with fail
    go_ret;exact ⟨rfl, HBQ.out⟩
   | true =>
    have RV : V = true := HE.out;subst RV;go_enter Tryz.func18, Tryz.ntmps18
    go_upto_region 1 with fail
    refine wp_region_quiet_below (by kernel_rfl) (by kernel_rfl) ?_;repeat (any_goals (first | go_big_quiet_step (first | with_reducible exact cA _ _ | with_reducible exact cB _ _) | quiet_step (first | with_reducible exact cA _ _ | with_reducible exact cB _ _)))
    refine wpQuiet_nil ?_;intro w5 hw';obtain ⟨⟨dq, osq⟩, hw''⟩ := hw';subst hw'';have HBQ := hZ (below_regrown w dq osq);go_wp2_with fail
    go_ret;exact ⟨rfl, HBQ.out⟩
 obtain ⟨y, hy⟩ : ∃ y, b[0]? = some y := ⟨_, List.getElem?_eq_getElem eb⟩
 obtain ⟨g', o', A3, c3, A4, c4, rfl, hg', b0, b1, b2, b3, b4, -⟩ := hB.ifc2 hy
 obtain ⟨nb, hnb⟩ : ∃ k, k = b.length := ⟨_, rfl⟩
 rw [<- hnb] at cB eb ⊢
 have eb0 : ((nb : Int) == 0) = false := by simp; omega
 have eb1 : (0 : Int) < nb := by omega
 obtain ⟨q3, hq3⟩ : ∃ q, q = samePk x y := ⟨_, rfl⟩
 have cS : ∀ dd os, Calls Tryz.prog 25 #[.agg #[.string x.pkg, .int .i64 x.major, .string x.mod, .slice A1 x.types.length c1, .slice A2 x.vals.length c2], .agg #[.string y.pkg, .int .i64 y.major, .string y.mod, .slice A3 y.types.length c3, .slice A4 y.vals.length c4]] (Sort.grow (redrawn w dd) os) fun e w'' => e = .returned (.bool q3) /\ ∃ pp : Regrown, w'' = Sort.grow (redrawn w pp.d) pp.os := fun dd os => Calls.regrown_of (by
  rw [hq3]; exact samePk_any x y A1 c1 A2 c2 A3 c3 A4 c4 _)
 have HE : Hid (V = (q1 && (q2 && q3))) := hZ (by rw [HV.out, fairP_eq hx hy, HQ1.out, HQ2.out, hq3])
 simp at a0 a1 a2 a3 a4 b0 b1 b2 b3 b4
 have p0 := cell_regrown a0
 have p1 := cell_regrown a1
 have p2 := cell_regrown a2
 have p3 := cell_regrown a3
 have p4 := cell_regrown a4
 have r0 := cell_regrown b0
 have r1 := cell_regrown b1
 have r2 := cell_regrown b2
 have r3 := cell_regrown b3
 have r4 := cell_regrown b4
 clear hA hB hla hlb hx hy hg hg' hna hnb hq3 a0 a1 a2 a3 a4 b0 b1 b2 b3 b4
 cases q1 with
 | false =>
  have RV : V = false := HE.out;subst RV;go_enter Tryz.func18, Tryz.ntmps18
  go_upto_region 1 with fail
  refine wp_region_quiet_below (by kernel_rfl) (by kernel_rfl) ?_;repeat (any_goals (first | go_big_quiet_step (first | with_reducible exact cA _ _ | with_reducible exact cB _ _ | with_reducible exact cS _ _) | quiet_step (first | with_reducible exact cA _ _ | with_reducible exact cB _ _ | with_reducible exact cS _ _)))
  refine wpQuiet_nil ?_;intro w5 hw';obtain ⟨⟨dq, osq⟩, hw''⟩ := hw';subst hw'';have HBQ := hZ (below_regrown w dq osq);go_wp2_with fail
  go_ret;exact ⟨rfl, HBQ.out⟩
 | true =>
  cases q2 with
  | false =>
   have RV : V = false := HE.out;subst RV;go_enter Tryz.func18, Tryz.ntmps18
   go_upto_region 1 with fail
   refine wp_region_quiet_below (by kernel_rfl) (by kernel_rfl) ?_;repeat (any_goals (first | go_big_quiet_step (first | with_reducible exact cA _ _ | with_reducible exact cB _ _ | with_reducible exact cS _ _) | quiet_step (first | with_reducible exact cA _ _ | with_reducible exact cB _ _ | with_reducible exact cS _ _)))
   refine wpQuiet_nil ?_;intro w5 hw';obtain ⟨⟨dq, osq⟩, hw''⟩ := hw';subst hw'';have HBQ := hZ (below_regrown w dq osq);go_wp2_with fail
   go_ret;exact ⟨rfl, HBQ.out⟩
  | true =>
   cases q3 with
   | false =>
    have RV : V = false := HE.out;subst RV;go_enter Tryz.func18, Tryz.ntmps18
    go_upto_region 1 with fail
    refine wp_region_quiet_below (by kernel_rfl) (by kernel_rfl) ?_;repeat (any_goals (first | go_big_quiet_step (first | with_reducible exact cA _ _ | with_reducible exact cB _ _ | with_reducible exact cS _ _) | quiet_step (first | with_reducible exact cA _ _ | with_reducible exact cB _ _ | with_reducible exact cS _ _)))
    refine wpQuiet_nil ?_;intro w5 hw';obtain ⟨⟨dq, osq⟩, hw''⟩ := hw';subst hw'';have HBQ := hZ (below_regrown w dq osq);go_wp2_with fail
    go_ret;exact ⟨rfl, HBQ.out⟩
   | true =>
    have RV : V = true := HE.out;subst RV;go_enter Tryz.func18, Tryz.ntmps18
    go_upto_region 1 with fail
    refine wp_region_quiet_below (by kernel_rfl) (by kernel_rfl) ?_;repeat (any_goals (first | go_big_quiet_step (first | with_reducible exact cA _ _ | with_reducible exact cB _ _ | with_reducible exact cS _ _) | quiet_step (first | with_reducible exact cA _ _ | with_reducible exact cB _ _ | with_reducible exact cS _ _)))
    refine wpQuiet_nil ?_;intro w5 hw';obtain ⟨⟨dq, osq⟩, hw''⟩ := hw';subst hw'';have HBQ := hZ (below_regrown w dq osq);go_wp2_with fail
    go_ret;exact ⟨rfl, HBQ.out⟩
theorem chs_src {w : World} {A : Option Addr} {xs : List Ch} (h : RowIn chR w A xs) : (A = none -> xs.length = 0) /\ ∀ wx, Below w.heap.size w wx -> ∀ ad, A = some ad -> ∀ (j : Nat) (u : Value), (xs.map chL).flatten[j]? = some u -> wx.cell? (ad.add j) = some u := by
 obtain ⟨C, h1, -, h3, h4, h5⟩ := h.src (by decide)
 have e : C = xs.map chL := by
  apply List.ext_getElem?
  intro i;rw [List.getElem?_map];rcases Nat.lt_or_ge i C.length with hi | hi
  ·have e1 : C[i]? = some C[i] := List.getElem?_eq_getElem hi
   have e2 : xs[i]? = some (xs[i]'(by omega)) := List.getElem?_eq_getElem (by omega);rw [e1, e2];exact congrArg some (h3 i _ _ e1 e2)
  ·rw [List.getElem?_eq_none hi, List.getElem?_eq_none (by omega)]; rfl
 rw [<- e]
 exact ⟨h4, h5⟩
def FewIf (l : List If) : Prop := ∀ x ∈ l, x.types.length <= 20000 /\ x.vals.length <= 20000
theorem mayIf_mod {x : If} (h : mayIf x = true) : x.mod.size <= 20 := by
 unfold mayIf at h
 rw [Bool.and_eq_true, may_open] at h
 simp only [Bool.and_eq_true] at h
 exact small_size h.1.1.2
theorem nameOk_size {gr : Bool} {s : ByteArray} (h : nameOk gr s = true) : s.size <= 20 := by
 unfold nameOk at h
 cases gr with
 | true => exact great_size h
 | false => exact small_size h
theorem okN_of {gr : Bool} {l : List Nm} (h : risesN gr l = true) (hl : l.length <= 20000) : OkN l :=
 ⟨hl, risesN_rise h, fun x hx => (risesN_ok h x hx).2, fun x hx => by have := nameOk_size (risesN_ok h x hx).1; omega⟩
theorem gI_ok {l : List If} (h : mayPk l = true) (hf : FewIf l) (s : ByteArray) : OkN (gI l s).types /\ OkN (gI l s).vals := by
 unfold gI
 cases e : l.find? (isMd s) with
 | none => exact ⟨⟨by decide, List.Pairwise.nil, (fun x hx => by cases hx), (fun x hx => by cases hx)⟩, ⟨by decide, List.Pairwise.nil, (fun x hx => by cases hx), (fun x hx => by cases hx)⟩⟩
 | some x =>
  have hx := List.mem_of_find?_eq_some e;obtain ⟨h1, h2⟩ := mayIf_parts (mayPk_may h hx);exact ⟨okN_of h1 (hf x hx).1, okN_of h2 (hf x hx).2⟩
theorem chMod_eq (a b : List If) (s : ByteArray) : chMod a b s = chRow s true (gI a s).types (gI b s).types ++ chRow s false (gI a s).vals (gI b s).vals := by
 unfold chMod
 rw [<- gI_row, <- gI_row, <- gI_row, <- gI_row]
 rfl
def CgOut (a b : List If) (w : World) (e : Ending) (w' : World) : Prop :=
 Below w.heap.size w w' /\ ((fairP a b = false /\ e = .returned (.tuple #[.slice none 0 0, .iface 33 (.int .i64 1)])) \/ (fairP a b = true /\ (chP a b).length <= 3200000 /\ ∃ (A : Option Addr) (c : Nat), e = .returned (.tuple #[.slice A (chP a b).length c, .nilIface]) /\ RowIn chR w' A (chP a b)))
def BoOut (a b : List If) (w : World) (e : Ending) (w' : World) : Prop :=
 Below w.heap.size w w' /\ ((fairP a b = false /\ e = .returned (.tuple #[.int .i64 0, .iface 33 (.int .i64 1)])) \/ (fairP a b = true /\ e = .returned (.tuple #[.int .i64 (ofP (chP a b)), .nilIface])))
theorem changes_any (A : Option Addr) (ca : Nat) (B : Option Addr) (cb : Nat) (a b : List If) (w : World) (hA : RowIn ifR w A a) (hB : RowIn ifR w B b) (hla : a.length <= 9223372036854775807) (hlb : b.length <= 9223372036854775807) (hfa : FewIf a) (hfb : FewIf b) :
  Calls Tryz.prog 7 #[.slice A a.length ca, .slice B b.length cb] w (CgOut a b w) := by
 have OO := ofOne_any A ca B cb a b w hA hB hla hlb
 cases hf : fairP a b with
 | false =>
  rw [hf] at OO;have HF := hZ hf;have HO := hZ OO;clear OO hf hA hB;go_enter Tryz.func7, Tryz.ntmps7
  go_wp2_with fail
  refine HO.out.mono ?_; rintro e w2 ⟨rfl, hb2⟩
  have HB2 := hZ hb2;clear hb2;go_wp2_with fail
  go_ret2
  exact ⟨HB2.out, .inl ⟨HF.out, rfl⟩⟩
 | true =>
  rw [hf] at OO;obtain ⟨ma, mb, -⟩ := fairP_parts hf;have h20a := (mayPk_at ma).1;have h20b := (mayPk_at mb).1;have HO := hZ OO;have HF := hZ hf;have CE : Hid (∀ wx, Below w.heap.size w wx -> Calls Tryz.prog 19 #[.slice A a.length ca, .slice B b.length cb, .func (.func 20) #[] #[]] wx fun e w' => ∃ (A' : Option Addr) (c' : Nat), e = .returned (.slice A' (uniN (a.map (·.mod) ++ b.map (·.mod))).length c') /\ NamesAt w' A' (uniN (a.map (·.mod) ++ b.map (·.mod))) /\ Below wx.heap.size wx w') := hZ (fun wx hb => eitherI_any A ca B cb a b wx (hA.below hb) (hB.below hb) (by omega) (by omega));have FA : Hid (∀ (s : ByteArray) (wx : World), Below w.heap.size w wx -> Calls Tryz.prog 21 #[.slice A a.length ca, .func (.func 20) #[] #[], .string s] wx (GiOut w wx a s)) := hZ (fun s wx hb => findI_any A ca a s w wx hA hb (by omega) (mayPk_rise ma));have FB : Hid (∀ (s : ByteArray) (wx : World), Below w.heap.size w wx -> Calls Tryz.prog 21 #[.slice B b.length cb, .func (.func 20) #[] #[], .string s] wx (GiOut w wx b s)) := hZ (fun s wx hb => findI_any B cb b s w wx hB hb (by omega) (mayPk_rise mb));have OKA := hZ (gI_ok ma hfa);have OKB := hZ (gI_ok mb hfb);obtain ⟨ms, hms⟩ : ∃ ms, ms = uniN (a.map (·.mod) ++ b.map (·.mod)) := ⟨_, rfl⟩
  have HSZ : Hid (∀ s ∈ ms, s.size <= 281474976710656) := hZ (fun s hs => by
   rw [hms, uniN_mem, List.mem_append] at hs;rcases hs with hs | hs
   ·obtain ⟨x, hx, rfl⟩ := List.mem_map.1 hs
    have := mayIf_mod (mayPk_may ma hx); omega
   ·obtain ⟨x, hx, rfl⟩ := List.mem_map.1 hs
    have := mayIf_mod (mayPk_may mb hx); omega)
  have hl : ms.length <= 40 := by
   rw [hms];refine Nat.le_trans (uniN_le _) ?_;simp; omega
  have hrow : Hid (chP a b = ms.flatMap (chMod a b)) := hZ (by rw [hms]; rfl);rw [<- hms] at CE;obtain ⟨n, hn⟩ : ∃ n, n = ms.length := ⟨_, rfl⟩;rw [<- hn] at CE hl;have HN := hZ hn;obtain ⟨na, hna⟩ : ∃ k, k = a.length := ⟨_, rfl⟩;obtain ⟨nb, hnb⟩ : ∃ k, k = b.length := ⟨_, rfl⟩;rw [<- hna, <- hnb] at CE HO;rw [<- hna] at FA;rw [<- hnb] at FB;rw [<- hna, <- hnb];clear hA hB hla hlb hfa hfb ma mb h20a h20b hms hn hna hnb OO hf;go_enter Tryz.func7, Tryz.ntmps7
  go_wp2_with fail
  refine HO.out.mono ?_; rintro e w1 ⟨rfl, hb1⟩
  have HB1 := hZ hb1;clear hb1 HO;go_wp2_with fail
  refine (CE.out w1 HB1.out).mono ?_; rintro e wl ⟨A2, c2, rfl, hN2, hb2⟩
  have HN2 := hZ hN2;have HBL := hZ (below_over HB1.out hb2);clear CE hN2 hb2 HB1;go_wp2_with fail
  go_loopw [6, 22] (fun s6 s22 wr => ∃ (k q : Nat) (A6 : Option Addr) (c6 : Nat), k <= n /\ q <= 80000 * k /\ s22 = .int .i64 k /\ s6 = .slice A6 q c6 /\ Hid (q = ((ms.take k).flatMap (chMod a b)).length) /\ Hid (wr.ownsRow wl.heap.size 54 4 (.slice A6 q c6) q (((ms.take k).flatMap (chMod a b)).map chL).flatten) /\ Hid (Below wl.heap.size wl wr)) (fun _ s22 _ => n - (intOf s22).toNat)
  case atStart => exact ⟨0, 0, none, 0, by omega, by omega, rfl, rfl, hZ rfl, hZ (World.ownsRow_nil _ _ _ _), hZ (Below.refl _ _)⟩
  case round =>
   obtain ⟨k, q, A6, c6, hk, hq, rfl, rfl, HQ, HO, HB⟩ := hrel;obtain ⟨wo, rfl⟩ : ∃ wo : World, wo = wr := ⟨_, rfl⟩;by_cases hlt : k < n
   ·obtain ⟨s, hs⟩ : ∃ s, ms[k]? = some s := ⟨_, List.getElem?_eq_getElem (by rw [<- HN.out]; exact hlt)⟩
    obtain ⟨g, o, rfl, hg, hc, -⟩ := (HN2.out.below HB.out) k s hs;have FAo := hZ (FA.out s wo (below_over HBL.out HB.out));have hk0 : (0 : Int) <= k := by omega
    have hk1 : (k : Int) < n := by omega
    obtain ⟨cs, hcs⟩ : ∃ cs, cs = (ms.take k).flatMap (chMod a b) := ⟨_, rfl⟩;have STEP : Hid ((ms.take (k + 1)).flatMap (chMod a b) = cs ++ chMod a b s) := hZ (by rw [List.take_add_one, hs, hcs]; simp);have HSM := hZ (HSZ.out s (List.mem_of_getElem? hs));rw [<- hcs] at HQ HO;clear hs hg hcs;go_upto_region 7 with fail
    clear hc;go_wp2_with fail
    refine FAo.out.mono ?_; rintro e w2 ⟨l, rfl, hL, hb1⟩
    obtain ⟨x, hx⟩ : ∃ x, x = gI a s := ⟨_, rfl⟩;rw [<- hx] at hL;have hL0 := hL w (Below.refl _ _);obtain ⟨A1, c1, A2, c2, rfl, -⟩ := hL0
    have HIx : Hid (∀ wx, Below w.heap.size w wx -> RowIn nmR wx A1 x.types /\ RowIn nmR wx A2 x.vals) := hZ (fun wx hb => by
     obtain ⟨_, _, _, _, e, -, -, -, -, h5, h6⟩ := hL wx hb;simp only [List.cons.injEq, Value.slice.injEq, and_true, true_and] at e;obtain ⟨⟨rfl, -⟩, rfl, -⟩ := e;exact ⟨h5, h6⟩)
    obtain ⟨q1, hq1⟩ : ∃ q, (a.find? (isMd s)).isSome = q := ⟨_, rfl⟩;obtain ⟨w3, hw1⟩ : ∃ wz, wz = w2.alloc (.cells #[.string x.pkg, .int .i64 x.major, .string x.mod, .slice A1 x.types.length c1, .slice A2 x.vals.length c2] 44) := ⟨_, rfl⟩;have B1 : Below w2.heap.size w2 w3 := by rw [hw1]; exact below_new (Below.refl _ _) _
    have Z1 : w3.heap[w2.heap.size]? = some (.cells #[.string x.pkg, .int .i64 x.major, .string x.mod, .slice A1 x.types.length c1, .slice A2 x.vals.length c2] 44 (0, 0)) := by rw [hw1]; exact heap_alloc_new w2 _
    have BB1 : Below wo.heap.size wo w3 := below_over hb1 B1;have HB1 : Hid (Below wl.heap.size wl w3) := hZ (HB.out.trans (BB1.mono HB.out.size));have HZ1 := hZ Z1;have HXx := hZ hx;have HW1 := hZ hw1;rw [hq1];have HO1 : Hid (w3.ownsRow wl.heap.size 54 4 (.slice A6 q c6) q (cs.map chL).flatten) := hZ (own_block11 HO.out (fun b hb => BB1.block b (HO.out.lt b hb).2));clear hL hx hb1 FAo hq1 hw1 B1 Z1 BB1;go_upto_region 8 with fail
    rw [<- HW1.out];clear HW1;go_wp2_with fail
    refine (FB.out s w3 (below_over HBL.out HB1.out)).mono ?_; rintro e w5 ⟨l, rfl, hL, hb2⟩
    obtain ⟨y, hy⟩ : ∃ x, x = gI b s := ⟨_, rfl⟩;rw [<- hy] at hL;have hL0 := hL w (Below.refl _ _);obtain ⟨A3, c3, A4, c4, rfl, -⟩ := hL0
    have HIy : Hid (∀ wx, Below w.heap.size w wx -> RowIn nmR wx A3 y.types /\ RowIn nmR wx A4 y.vals) := hZ (fun wx hb => by
     obtain ⟨_, _, _, _, e, -, -, -, -, h5, h6⟩ := hL wx hb;simp only [List.cons.injEq, Value.slice.injEq, and_true, true_and] at e;obtain ⟨⟨rfl, -⟩, rfl, -⟩ := e;exact ⟨h5, h6⟩)
    obtain ⟨q2, hq2⟩ : ∃ q, (b.find? (isMd s)).isSome = q := ⟨_, rfl⟩;obtain ⟨w6, hw2⟩ : ∃ wz, wz = w5.alloc (.cells #[.string y.pkg, .int .i64 y.major, .string y.mod, .slice A3 y.types.length c3, .slice A4 y.vals.length c4] 44) := ⟨_, rfl⟩;have B2 : Below w5.heap.size w5 w6 := by rw [hw2]; exact below_new (Below.refl _ _) _
    have Z2 : w6.heap[w5.heap.size]? = some (.cells #[.string y.pkg, .int .i64 y.major, .string y.mod, .slice A3 y.types.length c3, .slice A4 y.vals.length c4] 44 (0, 0)) := by rw [hw2]; exact heap_alloc_new w5 _
    have BB2 : Below w3.heap.size w3 w6 := below_over hb2 B2;have HB2 : Hid (Below wl.heap.size wl w6) := hZ (HB1.out.trans (BB2.mono HB1.out.size));have HZ2 := hZ Z2;have HXy := hZ hy;have HW2 := hZ hw2;rw [hq2];have HO2 : Hid (w6.ownsRow wl.heap.size 54 4 (.slice A6 q c6) q (cs.map chL).flatten) := hZ (own_block11 HO1.out (fun b hb => BB2.block b (HO1.out.lt b hb).2));have HZ3 : Hid (w6.heap[w2.heap.size]? = some (.cells #[.string x.pkg, .int .i64 x.major, .string x.mod, .slice A1 x.types.length c1, .slice A2 x.vals.length c2] 44 (0, 0))) := hZ ((BB2.block _ (Array.getElem?_eq_some_iff.1 HZ1.out).1).trans HZ1.out);have DT : Hid (∀ wx, Below wl.heap.size wl wx -> Calls Tryz.prog 22 #[.string s, .bool true, .slice A1 x.types.length c1, .slice A3 y.types.length c3] wx fun e w' => ∃ (A' : Option Addr) (c' : Nat), e = .returned (.slice A' (chRow s true x.types y.types).length c') /\ RowIn chR w' A' (chRow s true x.types y.types) /\ Below wx.heap.size wx w') := hZ (fun wx hb => differ_any s true A1 c1 A3 c3 x.types y.types wx (HIx.out wx (below_over HBL.out hb)).1 (HIy.out wx (below_over HBL.out hb)).1 (by rw [HXx.out]; exact (OKA.out s).1) (by rw [HXy.out]; exact (OKB.out s).1) HSM.out);have DV : Hid (∀ wx, Below wl.heap.size wl wx -> Calls Tryz.prog 22 #[.string s, .bool false, .slice A2 x.vals.length c2, .slice A4 y.vals.length c4] wx fun e w' => ∃ (A' : Option Addr) (c' : Nat), e = .returned (.slice A' (chRow s false x.vals y.vals).length c') /\ RowIn chR w' A' (chRow s false x.vals y.vals) /\ Below wx.heap.size wx w') := hZ (fun wx hb => differ_any s false A2 c2 A4 c4 x.vals y.vals wx (HIx.out wx (below_over HBL.out hb)).2 (HIy.out wx (below_over HBL.out hb)).2 (by rw [HXx.out]; exact (OKA.out s).2) (by rw [HXy.out]; exact (OKB.out s).2) HSM.out)
    have LT : (chRow s true x.types y.types).length <= 40000 := by
     have := chRow_len s true x.types y.types
     have h1 : x.types.length <= 20000 := by rw [HXx.out]; exact (OKA.out s).1.len
     have h2 : y.types.length <= 20000 := by rw [HXy.out]; exact (OKB.out s).1.len
     omega
    have LV : (chRow s false x.vals y.vals).length <= 40000 := by
     have := chRow_len s false x.vals y.vals
     have h1 : x.vals.length <= 20000 := by rw [HXx.out]; exact (OKA.out s).2.len
     have h2 : y.vals.length <= 20000 := by rw [HXy.out]; exact (OKB.out s).2.len
     omega
    have CM : Hid (chMod a b s = chRow s true x.types y.types ++ chRow s false x.vals y.vals) := hZ (by rw [chMod_eq, HXx.out, HXy.out]);obtain ⟨rt, hrt⟩ : ∃ r, r = chRow s true x.types y.types := ⟨_, rfl⟩;obtain ⟨rv, hrv⟩ : ∃ r, r = chRow s false x.vals y.vals := ⟨_, rfl⟩;obtain ⟨nt, hnt⟩ : ∃ k, k = rt.length := ⟨_, rfl⟩;obtain ⟨nv, hnv⟩ : ∃ k, k = rv.length := ⟨_, rfl⟩;rw [<- hrt] at DT CM LT;rw [<- hrv] at DV CM LV;rw [<- hnt] at DT LT;rw [<- hnv] at DV LV;have HLN3 := hZ hnt;have HLN4 := hZ hnv;have HZ4 := hZ HZ2.out;obtain ⟨x0, x1, x2, x3, x4⟩ := cq5 HZ3.out;simp at x0 x1 x2 x3 x4;obtain ⟨y0, y1, y2, y3, y4⟩ := cq5 HZ4.out;simp at y0 y1 y2 y3 y4;clear hL hy hb2 hq2 hw2 B2 Z2 BB2 hrt hrv hnt hnv HIx HIy;go_upto_region 9 with fail
    rw [<- HW2.out];clear HW2;go_wp2_with fail
    refine (DT.out w6 HB2.out).mono ?_; rintro e w7 ⟨A39, c39, rfl, hR7, hb7⟩
    have HRR3 := hZ hR7;have HB3D := hZ (HB2.out.trans (hb7.mono HB2.out.size));have HO3 : Hid (w7.ownsRow wl.heap.size 54 4 (.slice A6 q c6) q (cs.map chL).flatten) := hZ (own_block11 HO2.out (fun b hb => hb7.block b (HO2.out.lt b hb).2));have HZ5 := hZ ((hb7.block _ (Array.getElem?_eq_some_iff.1 HZ3.out).1).trans HZ3.out);have HZ6 := hZ ((hb7.block _ (Array.getElem?_eq_some_iff.1 HZ4.out).1).trans HZ4.out);clear hR7 hb7 x0 x1 x2 x3 x4 y0 y1 y2 y3 y4;obtain ⟨inf, g1', g2', g3', g4'⟩ := info_parts chInfo12;obtain ⟨zA3, sA3⟩ := chs_src HRR3.out;obtain ⟨vN, w8, hr, hO3, hg3⟩ := run_append_src (P := Tryz.prog) (w := w7) wl.heap.size 25 25 54 inf (.agg #[.int .i64 0, .string ⟨#[]⟩, .string ⟨#[]⟩, .bool false]) 4 48 Tryz.underlying25 g1' g2' g3' g4' (by rfl) (by decide) (.slice A6 q c6) q (cs.map chL).flatten HO3.out A39 nt c39 (rt.map chL).flatten (by rw [HLN3.out]; exact zA3) (by rw [HLN3.out]; exact chs_flat _) (sA3 w7 (Below.refl _ _)) (chs_one _) (by unfold maxLen; omega) (by omega) HB3D.out.size;have HR := hZ hr;have HB3E : Hid (Below wl.heap.size wl w8) := hZ (below_grown HB3D.out HB3D.out.size HO3.out hg3);obtain ⟨A63, c63, rfl⟩ := own_slice hO3;have HO5 : Hid (w8.ownsRow wl.heap.size 54 4 (.slice A63 (q + nt) c63) (q + nt) ((cs ++ rt).map chL).flatten) := hZ (by rw [List.map_append, List.flatten_append]; exact hO3);have HK3 : Hid (∀ (bx : Nat) (cs : Array Value) (T : TypeId) (fr : Nat × Nat), w7.heap[bx]? = some (.cells cs T fr) -> 54 ≠ T -> w8.heap[bx]? = some (.cells cs T fr)) := hZ (fun bx cs T fr h hT => (hg3.block bx (Array.getElem?_eq_some_iff.1 h).1 (fun e => own_ne HO3.out h hT e.symm)).trans h);clear hO3 hg3 g1' g2' g3' g4' zA3 sA3;go_upto_region 10 with (first | (at_builtin; go_loud (refine Lib.wpList_append_run _ rfl _ _ _ _ rfl _ _ rfl rfl _ _ HR.out ?_)))
    have HZ7 := hZ (HK3.out _ _ _ _ HZ5.out (by decide));have HZ8 := hZ (HK3.out _ _ _ _ HZ6.out (by decide));clear HR HK3 hr;obtain ⟨x0, x1, x2, x3, x4⟩ := cq5 HZ7.out;simp at x0 x1 x2 x3 x4;obtain ⟨y0, y1, y2, y3, y4⟩ := cq5 HZ8.out;simp at y0 y1 y2 y3 y4;go_wp2_with fail
    refine (DV.out w8 HB3E.out).mono ?_; rintro e w9 ⟨A49, c49, rfl, hR9, hb9⟩
    have HRR4 := hZ hR9;have HB4D := hZ (HB3E.out.trans (hb9.mono HB3E.out.size));have HO6 : Hid (w9.ownsRow wl.heap.size 54 4 (.slice A63 (q + nt) c63) (q + nt) ((cs ++ rt).map chL).flatten) := hZ (own_block11 HO5.out (fun b hb => hb9.block b (HO5.out.lt b hb).2));clear hR9 hb9 x0 x1 x2 x3 x4 y0 y1 y2 y3 y4;obtain ⟨inf, g1', g2', g3', g4'⟩ := info_parts chInfo12;obtain ⟨zA4, sA4⟩ := chs_src HRR4.out;obtain ⟨vN, w10, hr, hO3, hg3⟩ := run_append_src (P := Tryz.prog) (w := w9) wl.heap.size 25 25 54 inf (.agg #[.int .i64 0, .string ⟨#[]⟩, .string ⟨#[]⟩, .bool false]) 4 48 Tryz.underlying25 g1' g2' g3' g4' (by rfl) (by decide) (.slice A63 (q + nt) c63) (q + nt) ((cs ++ rt).map chL).flatten HO6.out A49 nv c49 (rv.map chL).flatten (by rw [HLN4.out]; exact zA4) (by rw [HLN4.out]; exact chs_flat _) (sA4 w9 (Below.refl _ _)) (chs_one _) (by unfold maxLen; omega) (by omega) HB4D.out.size;have HR := hZ hr;have HB4E : Hid (Below wl.heap.size wl w10) := hZ (below_grown HB4D.out HB4D.out.size HO6.out hg3);obtain ⟨A64, c64, rfl⟩ := own_slice hO3;have HO7 : Hid (w10.ownsRow wl.heap.size 54 4 (.slice A64 ((q + nt) + nv) c64) ((q + nt) + nv) (((cs ++ rt) ++ rv).map chL).flatten) := hZ (by rw [List.map_append, List.flatten_append]; exact hO3);have HK4 : Hid (∀ (bx : Nat) (cs : Array Value) (T : TypeId) (fr : Nat × Nat), w9.heap[bx]? = some (.cells cs T fr) -> 54 ≠ T -> w10.heap[bx]? = some (.cells cs T fr)) := hZ (fun bx cs T fr h hT => (hg3.block bx (Array.getElem?_eq_some_iff.1 h).1 (fun e => own_ne HO6.out h hT e.symm)).trans h);clear hO3 hg3 g1' g2' g3' g4' zA4 sA4;have NQ : Hid (q + nt + nv = ((ms.take (k + 1)).flatMap (chMod a b)).length) := hZ (by rw [STEP.out, CM.out, List.length_append, List.length_append, <- HQ.out, HLN3.out, HLN4.out]; omega)
    have NO : Hid (w10.ownsRow wl.heap.size 54 4 (.slice A64 (q + nt + nv) c64) (q + nt + nv) (((ms.take (k + 1)).flatMap (chMod a b)).map chL).flatten) := hZ (by
     rw [STEP.out, CM.out, <- List.append_assoc];exact HO7.out)
    go_wp2_with (first | (at_builtin; go_loud (refine Lib.wpList_append_run _ rfl _ _ _ _ rfl _ _ rfl rfl _ _ HR.out ?_)))
    clear HR hr;go_roundw
    case rel => exact ⟨k + 1, q + nt + nv, A64, c64, by omega, by omega, by go_num, rfl, NQ, NO, HB4E⟩
    case measure => simp [intOf]; omega
   ·obtain rfl : k = n := by omega
    have ET : Hid (ms.take k = ms) := hZ (List.take_of_length_le (by rw [<- HN.out]; exact Nat.le_refl _))
    have FIN : Hid (q = (chP a b).length /\ RowIn chR wo A6 (chP a b) /\ Below w.heap.size w wo) := hZ (by
     have h1 := HQ.out;have h2 := HO.out;rw [ET.out, <- hrow.out] at h1 h2;exact ⟨h1, chs_row h1 h2, below_over HBL.out HB.out⟩)
    have hq32 : q <= 3200000 := by omega
    clear HQ HO;go_wp2_with fail
    go_ret2
    exact ⟨FIN.out.2.2, .inr ⟨HF.out, by rw [<- FIN.out.1]; exact hq32, A6, c6, by (rw [<- FIN.out.1]; try rfl), FIN.out.2.1⟩⟩
theorem bumpOf_any (A : Option Addr) (ca : Nat) (B : Option Addr) (cb : Nat) (a b : List If) (w : World) (hA : RowIn ifR w A a) (hB : RowIn ifR w B b) (hla : a.length <= 9223372036854775807) (hlb : b.length <= 9223372036854775807) (hfa : FewIf a) (hfb : FewIf b) :
  Calls Tryz.prog 8 #[.slice A a.length ca, .slice B b.length cb] w (BoOut a b w) := by
 have CC := hZ (changes_any A ca B cb a b w hA hB hla hlb hfa hfb)
 obtain ⟨na, hna⟩ : ∃ k, k = a.length := ⟨_, rfl⟩
 obtain ⟨nb, hnb⟩ : ∃ k, k = b.length := ⟨_, rfl⟩
 rw [<- hna, <- hnb] at CC ⊢
 clear hA hB hla hlb hfa hfb hna hnb
 go_enter Tryz.func8, Tryz.ntmps8
 go_wp2_with fail
 refine CC.out.mono ?_
 rintro e w2 ⟨hb2, ⟨hf, rfl⟩ | ⟨hf, h32, A2, c2, rfl, hR2⟩⟩
 ·have FIN := hZ (And.intro hb2 hf)
  clear hb2 hf CC;go_wp2_with fail
  go_ret2
  exact ⟨FIN.out.1, .inl ⟨FIN.out.2, rfl⟩⟩
 have HF := hZ hf
 have HB2 := hZ hb2
 have HR2 := hZ hR2
 obtain ⟨cs, hcs⟩ : ∃ cs, cs = chP a b := ⟨_, rfl⟩
 obtain ⟨n, hn⟩ : ∃ n, n = cs.length := ⟨_, rfl⟩
 have HN := hZ hn
 have HCS := hZ hcs
 rw [<- hcs] at HR2 h32
 rw [<- hn] at h32
 rw [<- hcs, <- hn]
 clear hb2 hf hR2 CC hcs hn
 go_wp2_with fail
 go_loopw [8, 22] (fun s8 s22 wr => ∃ (k : Nat) (m : Int), k <= n /\ s22 = .int .i64 k /\ s8 = .int .i64 m /\ Hid (m = ofP (cs.take k)) /\ Hid (Below w2.heap.size w2 wr)) (fun _ s22 _ => n - (intOf s22).toNat)
 case atStart => exact ⟨0, 1, by omega, rfl, rfl, hZ (by simp [ofP]), hZ (Below.refl _ _)⟩
 case round =>
  obtain ⟨k, m, hk, rfl, rfl, HM, HB⟩ := hrel;obtain ⟨wo, rfl⟩ : ∃ wo : World, wo = wr := ⟨_, rfl⟩;by_cases hlt : k < n
  ·obtain ⟨x, hx⟩ : ∃ x, cs[k]? = some x := ⟨_, List.getElem?_eq_getElem (by rw [<- HN.out]; exact hlt)⟩
   obtain ⟨g, o, rfl, hg, a0, a1, a2, a3⟩ := (HR2.out.below HB.out).ch hx;obtain ⟨w4, hw4⟩ : ∃ w4, w4 = wo.alloc (.cells #[.int .i64 x.kind, .string x.mod, .string x.name, .bool x.ofT] 54) := ⟨_, rfl⟩;have B4 : Below wo.heap.size wo w4 := by rw [hw4]; exact below_new (Below.refl _ _) _
   have Y4 : w4.heap[wo.heap.size]? = some (.cells #[.int .i64 x.kind, .string x.mod, .string x.name, .bool x.ofT] 54 (0, 0)) := by rw [hw4]; exact heap_alloc_new wo _
   have HB4 := hZ (HB.out.trans (B4.mono HB.out.size))
   have NM : Hid (max m (stepP x.kind) = ofP (cs.take (k + 1))) := hZ (by
    rw [List.take_add_one, hx, HM.out];simp [ofP])
   have SP := hZ (step_any x.kind w4);have HW4 := hZ hw4;have hk0 : (0 : Int) <= k := by omega
   have hk1 : (k : Int) < n := by omega
   have y0 := cZ Y4 0;simp at y0;clear hx hg B4 hw4 Y4;go_upto_region 8 with fail
   rw [<- HW4.out];clear HW4 a0 a1 a2 a3;go_wp2_with fail
   refine SP.out.mono ?_; rintro e w5 ⟨rfl, rfl⟩
   clear SP y0;go_wp2_with fail
   go_roundw
   case rel => exact ⟨k + 1, max m (stepP x.kind), by omega, by go_num, by first | rfl | go_num, NM, HB4⟩
   case measure => simp [intOf]; omega
  ·obtain rfl : k = n := by omega
   have RES : Hid (m = ofP (chP a b)) := hZ (by rw [HM.out, List.take_of_length_le (by rw [<- HN.out]; exact Nat.le_refl _), HCS.out]);have FIN := hZ (below_over HB2.out HB.out);go_wp2_with fail
   go_ret2
   exact ⟨FIN.out, .inr ⟨HF.out, by (rw [<- RES.out]; try rfl)⟩⟩
end Go.Proofs.YtddlmigofilejaaGreat
namespace Go.Proofs.YtddlmigofilejaaGreat
open Go Go.RowKit Go.Shelf
open Go.Sort Go.Maps
open M
structure RxN (w4 : World) (g : Nat) (tt : Ty) (A6 : Option Addr) (n c6 : Nat) (A5 : Option Addr) (c5 : Nat) (wr : World) : Prop where
  below : ∀ b, b < g -> wr.heap[b]? = w4.heap[b]?
  stay : wr.os = w4.os /\ wr.tape = w4.tape /\ wr.output = w4.output /\ w4.heap.size <= wr.heap.size
  box : wr.heap[g]? = some (.cells #[.int .i64 tt.kind, .string tt.pkg, .int .i64 tt.major, .string tt.mod, .string tt.name, .slice A5 tt.names.length c5, .slice A6 n c6] 50 (0, 0))
  own : wr.ownsRow (g + 1) 9 1 (.slice A5 tt.names.length c5) tt.names.length (tt.names.map Value.string)
structure RxI (wb : World) (l2 : Nat) (tt : Ty) (A5 : Option Addr) (c5 : Nat) (xs : List Ty) (A6 : Option Addr) (c6 : Nat) (wr : World) : Prop where
  below : Below wb.heap.size wb wr
  box : wr.heap[wb.heap.size]? = some (.cells #[.int .i64 tt.kind, .string tt.pkg, .int .i64 tt.major, .string tt.mod, .string tt.name, .slice A5 tt.names.length c5, .slice A6 xs.length c6] 50 (0, 0))
  names : NamesAt (strike (fun b => b < wb.heap.size + 1 \/ l2 <= b) wr) A5 tt.names
  rows : Row tR l2 xs A6 c6 wr
  lo : wb.heap.size + 1 <= l2
  lole : l2 <= wr.heap.size
end Go.Proofs.YtddlmigofilejaaGreat
namespace Go.Proofs.YtddlmigofilejaaGreat
open Go.RowKit Go.Shelf
open Go.Sort Go.Maps
open M
structure Rq (m : Mo) (t : Ty) (fb n lo : Nat) (W : World) (F : Nat -> Bool) (L : List Ty) (A : Option Addr) (c : Nat) (wr : World) : Prop where
  below : Below fb W wr
  found : FoundAt wr fb n F
  rch : Rch m t F L
  own : OwnL wr lo (.slice A L.length c) L
  most : L.length + 9000 * unf n F <= 9000 * (n + 1)
end Go.Proofs.YtddlmigofilejaaGreat
namespace Go.Proofs.YtddlmigofilejaaGreat
open Go
open M
theorem idx_find {α : Type} {p : α -> Bool} {x : α} : ∀ {l : List α}, l.find? p = some x ↔ ∃ k, l.findIdx? p = some k /\ l[k]? = some x
  | [] => by simp
  | a :: r => by
    cases hp : p a with
    | true => simp [List.find?_cons, List.findIdx?_cons, hp]
    | false =>
      rw [List.find?_cons, hp, List.findIdx?_cons, hp];simp only [Bool.false_eq_true, if_false];rw [idx_find (l := r)];constructor
      · rintro ⟨k, h1, h2⟩
        exact ⟨k + 1, by rw [h1]; rfl, by simpa using h2⟩
      · rintro ⟨k, h1, h2⟩
        cases e : r.findIdx? p with
        | none => rw [e] at h1; cases h1
        | some j =>
          rw [e] at h1;cases h1
          exact ⟨j, rfl, by simpa using h2⟩
theorem rowP_of {l : List If} {d : ByteArray} {x : If} (h : ofMod l d = some x) (t : Bool) : rowP l d t = rowOf t x := by unfold rowP; rw [h]
section
variable {env env' : List If} (henv : ∀ (x : Im) (s : ByteArray) (t : Ty), envT env x s = some t -> envT env' x s = some t)
include henv
end
end Go.Proofs.YtddlmigofilejaaGreat
