/-
  Several texts in one.
-/
import Derived.Test.YtddlmigofilejaaGreatK22
set_option maxRecDepth 100000
set_option maxHeartbeats 16000000
namespace Go.Proofs.YtddlmigofilejaaGreat
open Go Go.RowKit Go.Shelf
open Go.Sort
open M
theorem rising10_great (A : Option Addr) (c : Nat) (l : List Nm) (w : World) (hR : RowIn nmR w A l) (hl : l.length <= 9223372036854775807) :
  Calls Tryz.prog 47 #[.slice A l.length c, .func (.func 48) #[] #[]] w fun e w' => e = .returned (.bool (risesN true l)) /\ Below w.heap.size w w' := by
 have HR := hZ hR
 obtain ⟨n, hn⟩ : ∃ n, n = l.length := ⟨_, rfl⟩
 have HN := hZ hn
 obtain ⟨V, hV⟩ : ∃ V, V = risesN true l := ⟨_, rfl⟩
 have HV := hZ hV
 rw [<- hn] at hl ⊢
 rw [<- hV]
 clear hR hn hV
 go_enter Tryz.func47, Tryz.ntmps47
 go_wp2_with fail
 go_loopw [9] (fun s9 wr => ∃ k : Nat, k <= n /\ s9 = .int .i64 k /\ Hid (∀ i, i < k -> okAt true l i = true) /\ Hid (Below w.heap.size w wr)) (fun s9 _ => n - (intOf s9).toNat)
 case atStart => exact ⟨0, by omega, rfl, hZ (fun i h => by omega), hZ (Below.refl _ _)⟩
 case round =>
  obtain ⟨k, hk, rfl, HP, HB⟩ := hrel;obtain ⟨wo, rfl⟩ : ∃ wo : World, wo = wr := ⟨_, rfl⟩;by_cases hlt : k < n
  ·obtain ⟨x, hx⟩ : ∃ x, l[k]? = some x := ⟨_, List.getElem?_eq_getElem (by rw [<- HN.out]; exact hlt)⟩
   obtain ⟨g, o, Bn, cB, Bs, dB, rfl, hg, a0, a1, a2, a3, a4, a5, a6, a7, hT, hs⟩ := (HR.out.below HB.out).nm hx;have HX := hZ hx;obtain ⟨w4, hw4⟩ : ∃ w4, w4 = wo.alloc (.cells #[.string x.name, .int .i64 x.typ.kind, .string x.typ.pkg, .int .i64 x.typ.major, .string x.typ.mod, .string x.typ.name, .slice Bn x.typ.names.length cB, .slice Bs x.typ.subs.length dB] 52) := ⟨_, rfl⟩;have B4 : Below wo.heap.size wo w4 := by rw [hw4]; exact below_new (Below.refl _ _) _
   have Y4 : w4.heap[wo.heap.size]? = some (.cells #[.string x.name, .int .i64 x.typ.kind, .string x.typ.pkg, .int .i64 x.typ.major, .string x.typ.mod, .string x.typ.name, .slice Bn x.typ.names.length cB, .slice Bs x.typ.subs.length dB] 52 (0, 0)) := by rw [hw4]; exact heap_alloc_new wo _
   have HB4 := hZ (below_over HB.out B4);have HT4 := hZ (hT.keep B4);have HW4 := hZ hw4;have hk0 : (0 : Int) <= k := by omega
   have hk1 : (k : Int) < n := by omega
   obtain ⟨q1, hq1⟩ : ∃ q, q = nameOk true x.name := ⟨_, rfl⟩;obtain ⟨q4, hq4⟩ : ∃ q, q = (mayT x.typ && plainT x.typ) := ⟨_, rfl⟩;have cN : ∀ dd os, Calls Tryz.prog 48 #[.string x.name] (Sort.grow (redrawn w4 dd) os) fun e w'' => e = .returned (.bool q1) /\ ∃ pp : Regrown, w'' = Sort.grow (redrawn w4 pp.d) pp.os := fun dd os => Calls.regrown_of (by rw [hq1]; exact great10_any x.name _ hs)
   have cP : ∀ dd os, Calls Tryz.prog 76 #[.agg #[.int .i64 x.typ.kind, .string x.typ.pkg, .int .i64 x.typ.major, .string x.typ.mod, .string x.typ.name, .slice Bn x.typ.names.length cB, .slice Bs x.typ.subs.length dB]] (Sort.grow (redrawn w4 dd) os) fun e w'' => e = .returned (.bool q4) /\ ∃ pp : Regrown, w'' = Sort.grow (redrawn w4 pp.d) pp.os := fun dd os => Calls.regrown_of (by
    rw [hq4]; exact plainK_any _ _ _ ⟨_, rfl, HT4.out.keep (below_regrown w4 dd os)⟩)
   have HQ1 := hZ hq1;have HQ4 := hZ hq4;obtain ⟨y0, y1, y2, y3, y4, y5, y6, y7⟩ := cq8 Y4;simp at y0 y1 y2 y3 y4 y5 y6 y7;clear hq1 hq4 Y4 hT hx hg hs B4 hw4;cases k with
   | zero =>
    simp at a0 a1 a2 a3 a4 a5 a6 a7;go_upto_region 4 with fail
    rw [<- HW4.out];clear HW4;cases q1 with
    | false =>
     have p0 := cell_regrown y0;have p1 := cell_regrown y1;have p2 := cell_regrown y2;have p3 := cell_regrown y3;have p4 := cell_regrown y4;have p5 := cell_regrown y5;have p6 := cell_regrown y6;have p7 := cell_regrown y7;clear y0 y1 y2 y3 y4 y5 y6 y7;refine wp_region_quiet_below (by kernel_rfl) (by kernel_rfl) ?_;repeat (any_goals (first | go_big_quiet_step (first | with_reducible exact cN _ _ | with_reducible exact cP _ _) | quiet_step (first | with_reducible exact cN _ _ | with_reducible exact cP _ _)))
     refine wpQuiet_nil ?_;intro w5 hw'
     have HB5 : Hid (Below w.heap.size w w5) := hZ (by
      obtain ⟨⟨dq, osq⟩, hw''⟩ := hw';rw [hw''];exact below_over HB4.out (below_regrown w4 dq osq))
     clear hw' cN cP p0 p1 p2 p3 p4 p5 p6 p7;have RES : V = false := by rw [HV.out]; exact rises_no (i := 0) (by have := HN.out; omega) (by rw [okAt_0 HX.out, <- HQ1.out, <- HQ4.out]; try simp)
     subst RES;go_wp2_with fail
     go_ret;exact ⟨rfl, HB5.out⟩
    | true =>
     cases q4 with
     | false =>
      have p0 := cell_regrown y0;have p1 := cell_regrown y1;have p2 := cell_regrown y2;have p3 := cell_regrown y3;have p4 := cell_regrown y4;have p5 := cell_regrown y5;have p6 := cell_regrown y6;have p7 := cell_regrown y7;clear y0 y1 y2 y3 y4 y5 y6 y7;refine wp_region_quiet_below (by kernel_rfl) (by kernel_rfl) ?_;repeat (any_goals (first | go_big_quiet_step (first | with_reducible exact cN _ _ | with_reducible exact cP _ _) | quiet_step (first | with_reducible exact cN _ _ | with_reducible exact cP _ _)))
      refine wpQuiet_nil ?_;intro w5 hw'
      have HB5 : Hid (Below w.heap.size w w5) := hZ (by
       obtain ⟨⟨dq, osq⟩, hw''⟩ := hw';rw [hw''];exact below_over HB4.out (below_regrown w4 dq osq))
      clear hw' cN cP p0 p1 p2 p3 p4 p5 p6 p7;have RES : V = false := by rw [HV.out]; exact rises_no (i := 0) (by have := HN.out; omega) (by rw [okAt_0 HX.out, <- HQ1.out, <- HQ4.out]; try simp)
      subst RES;go_wp2_with fail
      go_ret;exact ⟨rfl, HB5.out⟩
     | true =>
      have p0 := cell_regrown y0;have p1 := cell_regrown y1;have p2 := cell_regrown y2;have p3 := cell_regrown y3;have p4 := cell_regrown y4;have p5 := cell_regrown y5;have p6 := cell_regrown y6;have p7 := cell_regrown y7;clear y0 y1 y2 y3 y4 y5 y6 y7;refine wp_region_quiet_below (by kernel_rfl) (by kernel_rfl) ?_;repeat (any_goals (first | go_big_quiet_step (first | with_reducible exact cN _ _ | with_reducible exact cP _ _) | quiet_step (first | with_reducible exact cN _ _ | with_reducible exact cP _ _)))
      refine wpQuiet_nil ?_;intro w5 hw'
      have HB5 : Hid (Below w.heap.size w w5) := hZ (by
       obtain ⟨⟨dq, osq⟩, hw''⟩ := hw';rw [hw''];exact below_over HB4.out (below_regrown w4 dq osq))
      clear hw' cN cP p0 p1 p2 p3 p4 p5 p6 p7
      have NX : Hid (∀ i, i < 0 + 1 -> okAt true l i = true) := hZ (fun i hi => by
       rcases Nat.lt_or_ge i (0) with c | c
       ·exact HP.out i c
       ·obtain rfl : i = 0 := by omega
        rw [okAt_0 HX.out, <- HQ1.out, <- HQ4.out]; try simp)
      go_wp2_with fail
      go_roundw
      case rel => exact ⟨0 + 1, by omega, by go_num, NX, HB5⟩
      case measure => simp [intOf]; omega
   | succ k =>
    obtain ⟨y, hy⟩ : ∃ y, l[k]? = some y := ⟨_, List.getElem?_eq_getElem (by rw [<- HN.out]; omega)⟩;obtain ⟨g', o', Dn, cD, Ds, dD, e', hg', b0, -⟩ := (HR.out.below HB4.out).nm hy;cases e'
    have HY := hZ hy;obtain ⟨q3, hq3⟩ : ∃ q, Op.bytesLess y.name.toList x.name.toList = q := ⟨_, rfl⟩;have HQ3 : Hid (leS x.name y.name = !q3) := hZ (by rw [leS_eq, hq3]);have hp1 : ((k : Nat) : Int) + 1 - 1 = k := by omega
    have hp1' : (((k + 1 : Nat) : Int)) - 1 = k := by omega
    have hp0 : decide ((0 : Int) < ((k + 1 : Nat) : Int)) = true := by simp; try omega
    have hp0' : decide ((0 : Int) < (k : Int) + 1) = true := by simp; try omega
    have hkk0 : (0 : Int) <= (k : Int) := by omega
    have hkk1 : (k : Int) < n := by omega
    clear hy hg';go_upto_region 4 with fail
    rw [<- HW4.out];clear HW4;cases q1 with
    | false =>
     have p0 := cell_regrown y0;have p1 := cell_regrown y1;have p2 := cell_regrown y2;have p3 := cell_regrown y3;have p4 := cell_regrown y4;have p5 := cell_regrown y5;have p6 := cell_regrown y6;have p7 := cell_regrown y7;have r0 := cell_regrown b0;clear y0 y1 y2 y3 y4 y5 y6 y7 b0;refine wp_region_quiet_below (by kernel_rfl) (by kernel_rfl) ?_;repeat (any_goals (first | go_big_quiet_step (first | with_reducible exact cN _ _ | with_reducible exact cP _ _) | quiet_step (first | with_reducible exact cN _ _ | with_reducible exact cP _ _)))
     refine wpQuiet_nil ?_;intro w5 hw'
     have HB5 : Hid (Below w.heap.size w w5) := hZ (by
      obtain ⟨⟨dq, osq⟩, hw''⟩ := hw';rw [hw''];exact below_over HB4.out (below_regrown w4 dq osq))
     clear hw' cN cP p0 p1 p2 p3 p4 p5 p6 p7 r0;have RES : V = false := by rw [HV.out]; exact rises_no (i := k + 1) (by have := HN.out; omega) (by rw [okAt_s HX.out HY.out, <- HQ1.out, HQ3.out, <- HQ4.out]; try simp)
     subst RES;go_wp2_with fail
     go_ret;exact ⟨rfl, HB5.out⟩
    | true =>
     cases q3 with
     | false =>
      have p0 := cell_regrown y0;have p1 := cell_regrown y1;have p2 := cell_regrown y2;have p3 := cell_regrown y3;have p4 := cell_regrown y4;have p5 := cell_regrown y5;have p6 := cell_regrown y6;have p7 := cell_regrown y7;have r0 := cell_regrown b0;clear y0 y1 y2 y3 y4 y5 y6 y7 b0;refine wp_region_quiet_below (by kernel_rfl) (by kernel_rfl) ?_;repeat (any_goals (first | go_big_quiet_step (first | with_reducible exact cN _ _ | with_reducible exact cP _ _) | quiet_step (first | with_reducible exact cN _ _ | with_reducible exact cP _ _)))
      refine wpQuiet_nil ?_;intro w5 hw'
      have HB5 : Hid (Below w.heap.size w w5) := hZ (by
       obtain ⟨⟨dq, osq⟩, hw''⟩ := hw';rw [hw''];exact below_over HB4.out (below_regrown w4 dq osq))
      clear hw' cN cP p0 p1 p2 p3 p4 p5 p6 p7 r0;have RES : V = false := by rw [HV.out]; exact rises_no (i := k + 1) (by have := HN.out; omega) (by rw [okAt_s HX.out HY.out, <- HQ1.out, HQ3.out, <- HQ4.out]; try simp)
      subst RES;go_wp2_with fail
      go_ret;exact ⟨rfl, HB5.out⟩
     | true =>
      cases q4 with
      | false =>
       have p0 := cell_regrown y0;have p1 := cell_regrown y1;have p2 := cell_regrown y2;have p3 := cell_regrown y3;have p4 := cell_regrown y4;have p5 := cell_regrown y5;have p6 := cell_regrown y6;have p7 := cell_regrown y7;have r0 := cell_regrown b0;clear y0 y1 y2 y3 y4 y5 y6 y7 b0;refine wp_region_quiet_below (by kernel_rfl) (by kernel_rfl) ?_;repeat (any_goals (first | go_big_quiet_step (first | with_reducible exact cN _ _ | with_reducible exact cP _ _) | quiet_step (first | with_reducible exact cN _ _ | with_reducible exact cP _ _)))
       refine wpQuiet_nil ?_;intro w5 hw'
       have HB5 : Hid (Below w.heap.size w w5) := hZ (by
        obtain ⟨⟨dq, osq⟩, hw''⟩ := hw';rw [hw''];exact below_over HB4.out (below_regrown w4 dq osq))
       clear hw' cN cP p0 p1 p2 p3 p4 p5 p6 p7 r0;have RES : V = false := by rw [HV.out]; exact rises_no (i := k + 1) (by have := HN.out; omega) (by rw [okAt_s HX.out HY.out, <- HQ1.out, HQ3.out, <- HQ4.out]; try simp)
       subst RES;go_wp2_with fail
       go_ret;exact ⟨rfl, HB5.out⟩
      | true =>
       have p0 := cell_regrown y0;have p1 := cell_regrown y1;have p2 := cell_regrown y2;have p3 := cell_regrown y3;have p4 := cell_regrown y4;have p5 := cell_regrown y5;have p6 := cell_regrown y6;have p7 := cell_regrown y7;have r0 := cell_regrown b0;clear y0 y1 y2 y3 y4 y5 y6 y7 b0;refine wp_region_quiet_below (by kernel_rfl) (by kernel_rfl) ?_;repeat (any_goals (first | go_big_quiet_step (first | with_reducible exact cN _ _ | with_reducible exact cP _ _) | quiet_step (first | with_reducible exact cN _ _ | with_reducible exact cP _ _)))
       refine wpQuiet_nil ?_;intro w5 hw'
       have HB5 : Hid (Below w.heap.size w w5) := hZ (by
        obtain ⟨⟨dq, osq⟩, hw''⟩ := hw';rw [hw''];exact below_over HB4.out (below_regrown w4 dq osq))
       clear hw' cN cP p0 p1 p2 p3 p4 p5 p6 p7 r0
       have NX : Hid (∀ i, i < k + 1 + 1 -> okAt true l i = true) := hZ (fun i hi => by
        rcases Nat.lt_or_ge i (k + 1) with c | c
        ·exact HP.out i c
        ·obtain rfl : i = k + 1 := by omega
         rw [okAt_s HX.out HY.out, <- HQ1.out, HQ3.out, <- HQ4.out]; try simp)
       go_wp2_with fail
       go_roundw
       case rel => exact ⟨k + 1 + 1, by omega, by go_num, NX, HB5⟩
       case measure => simp [intOf]; omega
  ·have RV : V = true := by rw [HV.out]; exact rises_yes (fun i hi => HP.out i (by have := HN.out; omega))
   subst RV;go_wp2_with fail
   go_ret;exact ⟨rfl, HB.out⟩
theorem rising10_small (A : Option Addr) (c : Nat) (l : List Nm) (w : World) (hR : RowIn nmR w A l) (hl : l.length <= 9223372036854775807) :
  Calls Tryz.prog 47 #[.slice A l.length c, .func (.func 49) #[] #[]] w fun e w' => e = .returned (.bool (risesN false l)) /\ Below w.heap.size w w' := by
 have HR := hZ hR
 obtain ⟨n, hn⟩ : ∃ n, n = l.length := ⟨_, rfl⟩
 have HN := hZ hn
 obtain ⟨V, hV⟩ : ∃ V, V = risesN false l := ⟨_, rfl⟩
 have HV := hZ hV
 rw [<- hn] at hl ⊢
 rw [<- hV]
 clear hR hn hV
 go_enter Tryz.func47, Tryz.ntmps47
 go_wp2_with fail
 go_loopw [9] (fun s9 wr => ∃ k : Nat, k <= n /\ s9 = .int .i64 k /\ Hid (∀ i, i < k -> okAt false l i = true) /\ Hid (Below w.heap.size w wr)) (fun s9 _ => n - (intOf s9).toNat)
 case atStart => exact ⟨0, by omega, rfl, hZ (fun i h => by omega), hZ (Below.refl _ _)⟩
 case round =>
  obtain ⟨k, hk, rfl, HP, HB⟩ := hrel;obtain ⟨wo, rfl⟩ : ∃ wo : World, wo = wr := ⟨_, rfl⟩;by_cases hlt : k < n
  ·obtain ⟨x, hx⟩ : ∃ x, l[k]? = some x := ⟨_, List.getElem?_eq_getElem (by rw [<- HN.out]; exact hlt)⟩
   obtain ⟨g, o, Bn, cB, Bs, dB, rfl, hg, a0, a1, a2, a3, a4, a5, a6, a7, hT, hs⟩ := (HR.out.below HB.out).nm hx;have HX := hZ hx;obtain ⟨w4, hw4⟩ : ∃ w4, w4 = wo.alloc (.cells #[.string x.name, .int .i64 x.typ.kind, .string x.typ.pkg, .int .i64 x.typ.major, .string x.typ.mod, .string x.typ.name, .slice Bn x.typ.names.length cB, .slice Bs x.typ.subs.length dB] 52) := ⟨_, rfl⟩;have B4 : Below wo.heap.size wo w4 := by rw [hw4]; exact below_new (Below.refl _ _) _
   have Y4 : w4.heap[wo.heap.size]? = some (.cells #[.string x.name, .int .i64 x.typ.kind, .string x.typ.pkg, .int .i64 x.typ.major, .string x.typ.mod, .string x.typ.name, .slice Bn x.typ.names.length cB, .slice Bs x.typ.subs.length dB] 52 (0, 0)) := by rw [hw4]; exact heap_alloc_new wo _
   have HB4 := hZ (below_over HB.out B4);have HT4 := hZ (hT.keep B4);have HW4 := hZ hw4;have hk0 : (0 : Int) <= k := by omega
   have hk1 : (k : Int) < n := by omega
   obtain ⟨q1, hq1⟩ : ∃ q, q = nameOk false x.name := ⟨_, rfl⟩;obtain ⟨q4, hq4⟩ : ∃ q, q = (mayT x.typ && plainT x.typ) := ⟨_, rfl⟩;have cN : ∀ dd os, Calls Tryz.prog 49 #[.string x.name] (Sort.grow (redrawn w4 dd) os) fun e w'' => e = .returned (.bool q1) /\ ∃ pp : Regrown, w'' = Sort.grow (redrawn w4 pp.d) pp.os := fun dd os => Calls.regrown_of (by rw [hq1]; exact small10_any x.name _ hs)
   have cP : ∀ dd os, Calls Tryz.prog 76 #[.agg #[.int .i64 x.typ.kind, .string x.typ.pkg, .int .i64 x.typ.major, .string x.typ.mod, .string x.typ.name, .slice Bn x.typ.names.length cB, .slice Bs x.typ.subs.length dB]] (Sort.grow (redrawn w4 dd) os) fun e w'' => e = .returned (.bool q4) /\ ∃ pp : Regrown, w'' = Sort.grow (redrawn w4 pp.d) pp.os := fun dd os => Calls.regrown_of (by
    rw [hq4]; exact plainK_any _ _ _ ⟨_, rfl, HT4.out.keep (below_regrown w4 dd os)⟩)
   have HQ1 := hZ hq1;have HQ4 := hZ hq4;obtain ⟨y0, y1, y2, y3, y4, y5, y6, y7⟩ := cq8 Y4;simp at y0 y1 y2 y3 y4 y5 y6 y7;clear hq1 hq4 Y4 hT hx hg hs B4 hw4;cases k with
   | zero =>
    simp at a0 a1 a2 a3 a4 a5 a6 a7;go_upto_region 4 with fail
    rw [<- HW4.out];clear HW4;cases q1 with
    | false =>
     have p0 := cell_regrown y0;have p1 := cell_regrown y1;have p2 := cell_regrown y2;have p3 := cell_regrown y3;have p4 := cell_regrown y4;have p5 := cell_regrown y5;have p6 := cell_regrown y6;have p7 := cell_regrown y7;clear y0 y1 y2 y3 y4 y5 y6 y7;refine wp_region_quiet_below (by kernel_rfl) (by kernel_rfl) ?_;repeat (any_goals (first | go_big_quiet_step (first | with_reducible exact cN _ _ | with_reducible exact cP _ _) | quiet_step (first | with_reducible exact cN _ _ | with_reducible exact cP _ _)))
     refine wpQuiet_nil ?_;intro w5 hw'
     have HB5 : Hid (Below w.heap.size w w5) := hZ (by
      obtain ⟨⟨dq, osq⟩, hw''⟩ := hw';rw [hw''];exact below_over HB4.out (below_regrown w4 dq osq))
     clear hw' cN cP p0 p1 p2 p3 p4 p5 p6 p7;have RES : V = false := by rw [HV.out]; exact rises_no (i := 0) (by have := HN.out; omega) (by rw [okAt_0 HX.out, <- HQ1.out, <- HQ4.out]; try simp)
     subst RES;go_wp2_with fail
     go_ret;exact ⟨rfl, HB5.out⟩
    | true =>
     cases q4 with
     | false =>
      have p0 := cell_regrown y0;have p1 := cell_regrown y1;have p2 := cell_regrown y2;have p3 := cell_regrown y3;have p4 := cell_regrown y4;have p5 := cell_regrown y5;have p6 := cell_regrown y6;have p7 := cell_regrown y7;clear y0 y1 y2 y3 y4 y5 y6 y7;refine wp_region_quiet_below (by kernel_rfl) (by kernel_rfl) ?_;repeat (any_goals (first | go_big_quiet_step (first | with_reducible exact cN _ _ | with_reducible exact cP _ _) | quiet_step (first | with_reducible exact cN _ _ | with_reducible exact cP _ _)))
      refine wpQuiet_nil ?_;intro w5 hw'
      have HB5 : Hid (Below w.heap.size w w5) := hZ (by
       obtain ⟨⟨dq, osq⟩, hw''⟩ := hw';rw [hw''];exact below_over HB4.out (below_regrown w4 dq osq))
      clear hw' cN cP p0 p1 p2 p3 p4 p5 p6 p7;have RES : V = false := by rw [HV.out]; exact rises_no (i := 0) (by have := HN.out; omega) (by rw [okAt_0 HX.out, <- HQ1.out, <- HQ4.out]; try simp)
      subst RES;go_wp2_with fail
      go_ret;exact ⟨rfl, HB5.out⟩
     | true =>
      have p0 := cell_regrown y0;have p1 := cell_regrown y1;have p2 := cell_regrown y2;have p3 := cell_regrown y3;have p4 := cell_regrown y4;have p5 := cell_regrown y5;have p6 := cell_regrown y6;have p7 := cell_regrown y7;clear y0 y1 y2 y3 y4 y5 y6 y7;refine wp_region_quiet_below (by kernel_rfl) (by kernel_rfl) ?_;repeat (any_goals (first | go_big_quiet_step (first | with_reducible exact cN _ _ | with_reducible exact cP _ _) | quiet_step (first | with_reducible exact cN _ _ | with_reducible exact cP _ _)))
      refine wpQuiet_nil ?_;intro w5 hw'
      have HB5 : Hid (Below w.heap.size w w5) := hZ (by
       obtain ⟨⟨dq, osq⟩, hw''⟩ := hw';rw [hw''];exact below_over HB4.out (below_regrown w4 dq osq))
      clear hw' cN cP p0 p1 p2 p3 p4 p5 p6 p7
      have NX : Hid (∀ i, i < 0 + 1 -> okAt false l i = true) := hZ (fun i hi => by
       rcases Nat.lt_or_ge i (0) with c | c
       ·exact HP.out i c
       ·obtain rfl : i = 0 := by omega
        rw [okAt_0 HX.out, <- HQ1.out, <- HQ4.out]; try simp)
      go_wp2_with fail
      go_roundw
      case rel => exact ⟨0 + 1, by omega, by go_num, NX, HB5⟩
      case measure => simp [intOf]; omega
   | succ k =>
    obtain ⟨y, hy⟩ : ∃ y, l[k]? = some y := ⟨_, List.getElem?_eq_getElem (by rw [<- HN.out]; omega)⟩;obtain ⟨g', o', Dn, cD, Ds, dD, e', hg', b0, -⟩ := (HR.out.below HB4.out).nm hy;cases e'
    have HY := hZ hy;obtain ⟨q3, hq3⟩ : ∃ q, Op.bytesLess y.name.toList x.name.toList = q := ⟨_, rfl⟩;have HQ3 : Hid (leS x.name y.name = !q3) := hZ (by rw [leS_eq, hq3]);have hp1 : ((k : Nat) : Int) + 1 - 1 = k := by omega
    have hp1' : (((k + 1 : Nat) : Int)) - 1 = k := by omega
    have hp0 : decide ((0 : Int) < ((k + 1 : Nat) : Int)) = true := by simp; try omega
    have hp0' : decide ((0 : Int) < (k : Int) + 1) = true := by simp; try omega
    have hkk0 : (0 : Int) <= (k : Int) := by omega
    have hkk1 : (k : Int) < n := by omega
    clear hy hg';go_upto_region 4 with fail
    rw [<- HW4.out];clear HW4;cases q1 with
    | false =>
     have p0 := cell_regrown y0;have p1 := cell_regrown y1;have p2 := cell_regrown y2;have p3 := cell_regrown y3;have p4 := cell_regrown y4;have p5 := cell_regrown y5;have p6 := cell_regrown y6;have p7 := cell_regrown y7;have r0 := cell_regrown b0;clear y0 y1 y2 y3 y4 y5 y6 y7 b0;refine wp_region_quiet_below (by kernel_rfl) (by kernel_rfl) ?_;repeat (any_goals (first | go_big_quiet_step (first | with_reducible exact cN _ _ | with_reducible exact cP _ _) | quiet_step (first | with_reducible exact cN _ _ | with_reducible exact cP _ _)))
     refine wpQuiet_nil ?_;intro w5 hw'
     have HB5 : Hid (Below w.heap.size w w5) := hZ (by
      obtain ⟨⟨dq, osq⟩, hw''⟩ := hw';rw [hw''];exact below_over HB4.out (below_regrown w4 dq osq))
     clear hw' cN cP p0 p1 p2 p3 p4 p5 p6 p7 r0;have RES : V = false := by rw [HV.out]; exact rises_no (i := k + 1) (by have := HN.out; omega) (by rw [okAt_s HX.out HY.out, <- HQ1.out, HQ3.out, <- HQ4.out]; try simp)
     subst RES;go_wp2_with fail
     go_ret;exact ⟨rfl, HB5.out⟩
    | true =>
     cases q3 with
     | false =>
      have p0 := cell_regrown y0;have p1 := cell_regrown y1;have p2 := cell_regrown y2;have p3 := cell_regrown y3;have p4 := cell_regrown y4;have p5 := cell_regrown y5;have p6 := cell_regrown y6;have p7 := cell_regrown y7;have r0 := cell_regrown b0;clear y0 y1 y2 y3 y4 y5 y6 y7 b0;refine wp_region_quiet_below (by kernel_rfl) (by kernel_rfl) ?_;repeat (any_goals (first | go_big_quiet_step (first | with_reducible exact cN _ _ | with_reducible exact cP _ _) | quiet_step (first | with_reducible exact cN _ _ | with_reducible exact cP _ _)))
      refine wpQuiet_nil ?_;intro w5 hw'
      have HB5 : Hid (Below w.heap.size w w5) := hZ (by
       obtain ⟨⟨dq, osq⟩, hw''⟩ := hw';rw [hw''];exact below_over HB4.out (below_regrown w4 dq osq))
      clear hw' cN cP p0 p1 p2 p3 p4 p5 p6 p7 r0;have RES : V = false := by rw [HV.out]; exact rises_no (i := k + 1) (by have := HN.out; omega) (by rw [okAt_s HX.out HY.out, <- HQ1.out, HQ3.out, <- HQ4.out]; try simp)
      subst RES;go_wp2_with fail
      go_ret;exact ⟨rfl, HB5.out⟩
     | true =>
      cases q4 with
      | false =>
       have p0 := cell_regrown y0;have p1 := cell_regrown y1;have p2 := cell_regrown y2;have p3 := cell_regrown y3;have p4 := cell_regrown y4;have p5 := cell_regrown y5;have p6 := cell_regrown y6;have p7 := cell_regrown y7;have r0 := cell_regrown b0;clear y0 y1 y2 y3 y4 y5 y6 y7 b0;refine wp_region_quiet_below (by kernel_rfl) (by kernel_rfl) ?_;repeat (any_goals (first | go_big_quiet_step (first | with_reducible exact cN _ _ | with_reducible exact cP _ _) | quiet_step (first | with_reducible exact cN _ _ | with_reducible exact cP _ _)))
       refine wpQuiet_nil ?_;intro w5 hw'
       have HB5 : Hid (Below w.heap.size w w5) := hZ (by
        obtain ⟨⟨dq, osq⟩, hw''⟩ := hw';rw [hw''];exact below_over HB4.out (below_regrown w4 dq osq))
       clear hw' cN cP p0 p1 p2 p3 p4 p5 p6 p7 r0;have RES : V = false := by rw [HV.out]; exact rises_no (i := k + 1) (by have := HN.out; omega) (by rw [okAt_s HX.out HY.out, <- HQ1.out, HQ3.out, <- HQ4.out]; try simp)
       subst RES;go_wp2_with fail
       go_ret;exact ⟨rfl, HB5.out⟩
      | true =>
       have p0 := cell_regrown y0;have p1 := cell_regrown y1;have p2 := cell_regrown y2;have p3 := cell_regrown y3;have p4 := cell_regrown y4;have p5 := cell_regrown y5;have p6 := cell_regrown y6;have p7 := cell_regrown y7;have r0 := cell_regrown b0;clear y0 y1 y2 y3 y4 y5 y6 y7 b0;refine wp_region_quiet_below (by kernel_rfl) (by kernel_rfl) ?_;repeat (any_goals (first | go_big_quiet_step (first | with_reducible exact cN _ _ | with_reducible exact cP _ _) | quiet_step (first | with_reducible exact cN _ _ | with_reducible exact cP _ _)))
       refine wpQuiet_nil ?_;intro w5 hw'
       have HB5 : Hid (Below w.heap.size w w5) := hZ (by
        obtain ⟨⟨dq, osq⟩, hw''⟩ := hw';rw [hw''];exact below_over HB4.out (below_regrown w4 dq osq))
       clear hw' cN cP p0 p1 p2 p3 p4 p5 p6 p7 r0
       have NX : Hid (∀ i, i < k + 1 + 1 -> okAt false l i = true) := hZ (fun i hi => by
        rcases Nat.lt_or_ge i (k + 1) with c | c
        ·exact HP.out i c
        ·obtain rfl : i = k + 1 := by omega
         rw [okAt_s HX.out HY.out, <- HQ1.out, HQ3.out, <- HQ4.out]; try simp)
       go_wp2_with fail
       go_roundw
       case rel => exact ⟨k + 1 + 1, by omega, by go_num, NX, HB5⟩
       case measure => simp [intOf]; omega
  ·have RV : V = true := by rw [HV.out]; exact rises_yes (fun i hi => HP.out i (by have := HN.out; omega))
   subst RV;go_wp2_with fail
   go_ret;exact ⟨rfl, HB.out⟩
theorem box1 (w : World) (cs : Array Value) (T : TypeId) : ∃ W, W = w.alloc (.cells cs T) /\ Below w.heap.size w W /\ W.heap[w.heap.size]? = some (.cells cs T (0, 0)) /\ W.heap.size = w.heap.size + 1 :=
  ⟨_, rfl, below_new (Below.refl _ _) _, heap_alloc_new w _, by simp⟩
theorem may10_any (x : If) (lx : List Value) (w : World) (hx : ifE w lx x) :
    Calls Tryz.prog 24 #[.agg lx.toArray] w fun e w' => e = .returned (.bool (mayIf x)) /\ Below w.heap.size w w' := by
  obtain ⟨At, ct, Av, cv, rfl, z1, z2, z3, z4, hT, hV⟩ := hx;obtain ⟨W, hW, B, X, sW⟩ := box1 w #[.string x.pkg, .int .i64 x.major, .string x.mod, .slice At x.types.length ct, .slice Av x.vals.length cv] 44;have HT := hZ hT;have HV := hZ hV;have HB := hZ B;have HW := hZ hW;have HX : Hid (∀ wx, Below W.heap.size W wx -> wx.heap[w.heap.size]? = some (.cells #[.string x.pkg, .int .i64 x.major, .string x.mod, .slice At x.types.length ct, .slice Av x.vals.length cv] 44 (0, 0))) := hZ (fun wx hb => (hb.block _ (by omega)).trans X);obtain ⟨q1, hq1⟩ : ∃ q, q = mayT (opT x.pkg x.major x.mod ⟨#[84]⟩) := ⟨_, rfl⟩;obtain ⟨q2, hq2⟩ : ∃ q, q = risesN true x.types := ⟨_, rfl⟩;obtain ⟨q3, hq3⟩ : ∃ q, q = risesN false x.vals := ⟨_, rfl⟩;have e : mayIf x = (q1 && (q2 && q3)) := by rw [hq1, hq2, hq3]; rfl
  rw [e];have C1 := hZ (fun w' => mayK_any _ _ w' (opV x.pkg x.major x.mod ⟨#[84]⟩ w' z1 z2 (by decide)));have C2 := hZ (fun w' (hb : Below w.heap.size w w') => rising10_great At ct x.types w' (HT.out.below hb) z3);have C3 := hZ (fun w' (hb : Below w.heap.size w w') => rising10_small Av cv x.vals w' (HV.out.below hb) z4);rw [<- hq1] at C1;rw [<- hq2] at C2;rw [<- hq3] at C3;obtain ⟨x0, x1, x2, x3, x4⟩ := cq5 X;simp at x0 x1 x2 x3 x4;clear hT hV B hW X sW e hq1 hq2 hq3;go_enter Tryz.func24, Tryz.ntmps24
  go_upto_region 1 with fail
  rw [<- HW.out];clear HW;go_wp2_with fail
  refine (open10_any _ _ _ _ _).mono ?_; rintro e w2 ⟨rfl, hb2⟩
  go_wp2_with fail
  refine (C1.out _).mono ?_; rintro e w3 ⟨rfl, hb3⟩
  have HB3w := hZ (below_over hb2 hb3);have HB3 := hZ (below_over HB.out HB3w.out);clear x0 x1 x2 x3 x4 hb2 hb3;cases q1 with
  | false =>
    go_wp2_with fail
    go_ret;exact ⟨rfl, HB3.out⟩
  | true =>
    have X3 := HX.out w3 HB3w.out;obtain ⟨x0, x1, x2, x3, x4⟩ := cq5 X3;simp at x0 x1 x2 x3 x4;clear X3;go_wp2_with fail
    refine (C2.out w3 HB3.out).mono ?_; rintro e w4 ⟨rfl, hb4⟩
    have HB4w := hZ (below_over HB3w.out hb4);have HB4 := hZ (below_over HB3.out hb4);clear x0 x1 x2 x3 x4 hb4;cases q2 with
    | false =>
      go_wp2_with fail
      go_ret;exact ⟨rfl, HB4.out⟩
    | true =>
      have X4 := HX.out w4 HB4w.out;obtain ⟨x0, x1, x2, x3, x4⟩ := cq5 X4;simp at x0 x1 x2 x3 x4;clear X4;go_wp2_with fail
      refine (C3.out w4 HB4.out).mono ?_; rintro e w5 ⟨rfl, hb5⟩
      have HB5 := hZ (below_over HB4.out hb5);clear x0 x1 x2 x3 x4 hb5;go_wp2_with fail
      go_ret;exact ⟨rfl, HB5.out⟩
theorem ifE.below12 {w w' : World} {l : List Value} {x : If} (h : ifE w l x) (hb : Below w.heap.size w w') : ifE w' l x := ifR.keep _ _ _ _ h hb
theorem RowIn.ifc2 {w : World} {A : Option Addr} {xs : List If} (h : RowIn ifR w A xs) {i : Nat} {x : If} (hx : xs[i]? = some x) : ∃ (g o : Nat) (At : Option Addr) (ct : Nat) (Av : Option Addr) (cv : Nat), A = some ⟨g, o, none⟩ /\ g < w.heap.size /\
  w.cell? ⟨g, o + i * 5, none⟩ = some (.string x.pkg) /\ w.cell? ⟨g, o + i * 5 + 1, none⟩ = some (.int .i64 x.major) /\ w.cell? ⟨g, o + i * 5 + 2, none⟩ = some (.string x.mod) /\ w.cell? ⟨g, o + i * 5 + 3, none⟩ = some (.slice At x.types.length ct) /\ w.cell? ⟨g, o + i * 5 + 4, none⟩ = some (.slice Av x.vals.length cv) /\
  ifE w [.string x.pkg, .int .i64 x.major, .string x.mod, .slice At x.types.length ct, .slice Av x.vals.length cv] x := by
 obtain ⟨g, o, l, hA, hg, hc, At, ct, Av, cv, rfl, h1, h2, h3, h4, h5, h6⟩ := h i x hx
 exact ⟨g, o, At, ct, Av, cv, hA, hg, hc 0 _ rfl, hc 1 _ rfl, hc 2 _ rfl, hc 3 _ rfl, hc 4 _ rfl, _, _, _, _, rfl, h1, h2, h3, h4, h5, h6⟩
theorem mayPk_any (A : Option Addr) (c : Nat) (l : List If) (w : World) (hR : RowIn ifR w A l) (hl : l.length <= 9223372036854775807) :
  Calls Tryz.prog 9 #[.slice A l.length c] w fun e w' => e = .returned (.bool (mayPk l)) /\ Below w.heap.size w w' := by
 have HR := hZ hR
 obtain ⟨n, hn⟩ : ∃ n, n = l.length := ⟨_, rfl⟩
 have HN := hZ hn
 obtain ⟨V, hV⟩ : ∃ V, V = mayPk l := ⟨_, rfl⟩
 have HV := hZ hV
 rw [<- hn] at hl ⊢
 rw [<- hV]
 clear hR hn hV
 by_cases h20 : 20 < n
 ·have e1 : (n : Int) > 20 := by omega
  have e2 : (20 : Int) < n := by omega
  have RV : V = false := by rw [HV.out]; exact mayPk_long (by rw [<- HN.out]; exact h20)
  subst RV;go_enter Tryz.func9, Tryz.ntmps9
  go_wp2_with fail
  go_ret;exact ⟨rfl, Below.refl _ _⟩
 have e1 : ¬ (n : Int) > 20 := by omega
 have e2 : ¬ (20 : Int) < n := by omega
 go_enter Tryz.func9, Tryz.ntmps9
 go_wp2_with fail
 clear e1 e2
 go_loopw [10] (fun s10 wr => ∃ k : Nat, k <= n /\ s10 = .int .i64 k /\ Hid (∀ i, i < k -> okPk l i = true) /\ Hid (Below w.heap.size w wr)) (fun s10 _ => n - (intOf s10).toNat)
 case atStart => exact ⟨0, by omega, rfl, hZ (fun i h => by omega), hZ (Below.refl _ _)⟩
 case round =>
  obtain ⟨k, hk, rfl, HP, HB⟩ := hrel;obtain ⟨wo, rfl⟩ : ∃ wo : World, wo = wr := ⟨_, rfl⟩;by_cases hlt : k < n
  ·obtain ⟨x, hx⟩ : ∃ x, l[k]? = some x := ⟨_, List.getElem?_eq_getElem (by rw [<- HN.out]; exact hlt)⟩
   obtain ⟨g, o, A1, c1, A2, c2, rfl, hg, a0, a1, a2, a3, a4, hT⟩ := (HR.out.below HB.out).ifc2 hx;have HX := hZ hx;obtain ⟨w4, hw4⟩ : ∃ w4, w4 = wo.alloc (.cells #[.string x.pkg, .int .i64 x.major, .string x.mod, .slice A1 x.types.length c1, .slice A2 x.vals.length c2] 44) := ⟨_, rfl⟩;have B4 : Below wo.heap.size wo w4 := by rw [hw4]; exact below_new (Below.refl _ _) _
   have Y4 : w4.heap[wo.heap.size]? = some (.cells #[.string x.pkg, .int .i64 x.major, .string x.mod, .slice A1 x.types.length c1, .slice A2 x.vals.length c2] 44 (0, 0)) := by rw [hw4]; exact heap_alloc_new wo _
   have HB4 := hZ (below_over HB.out B4);have HT4 := hZ (hT.below12 B4);have HW4 := hZ hw4;have hk0 : (0 : Int) <= k := by omega
   have hk1 : (k : Int) < n := by omega
   obtain ⟨q1, hq1⟩ : ∃ q, q = mayIf x := ⟨_, rfl⟩
   have cM : ∀ dd os, Calls Tryz.prog 24 #[.agg #[.string x.pkg, .int .i64 x.major, .string x.mod, .slice A1 x.types.length c1, .slice A2 x.vals.length c2]] (Sort.grow (redrawn w4 dd) os) fun e w'' => e = .returned (.bool q1) /\ ∃ pp : Regrown, w'' = Sort.grow (redrawn w4 pp.d) pp.os := fun dd os => Calls.regrown_of (by
    rw [hq1]; exact may10_any x [.string x.pkg, .int .i64 x.major, .string x.mod, .slice A1 x.types.length c1, .slice A2 x.vals.length c2] _ (HT4.out.below12 (below_regrown w4 dd os)))
   have HQ1 := hZ hq1;obtain ⟨y0, y1, y2, y3, y4⟩ := cq5 Y4;simp at y0 y1 y2 y3 y4;clear hq1 Y4 hT hx hg B4 hw4;cases k with
   | zero =>
    simp at a0 a1 a2 a3 a4;go_upto_region 6 with fail
    rw [<- HW4.out];clear HW4;cases q1 with
    | false =>
     have p0 := cell_regrown y0;have p1 := cell_regrown y1;have p2 := cell_regrown y2;have p3 := cell_regrown y3;have p4 := cell_regrown y4;clear y0 y1 y2 y3 y4;refine wp_region_quiet_below (by kernel_rfl) (by kernel_rfl) ?_;repeat (any_goals (first | go_big_quiet_step (first | with_reducible exact cM _ _) | quiet_step (first | with_reducible exact cM _ _)))
     refine wpQuiet_nil ?_;intro w5 hw'
     have HB5 : Hid (Below w.heap.size w w5) := hZ (by
      obtain ⟨⟨dq, osq⟩, hw''⟩ := hw';rw [hw''];exact below_over HB4.out (below_regrown w4 dq osq))
     clear hw' cM p0 p1 p2 p3 p4;have RES : V = false := by rw [HV.out]; exact mayPk_no (i := 0) (by have := HN.out; omega) (by rw [okPk_0 HX.out, <- HQ1.out]; try simp)
     subst RES;go_wp2_with fail
     go_ret;exact ⟨rfl, HB5.out⟩
    | true =>
     have p0 := cell_regrown y0;have p1 := cell_regrown y1;have p2 := cell_regrown y2;have p3 := cell_regrown y3;have p4 := cell_regrown y4;clear y0 y1 y2 y3 y4;refine wp_region_quiet_below (by kernel_rfl) (by kernel_rfl) ?_;repeat (any_goals (first | go_big_quiet_step (first | with_reducible exact cM _ _) | quiet_step (first | with_reducible exact cM _ _)))
     refine wpQuiet_nil ?_;intro w5 hw'
     have HB5 : Hid (Below w.heap.size w w5) := hZ (by
      obtain ⟨⟨dq, osq⟩, hw''⟩ := hw';rw [hw''];exact below_over HB4.out (below_regrown w4 dq osq))
     clear hw' cM p0 p1 p2 p3 p4
     have NX : Hid (∀ i, i < 0 + 1 -> okPk l i = true) := hZ (fun i hi => by
      rcases Nat.lt_or_ge i (0) with c | c
      ·exact HP.out i c
      ·obtain rfl : i = 0 := by omega
       rw [okPk_0 HX.out, <- HQ1.out]; try simp)
     go_wp2_with fail
     go_roundw
     case rel => exact ⟨0 + 1, by omega, by go_num, NX, HB5⟩
     case measure => simp [intOf]; omega
   | succ k =>
    obtain ⟨y, hy⟩ : ∃ y, l[k]? = some y := ⟨_, List.getElem?_eq_getElem (by rw [<- HN.out]; omega)⟩;obtain ⟨g', o', A3, c3, A4, c4, e', hg', b0, b1, b2, b3, b4, -⟩ := (HR.out.below HB4.out).ifc2 hy;cases e'
    have HY := hZ hy;obtain ⟨q2, hq2⟩ : ∃ q, q = samePk y x := ⟨_, rfl⟩
    have cS : ∀ dd os, Calls Tryz.prog 25 #[.agg #[.string y.pkg, .int .i64 y.major, .string y.mod, .slice A3 y.types.length c3, .slice A4 y.vals.length c4], .agg #[.string x.pkg, .int .i64 x.major, .string x.mod, .slice A1 x.types.length c1, .slice A2 x.vals.length c2]] (Sort.grow (redrawn w4 dd) os) fun e w'' => e = .returned (.bool q2) /\ ∃ pp : Regrown, w'' = Sort.grow (redrawn w4 pp.d) pp.os := fun dd os => Calls.regrown_of (by
     rw [hq2]; exact samePk_any y x A3 c3 A4 c4 A1 c1 A2 c2 _)
    have HQ2 := hZ hq2;obtain ⟨q3, hq3⟩ : ∃ q, Op.bytesLess y.mod.toList x.mod.toList = q := ⟨_, rfl⟩;have HQ3 : Hid (decide (LtS y.mod x.mod) = q3) := hZ (by rw [<- hq3, bless_lts]);have hp1 : ((k : Nat) : Int) + 1 - 1 = k := by omega
    have hp1' : (((k + 1 : Nat) : Int)) - 1 = k := by omega
    have hp0 : decide ((0 : Int) < ((k + 1 : Nat) : Int)) = true := by simp; try omega
    have hp0' : decide ((0 : Int) < (k : Int) + 1) = true := by simp; try omega
    have hkk0 : (0 : Int) <= (k : Int) := by omega
    have hkk1 : (k : Int) < n := by omega
    clear hy hg' hq2;go_upto_region 6 with fail
    rw [<- HW4.out];clear HW4;cases q1 with
    | false =>
     have p0 := cell_regrown y0;have p1 := cell_regrown y1;have p2 := cell_regrown y2;have p3 := cell_regrown y3;have p4 := cell_regrown y4;have r0 := cell_regrown b0;have r1 := cell_regrown b1;have r2 := cell_regrown b2;have r3 := cell_regrown b3;have r4 := cell_regrown b4;clear y0 y1 y2 y3 y4 b0 b1 b2 b3 b4;refine wp_region_quiet_below (by kernel_rfl) (by kernel_rfl) ?_;repeat (any_goals (first | go_big_quiet_step (first | with_reducible exact cM _ _ | with_reducible exact cS _ _) | quiet_step (first | with_reducible exact cM _ _ | with_reducible exact cS _ _)))
     refine wpQuiet_nil ?_;intro w5 hw'
     have HB5 : Hid (Below w.heap.size w w5) := hZ (by
      obtain ⟨⟨dq, osq⟩, hw''⟩ := hw';rw [hw''];exact below_over HB4.out (below_regrown w4 dq osq))
     clear hw' cM cS p0 p1 p2 p3 p4 r0 r1 r2 r3 r4;have RES : V = false := by rw [HV.out]; exact mayPk_no (i := k + 1) (by have := HN.out; omega) (by rw [okPk_s HX.out HY.out, <- HQ1.out, <- HQ2.out, HQ3.out]; try simp)
     subst RES;go_wp2_with fail
     go_ret;exact ⟨rfl, HB5.out⟩
    | true =>
     cases q2 with
     | false =>
      have p0 := cell_regrown y0;have p1 := cell_regrown y1;have p2 := cell_regrown y2;have p3 := cell_regrown y3;have p4 := cell_regrown y4;have r0 := cell_regrown b0;have r1 := cell_regrown b1;have r2 := cell_regrown b2;have r3 := cell_regrown b3;have r4 := cell_regrown b4;clear y0 y1 y2 y3 y4 b0 b1 b2 b3 b4;refine wp_region_quiet_below (by kernel_rfl) (by kernel_rfl) ?_;repeat (any_goals (first | go_big_quiet_step (first | with_reducible exact cM _ _ | with_reducible exact cS _ _) | quiet_step (first | with_reducible exact cM _ _ | with_reducible exact cS _ _)))
      refine wpQuiet_nil ?_;intro w5 hw'
      have HB5 : Hid (Below w.heap.size w w5) := hZ (by
       obtain ⟨⟨dq, osq⟩, hw''⟩ := hw';rw [hw''];exact below_over HB4.out (below_regrown w4 dq osq))
      clear hw' cM cS p0 p1 p2 p3 p4 r0 r1 r2 r3 r4;have RES : V = false := by rw [HV.out]; exact mayPk_no (i := k + 1) (by have := HN.out; omega) (by rw [okPk_s HX.out HY.out, <- HQ1.out, <- HQ2.out, HQ3.out]; try simp)
      subst RES;go_wp2_with fail
      go_ret;exact ⟨rfl, HB5.out⟩
     | true =>
      cases q3 with
      | false =>
       have p0 := cell_regrown y0;have p1 := cell_regrown y1;have p2 := cell_regrown y2;have p3 := cell_regrown y3;have p4 := cell_regrown y4;have r0 := cell_regrown b0;have r1 := cell_regrown b1;have r2 := cell_regrown b2;have r3 := cell_regrown b3;have r4 := cell_regrown b4;clear y0 y1 y2 y3 y4 b0 b1 b2 b3 b4;refine wp_region_quiet_below (by kernel_rfl) (by kernel_rfl) ?_;repeat (any_goals (first | go_big_quiet_step (first | with_reducible exact cM _ _ | with_reducible exact cS _ _) | quiet_step (first | with_reducible exact cM _ _ | with_reducible exact cS _ _)))
       refine wpQuiet_nil ?_;intro w5 hw'
       have HB5 : Hid (Below w.heap.size w w5) := hZ (by
        obtain ⟨⟨dq, osq⟩, hw''⟩ := hw';rw [hw''];exact below_over HB4.out (below_regrown w4 dq osq))
       clear hw' cM cS p0 p1 p2 p3 p4 r0 r1 r2 r3 r4;have RES : V = false := by rw [HV.out]; exact mayPk_no (i := k + 1) (by have := HN.out; omega) (by rw [okPk_s HX.out HY.out, <- HQ1.out, <- HQ2.out, HQ3.out]; try simp)
       subst RES;go_wp2_with fail
       go_ret;exact ⟨rfl, HB5.out⟩
      | true =>
       have p0 := cell_regrown y0;have p1 := cell_regrown y1;have p2 := cell_regrown y2;have p3 := cell_regrown y3;have p4 := cell_regrown y4;have r0 := cell_regrown b0;have r1 := cell_regrown b1;have r2 := cell_regrown b2;have r3 := cell_regrown b3;have r4 := cell_regrown b4;clear y0 y1 y2 y3 y4 b0 b1 b2 b3 b4;refine wp_region_quiet_below (by kernel_rfl) (by kernel_rfl) ?_;repeat (any_goals (first | go_big_quiet_step (first | with_reducible exact cM _ _ | with_reducible exact cS _ _) | quiet_step (first | with_reducible exact cM _ _ | with_reducible exact cS _ _)))
       refine wpQuiet_nil ?_;intro w5 hw'
       have HB5 : Hid (Below w.heap.size w w5) := hZ (by
        obtain ⟨⟨dq, osq⟩, hw''⟩ := hw';rw [hw''];exact below_over HB4.out (below_regrown w4 dq osq))
       clear hw' cM cS p0 p1 p2 p3 p4 r0 r1 r2 r3 r4
       have NX : Hid (∀ i, i < k + 1 + 1 -> okPk l i = true) := hZ (fun i hi => by
        rcases Nat.lt_or_ge i (k + 1) with c | c
        ·exact HP.out i c
        ·obtain rfl : i = k + 1 := by omega
         rw [okPk_s HX.out HY.out, <- HQ1.out, <- HQ2.out, HQ3.out]; try simp)
       go_wp2_with fail
       go_roundw
       case rel => exact ⟨k + 1 + 1, by omega, by go_num, NX, HB5⟩
       case measure => simp [intOf]; omega
  ·have RV : V = true := by rw [HV.out]; exact mayPk_yes (by rw [<- HN.out]; omega) (fun i hi => HP.out i (by have := HN.out; omega))
   subst RV;go_wp2_with fail
   go_ret;exact ⟨rfl, HB.out⟩
theorem fairP_eq {a b : List If} {x y : If} (hx : a[0]? = some x) (hy : b[0]? = some y) : fairP a b = (mayPk a && (mayPk b && samePk x y)) := by
 unfold fairP; rw [hx, hy]
theorem fairP_nil {a b : List If} (h : a.length = 0 \/ b.length = 0) : fairP a b = (mayPk a && mayPk b) := by
 unfold fairP
 rcases h with h | h
 ·rw [List.length_eq_zero_iff] at h
  subst h; simp
 ·rw [List.length_eq_zero_iff] at h
  subst h;cases a[0]? <;> simp
theorem ofOne_any (A : Option Addr) (ca : Nat) (B : Option Addr) (cb : Nat) (a b : List If) (w : World) (hA : RowIn ifR w A a) (hB : RowIn ifR w B b) (hla : a.length <= 9223372036854775807) (hlb : b.length <= 9223372036854775807) :
  Calls Tryz.prog 18 #[.slice A a.length ca, .slice B b.length cb] w fun e w' => e = .returned (.bool (fairP a b)) /\ Below w.heap.size w w' := by
 obtain ⟨q1, hq1⟩ : ∃ q, q = mayPk a := ⟨_, rfl⟩
 obtain ⟨q2, hq2⟩ : ∃ q, q = mayPk b := ⟨_, rfl⟩
 have cA : ∀ dd os, Calls Tryz.prog 9 #[.slice A a.length ca] (Sort.grow (redrawn w dd) os) fun e w'' => e = .returned (.bool q1) /\ ∃ pp : Regrown, w'' = Sort.grow (redrawn w pp.d) pp.os := fun dd os => Calls.regrown_of (by
  rw [hq1]; exact mayPk_any A ca a _ (hA.below (below_regrown w dd os)) hla)
 have cB : ∀ dd os, Calls Tryz.prog 9 #[.slice B b.length cb] (Sort.grow (redrawn w dd) os) fun e w'' => e = .returned (.bool q2) /\ ∃ pp : Regrown, w'' = Sort.grow (redrawn w pp.d) pp.os := fun dd os => Calls.regrown_of (by
  rw [hq2]; exact mayPk_any B cb b _ (hB.below (below_regrown w dd os)) hlb)
 obtain ⟨V, hV⟩ : ∃ V, V = fairP a b := ⟨_, rfl⟩
 have HV := hZ hV
 have HQ1 := hZ hq1
 have HQ2 := hZ hq2
 rw [<- hV]
 clear hV hq1 hq2
 rcases Nat.eq_zero_or_pos a.length with ea | ea
 ·have HE : Hid (V = (q1 && q2)) := hZ (by rw [HV.out, fairP_nil (.inl ea), HQ1.out, HQ2.out])
  rw [ea] at cA ⊢;obtain ⟨nb, hnb⟩ : ∃ k, k = b.length := ⟨_, rfl⟩;rw [<- hnb] at cB ⊢;clear hA hB hla hlb ea hnb;cases q1 with
  | false =>
   have RV : V = false := HE.out;subst RV;go_enter Tryz.func18, Tryz.ntmps18
   go_upto_region 1 with fail
   refine wp_region_quiet_below (by kernel_rfl) (by kernel_rfl) ?_;repeat (any_goals (first | go_big_quiet_step (first | with_reducible exact cA _ _ | with_reducible exact cB _ _) | quiet_step (first | with_reducible exact cA _ _ | with_reducible exact cB _ _)))
   refine wpQuiet_nil ?_;intro w5 hw';obtain ⟨⟨dq, osq⟩, hw''⟩ := hw';subst hw'';have HBQ := hZ (below_regrown w dq osq);go_wp2_with fail
   go_ret;exact ⟨rfl, HBQ.out⟩
  | true =>
   cases q2 with
   | false =>
    have RV : V = false := HE.out;subst RV;go_enter Tryz.func18, Tryz.ntmps18
    go_upto_region 1 with fail
    refine wp_region_quiet_below (by kernel_rfl) (by kernel_rfl) ?_;repeat (any_goals (first | go_big_quiet_step (first | with_reducible exact cA _ _ | with_reducible exact cB _ _) | quiet_step (first | with_reducible exact cA _ _ | with_reducible exact cB _ _)))
    refine wpQuiet_nil ?_;intro w5 hw';obtain ⟨⟨dq, osq⟩, hw''⟩ := hw';subst hw'';have HBQ := hZ (below_regrown w dq osq);go_wp2_with fail
    go_ret;exact ⟨rfl, HBQ.out⟩
   | true =>
    have RV : V = true := HE.out;subst RV;go_enter Tryz.func18, Tryz.ntmps18
    go_upto_region 1 with fail
    refine wp_region_quiet_below (by kernel_rfl) (by kernel_rfl) ?_;repeat (any_goals (first | go_big_quiet_step (first | with_reducible exact cA _ _ | with_reducible exact cB _ _) | quiet_step (first | with_reducible exact cA _ _ | with_reducible exact cB _ _)))
    refine wpQuiet_nil ?_;intro w5 hw';obtain ⟨⟨dq, osq⟩, hw''⟩ := hw';subst hw'';have HBQ := hZ (below_regrown w dq osq);go_wp2_with fail
    go_ret;exact ⟨rfl, HBQ.out⟩
 obtain ⟨x, hx⟩ : ∃ x, a[0]? = some x := ⟨_, List.getElem?_eq_getElem ea⟩
 obtain ⟨g, o, A1, c1, A2, c2, rfl, hg, a0, a1, a2, a3, a4, -⟩ := hA.ifc2 hx
 obtain ⟨na, hna⟩ : ∃ k, k = a.length := ⟨_, rfl⟩
 rw [<- hna] at cA ea ⊢
 have ea0 : ((na : Int) == 0) = false := by simp; omega
 have ea1 : (0 : Int) < na := by omega
 rcases Nat.eq_zero_or_pos b.length with eb | eb
 ·have HE : Hid (V = (q1 && q2)) := hZ (by rw [HV.out, fairP_nil (.inr eb), HQ1.out, HQ2.out])
  rw [eb] at cB ⊢;clear hA hB hla hlb eb hx hg hna a0 a1 a2 a3 a4;cases q1 with
  | false =>
   have RV : V = false := HE.out;subst RV;go_enter Tryz.func18, Tryz.ntmps18
   go_upto_region 1 with fail
   refine wp_region_quiet_below (by kernel_rfl) (by kernel_rfl) ?_;repeat (any_goals (first | go_big_quiet_step (first | with_reducible exact cA _ _ | with_reducible exact cB _ _) | quiet_step (first | with_reducible exact cA _ _ | with_reducible exact cB _ _)))
   refine wpQuiet_nil ?_;intro w5 hw';obtain ⟨⟨dq, osq⟩, hw''⟩ := hw';subst hw'';have HBQ := hZ (below_regrown w dq osq);go_wp2_with fail
   go_ret;exact ⟨rfl, HBQ.out⟩
  | true =>
   cases q2 with
   | false =>
    have RV : V = false := HE.out;subst RV;go_enter Tryz.func18, Tryz.ntmps18
    go_upto_region 1 with fail
    refine wp_region_quiet_below (by kernel_rfl) (by kernel_rfl) ?_;repeat (any_goals (first | go_big_quiet_step (first | with_reducible exact cA _ _ | with_reducible exact cB _ _) | quiet_step (first | with_reducible exact cA _ _ | with_reducible exact cB _ _)))
    refine wpQuiet_nil ?_;intro w5 hw';obtain ⟨⟨dq, osq⟩, hw''⟩ := hw';subst hw'';have HBQ := hZ (below_regrown w dq osq);go_wp2_with fail
    go_ret;exact ⟨rfl, HBQ.out⟩
   | true =>
    have RV : V = true := HE.out;subst RV;go_enter Tryz.func18, Tryz.ntmps18
    go_upto_region 1 with fail
    refine wp_region_quiet_below (by kernel_rfl) (by kernel_rfl) ?_;repeat (any_goals (first | go_big_quiet_step (first | with_reducible exact cA _ _ | with_reducible exact cB _ _) | quiet_step (first | with_reducible exact cA _ _ | with_reducible exact cB _ _)))
    refine wpQuiet_nil ?_;intro w5 hw';obtain ⟨⟨dq, osq⟩, hw''⟩ := hw';subst hw'';have HBQ := hZ (below_regrown w dq osq);go_wp2_with fail
    go_ret;exact ⟨rfl, HBQ.out⟩
 obtain ⟨y, hy⟩ : ∃ y, b[0]? = some y := ⟨_, List.getElem?_eq_getElem eb⟩
 obtain ⟨g', o', A3, c3, A4, c4, rfl, hg', b0, b1, b2, b3, b4, -⟩ := hB.ifc2 hy
 obtain ⟨nb, hnb⟩ : ∃ k, k = b.length := ⟨_, rfl⟩
 rw [<- hnb] at cB eb ⊢
 have eb0 : ((nb : Int) == 0) = false := by simp; omega
 have eb1 : (0 : Int) < nb := by omega
 obtain ⟨q3, hq3⟩ : ∃ q, q = samePk x y := ⟨_, rfl⟩
 have cS : ∀ dd os, Calls Tryz.prog 25 #[.agg #[.string x.pkg, .int .i64 x.major, .string x.mod, .slice A1 x.types.length c1, .slice A2 x.vals.length c2], .agg #[.string y.pkg, .int .i64 y.major, .string y.mod, .slice A3 y.types.length c3, .slice A4 y.vals.length c4]] (Sort.grow (redrawn w dd) os) fun e w'' => e = .returned (.bool q3) /\ ∃ pp : Regrown, w'' = Sort.grow (redrawn w pp.d) pp.os := fun dd os => Calls.regrown_of (by
  rw [hq3]; exact samePk_any x y A1 c1 A2 c2 A3 c3 A4 c4 _)
 have HE : Hid (V = (q1 && (q2 && q3))) := hZ (by rw [HV.out, fairP_eq hx hy, HQ1.out, HQ2.out, hq3])
 simp at a0 a1 a2 a3 a4 b0 b1 b2 b3 b4
 have p0 := cell_regrown a0
 have p1 := cell_regrown a1
 have p2 := cell_regrown a2
 have p3 := cell_regrown a3
 have p4 := cell_regrown a4
 have r0 := cell_regrown b0
 have r1 := cell_regrown b1
 have r2 := cell_regrown b2
 have r3 := cell_regrown b3
 have r4 := cell_regrown b4
 clear hA hB hla hlb hx hy hg hg' hna hnb hq3 a0 a1 a2 a3 a4 b0 b1 b2 b3 b4
 cases q1 with
 | false =>
  have RV : V = false := HE.out;subst RV;go_enter Tryz.func18, Tryz.ntmps18
  go_upto_region 1 with fail
  refine wp_region_quiet_below (by kernel_rfl) (by kernel_rfl) ?_;repeat (any_goals (first | go_big_quiet_step (first | with_reducible exact cA _ _ | with_reducible exact cB _ _ | with_reducible exact cS _ _) | quiet_step (first | with_reducible exact cA _ _ | with_reducible exact cB _ _ | with_reducible exact cS _ _)))
  refine wpQuiet_nil ?_;intro w5 hw';obtain ⟨⟨dq, osq⟩, hw''⟩ := hw';subst hw'';have HBQ := hZ (below_regrown w dq osq);go_wp2_with fail
  go_ret;exact ⟨rfl, HBQ.out⟩
 | true =>
  cases q2 with
  | false =>
   have RV : V = false := HE.out;subst RV;go_enter Tryz.func18, Tryz.ntmps18
   go_upto_region 1 with fail
   refine wp_region_quiet_below (by kernel_rfl) (by kernel_rfl) ?_;repeat (any_goals (first | go_big_quiet_step (first | with_reducible exact cA _ _ | with_reducible exact cB _ _ | with_reducible exact cS _ _) | quiet_step (first | with_reducible exact cA _ _ | with_reducible exact cB _ _ | with_reducible exact cS _ _)))
   refine wpQuiet_nil ?_;intro w5 hw';obtain ⟨⟨dq, osq⟩, hw''⟩ := hw';subst hw'';have HBQ := hZ (below_regrown w dq osq);go_wp2_with fail
   go_ret;exact ⟨rfl, HBQ.out⟩
  | true =>
   cases q3 with
   | false =>
    have RV : V = false := HE.out;subst RV;go_enter Tryz.func18, Tryz.ntmps18
    go_upto_region 1 with fail
    refine wp_region_quiet_below (by kernel_rfl) (by kernel_rfl) ?_;repeat (any_goals (first | go_big_quiet_step (first | with_reducible exact cA _ _ | with_reducible exact cB _ _ | with_reducible exact cS _ _) | quiet_step (first | with_reducible exact cA _ _ | with_reducible exact cB _ _ | with_reducible exact cS _ _)))
    refine wpQuiet_nil ?_;intro w5 hw';obtain ⟨⟨dq, osq⟩, hw''⟩ := hw';subst hw'';have HBQ := hZ (below_regrown w dq osq);go_wp2_with fail
    go_ret;exact ⟨rfl, HBQ.out⟩
   | true =>
    have RV : V = true := HE.out;subst RV;go_enter Tryz.func18, Tryz.ntmps18
    go_upto_region 1 with fail
    refine wp_region_quiet_below (by kernel_rfl) (by kernel_rfl) ?_;repeat (any_goals (first | go_big_quiet_step (first | with_reducible exact cA _ _ | with_reducible exact cB _ _ | with_reducible exact cS _ _) | quiet_step (first | with_reducible exact cA _ _ | with_reducible exact cB _ _ | with_reducible exact cS _ _)))
    refine wpQuiet_nil ?_;intro w5 hw';obtain ⟨⟨dq, osq⟩, hw''⟩ := hw';subst hw'';have HBQ := hZ (below_regrown w dq osq);go_wp2_with fail
    go_ret;exact ⟨rfl, HBQ.out⟩
end Go.Proofs.YtddlmigofilejaaGreat
