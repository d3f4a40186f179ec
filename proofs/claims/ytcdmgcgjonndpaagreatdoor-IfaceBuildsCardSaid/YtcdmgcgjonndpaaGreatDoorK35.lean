/-
  Several texts in one.
-/
import Derived.Test.YtcdmgcgjonndpaaGreatDoorK34
set_option maxRecDepth 100000
set_option maxHeartbeats 16000000
namespace Go.Proofs.YtcdmgcgjonndpaaGreatDoor
open Go Go.RowKit Go.Shelf
open Go.Sort
open M
theorem rising10_great (A : Option Addr) (c : Nat) (l : List Nm) (w : World) (hR : RowIn nmR w A l) (hl : l.length <= 9223372036854775807) :
  Calls Tryz.prog 29 #[.slice A l.length c, .func (.func 30) #[] #[]] w fun e w' => e = .returned (.bool (risesN true l)) /\ Below w.heap.size w w' := by
 have HR := hZ hR
 obtain ⟨n, hn⟩ : ∃ n, n = l.length := ⟨_, rfl⟩
 have HN := hZ hn
 obtain ⟨V, hV⟩ : ∃ V, V = risesN true l := ⟨_, rfl⟩
 have HV := hZ hV
 rw [<- hn] at hl ⊢
 rw [<- hV]
 clear hR hn hV
 go_enter Tryz.func29, Tryz.ntmps29
 go_wp2_with fail
 go_loopw [9] (fun s9 wr => ∃ k : Nat, k <= n /\ s9 = .int .i64 k /\ Hid (∀ i, i < k -> okAt true l i = true) /\ Hid (Below w.heap.size w wr)) (fun s9 _ => n - (intOf s9).toNat)
 case atStart => exact ⟨0, by omega, rfl, hZ (fun i h => by omega), hZ (Below.refl _ _)⟩
 case round =>
  obtain ⟨k, hk, rfl, HP, HB⟩ := hrel;obtain ⟨wo, rfl⟩ : ∃ wo : World, wo = wr := ⟨_, rfl⟩;by_cases hlt : k < n
  ·obtain ⟨x, hx⟩ : ∃ x, l[k]? = some x := ⟨_, List.getElem?_eq_getElem (by rw [<- HN.out]; exact hlt)⟩
   obtain ⟨g, o, Bn, cB, Bs, dB, rfl, hg, a0, a1, a2, a3, a4, a5, a6, a7, hT, hs⟩ := (HR.out.below HB.out).nm hx;have HX := hZ hx;obtain ⟨w4, hw4⟩ : ∃ w4, w4 = wo.alloc (.cells #[.string x.name, .int .i64 x.typ.kind, .string x.typ.pkg, .int .i64 x.typ.major, .string x.typ.mod, .string x.typ.name, .slice Bn x.typ.names.length cB, .slice Bs x.typ.subs.length dB] 49) := ⟨_, rfl⟩;have B4 : Below wo.heap.size wo w4 := by rw [hw4]; exact below_new (Below.refl _ _) _
   have Y4 : w4.heap[wo.heap.size]? = some (.cells #[.string x.name, .int .i64 x.typ.kind, .string x.typ.pkg, .int .i64 x.typ.major, .string x.typ.mod, .string x.typ.name, .slice Bn x.typ.names.length cB, .slice Bs x.typ.subs.length dB] 49 (0, 0)) := by rw [hw4]; exact heap_alloc_new wo _
   have HB4 := hZ (below_over HB.out B4);have HT4 := hZ (hT.keep B4);have HW4 := hZ hw4;have hk0 : (0 : Int) <= k := by omega
   have hk1 : (k : Int) < n := by omega
   obtain ⟨q1, hq1⟩ : ∃ q, q = nameOk true x.name := ⟨_, rfl⟩;obtain ⟨q4, hq4⟩ : ∃ q, q = (mayT x.typ && plainT x.typ) := ⟨_, rfl⟩;have cN : ∀ dd os, Calls Tryz.prog 30 #[.string x.name] (Sort.grow (redrawn w4 dd) os) fun e w'' => e = .returned (.bool q1) /\ ∃ pp : Regrown, w'' = Sort.grow (redrawn w4 pp.d) pp.os := fun dd os => Calls.regrown_of (by rw [hq1]; exact great10_any x.name _ hs)
   have cP : ∀ dd os, Calls Tryz.prog 68 #[.agg #[.int .i64 x.typ.kind, .string x.typ.pkg, .int .i64 x.typ.major, .string x.typ.mod, .string x.typ.name, .slice Bn x.typ.names.length cB, .slice Bs x.typ.subs.length dB]] (Sort.grow (redrawn w4 dd) os) fun e w'' => e = .returned (.bool q4) /\ ∃ pp : Regrown, w'' = Sort.grow (redrawn w4 pp.d) pp.os := fun dd os => Calls.regrown_of (by
    rw [hq4]; exact plainK_any _ _ _ ⟨_, rfl, HT4.out.keep (below_regrown w4 dd os)⟩)
   have HQ1 := hZ hq1;have HQ4 := hZ hq4;obtain ⟨y0, y1, y2, y3, y4, y5, y6, y7⟩ := cq8 Y4;simp at y0 y1 y2 y3 y4 y5 y6 y7;clear hq1 hq4 Y4 hT hx hg hs B4 hw4;cases k with
   | zero =>
    simp at a0 a1 a2 a3 a4 a5 a6 a7;go_upto_region 4 with fail
    rw [<- HW4.out];clear HW4;cases q1 with
    | false =>
     have p0 := cell_regrown y0;have p1 := cell_regrown y1;have p2 := cell_regrown y2;have p3 := cell_regrown y3;have p4 := cell_regrown y4;have p5 := cell_regrown y5;have p6 := cell_regrown y6;have p7 := cell_regrown y7;clear y0 y1 y2 y3 y4 y5 y6 y7;refine wp_region_quiet_below (by kernel_rfl) (by kernel_rfl) ?_;repeat (any_goals (first | go_big_quiet_step (first | with_reducible exact cN _ _ | with_reducible exact cP _ _) | quiet_step (first | with_reducible exact cN _ _ | with_reducible exact cP _ _)))
     refine wpQuiet_nil ?_;intro w5 hw'
     have HB5 : Hid (Below w.heap.size w w5) := hZ (by
      obtain ⟨⟨dq, osq⟩, hw''⟩ := hw';rw [hw''];exact below_over HB4.out (below_regrown w4 dq osq))
     clear hw' cN cP p0 p1 p2 p3 p4 p5 p6 p7;have RES : V = false := by rw [HV.out]; exact rises_no (i := 0) (by have := HN.out; omega) (by rw [okAt_0 HX.out, <- HQ1.out, <- HQ4.out]; try simp)
     subst RES;go_wp2_with fail
     go_ret;exact ⟨rfl, HB5.out⟩
    | true =>
     cases q4 with
     | false =>
      have p0 := cell_regrown y0;have p1 := cell_regrown y1;have p2 := cell_regrown y2;have p3 := cell_regrown y3;have p4 := cell_regrown y4;have p5 := cell_regrown y5;have p6 := cell_regrown y6;have p7 := cell_regrown y7;clear y0 y1 y2 y3 y4 y5 y6 y7;refine wp_region_quiet_below (by kernel_rfl) (by kernel_rfl) ?_;repeat (any_goals (first | go_big_quiet_step (first | with_reducible exact cN _ _ | with_reducible exact cP _ _) | quiet_step (first | with_reducible exact cN _ _ | with_reducible exact cP _ _)))
      refine wpQuiet_nil ?_;intro w5 hw'
      have HB5 : Hid (Below w.heap.size w w5) := hZ (by
       obtain ⟨⟨dq, osq⟩, hw''⟩ := hw';rw [hw''];exact below_over HB4.out (below_regrown w4 dq osq))
      clear hw' cN cP p0 p1 p2 p3 p4 p5 p6 p7;have RES : V = false := by rw [HV.out]; exact rises_no (i := 0) (by have := HN.out; omega) (by rw [okAt_0 HX.out, <- HQ1.out, <- HQ4.out]; try simp)
      subst RES;go_wp2_with fail
      go_ret;exact ⟨rfl, HB5.out⟩
     | true =>
      have p0 := cell_regrown y0;have p1 := cell_regrown y1;have p2 := cell_regrown y2;have p3 := cell_regrown y3;have p4 := cell_regrown y4;have p5 := cell_regrown y5;have p6 := cell_regrown y6;have p7 := cell_regrown y7;clear y0 y1 y2 y3 y4 y5 y6 y7;refine wp_region_quiet_below (by kernel_rfl) (by kernel_rfl) ?_;repeat (any_goals (first | go_big_quiet_step (first | with_reducible exact cN _ _ | with_reducible exact cP _ _) | quiet_step (first | with_reducible exact cN _ _ | with_reducible exact cP _ _)))
      refine wpQuiet_nil ?_;intro w5 hw'
      have HB5 : Hid (Below w.heap.size w w5) := hZ (by
       obtain ⟨⟨dq, osq⟩, hw''⟩ := hw';rw [hw''];exact below_over HB4.out (below_regrown w4 dq osq))
      clear hw' cN cP p0 p1 p2 p3 p4 p5 p6 p7
      have NX : Hid (∀ i, i < 0 + 1 -> okAt true l i = true) := hZ (fun i hi => by
       rcases Nat.lt_or_ge i (0) with c | c
       ·exact HP.out i c
       ·obtain rfl : i = 0 := by omega
        rw [okAt_0 HX.out, <- HQ1.out, <- HQ4.out]; try simp)
      go_wp2_with fail
      go_roundw
      case rel => exact ⟨0 + 1, by omega, by go_num, NX, HB5⟩
      case measure => simp [intOf]; omega
   | succ k =>
    obtain ⟨y, hy⟩ : ∃ y, l[k]? = some y := ⟨_, List.getElem?_eq_getElem (by rw [<- HN.out]; omega)⟩;obtain ⟨g', o', Dn, cD, Ds, dD, e', hg', b0, -⟩ := (HR.out.below HB4.out).nm hy;cases e'
    have HY := hZ hy;obtain ⟨q3, hq3⟩ : ∃ q, Op.bytesLess y.name.toList x.name.toList = q := ⟨_, rfl⟩;have HQ3 : Hid (leS x.name y.name = !q3) := hZ (by rw [leS_eq, hq3]);have hp1 : ((k : Nat) : Int) + 1 - 1 = k := by omega
    have hp1' : (((k + 1 : Nat) : Int)) - 1 = k := by omega
    have hp0 : decide ((0 : Int) < ((k + 1 : Nat) : Int)) = true := by simp; try omega
    have hp0' : decide ((0 : Int) < (k : Int) + 1) = true := by simp; try omega
    have hkk0 : (0 : Int) <= (k : Int) := by omega
    have hkk1 : (k : Int) < n := by omega
    clear hy hg';go_upto_region 4 with fail
    rw [<- HW4.out];clear HW4;cases q1 with
    | false =>
     have p0 := cell_regrown y0;have p1 := cell_regrown y1;have p2 := cell_regrown y2;have p3 := cell_regrown y3;have p4 := cell_regrown y4;have p5 := cell_regrown y5;have p6 := cell_regrown y6;have p7 := cell_regrown y7;have r0 := cell_regrown b0;clear y0 y1 y2 y3 y4 y5 y6 y7 b0;refine wp_region_quiet_below (by kernel_rfl) (by kernel_rfl) ?_;repeat (any_goals (first | go_big_quiet_step (first | with_reducible exact cN _ _ | with_reducible exact cP _ _) | quiet_step (first | with_reducible exact cN _ _ | with_reducible exact cP _ _)))
     refine wpQuiet_nil ?_;intro w5 hw'
     have HB5 : Hid (Below w.heap.size w w5) := hZ (by
      obtain ⟨⟨dq, osq⟩, hw''⟩ := hw';rw [hw''];exact below_over HB4.out (below_regrown w4 dq osq))
     clear hw' cN cP p0 p1 p2 p3 p4 p5 p6 p7 r0;have RES : V = false := by rw [HV.out]; exact rises_no (i := k + 1) (by have := HN.out; omega) (by rw [okAt_s HX.out HY.out, <- HQ1.out, HQ3.out, <- HQ4.out]; try simp)
     subst RES;go_wp2_with fail
     go_ret;exact ⟨rfl, HB5.out⟩
    | true =>
     cases q3 with
     | false =>
      have p0 := cell_regrown y0;have p1 := cell_regrown y1;have p2 := cell_regrown y2;have p3 := cell_regrown y3;have p4 := cell_regrown y4;have p5 := cell_regrown y5;have p6 := cell_regrown y6;have p7 := cell_regrown y7;have r0 := cell_regrown b0;clear y0 y1 y2 y3 y4 y5 y6 y7 b0;refine wp_region_quiet_below (by kernel_rfl) (by kernel_rfl) ?_;repeat (any_goals (first | go_big_quiet_step (first | with_reducible exact cN _ _ | with_reducible exact cP _ _) | quiet_step (first | with_reducible exact cN _ _ | with_reducible exact cP _ _)))
      refine wpQuiet_nil ?_;intro w5 hw'
      have HB5 : Hid (Below w.heap.size w w5) := hZ (by
       obtain ⟨⟨dq, osq⟩, hw''⟩ := hw';rw [hw''];exact below_over HB4.out (below_regrown w4 dq osq))
      clear hw' cN cP p0 p1 p2 p3 p4 p5 p6 p7 r0;have RES : V = false := by rw [HV.out]; exact rises_no (i := k + 1) (by have := HN.out; omega) (by rw [okAt_s HX.out HY.out, <- HQ1.out, HQ3.out, <- HQ4.out]; try simp)
      subst RES;go_wp2_with fail
      go_ret;exact ⟨rfl, HB5.out⟩
     | true =>
      cases q4 with
      | false =>
       have p0 := cell_regrown y0;have p1 := cell_regrown y1;have p2 := cell_regrown y2;have p3 := cell_regrown y3;have p4 := cell_regrown y4;have p5 := cell_regrown y5;have p6 := cell_regrown y6;have p7 := cell_regrown y7;have r0 := cell_regrown b0;clear y0 y1 y2 y3 y4 y5 y6 y7 b0;refine wp_region_quiet_below (by kernel_rfl) (by kernel_rfl) ?_;repeat (any_goals (first | go_big_quiet_step (first | with_reducible exact cN _ _ | with_reducible exact cP _ _) | quiet_step (first | with_reducible exact cN _ _ | with_reducible exact cP _ _)))
       refine wpQuiet_nil ?_;intro w5 hw'
       have HB5 : Hid (Below w.heap.size w w5) := hZ (by
        obtain ⟨⟨dq, osq⟩, hw''⟩ := hw';rw [hw''];exact below_over HB4.out (below_regrown w4 dq osq))
       clear hw' cN cP p0 p1 p2 p3 p4 p5 p6 p7 r0;have RES : V = false := by rw [HV.out]; exact rises_no (i := k + 1) (by have := HN.out; omega) (by rw [okAt_s HX.out HY.out, <- HQ1.out, HQ3.out, <- HQ4.out]; try simp)
       subst RES;go_wp2_with fail
       go_ret;exact ⟨rfl, HB5.out⟩
      | true =>
       have p0 := cell_regrown y0;have p1 := cell_regrown y1;have p2 := cell_regrown y2;have p3 := cell_regrown y3;have p4 := cell_regrown y4;have p5 := cell_regrown y5;have p6 := cell_regrown y6;have p7 := cell_regrown y7;have r0 := cell_regrown b0;clear y0 y1 y2 y3 y4 y5 y6 y7 b0;refine wp_region_quiet_below (by kernel_rfl) (by kernel_rfl) ?_;repeat (any_goals (first | go_big_quiet_step (first | with_reducible exact cN _ _ | with_reducible exact cP _ _) | quiet_step (first | with_reducible exact cN _ _ | with_reducible exact cP _ _)))
       refine wpQuiet_nil ?_;intro w5 hw'
       have HB5 : Hid (Below w.heap.size w w5) := hZ (by
        obtain ⟨⟨dq, osq⟩, hw''⟩ := hw';rw [hw''];exact below_over HB4.out (below_regrown w4 dq osq))
       clear hw' cN cP p0 p1 p2 p3 p4 p5 p6 p7 r0
       have NX : Hid (∀ i, i < k + 1 + 1 -> okAt true l i = true) := hZ (fun i hi => by
        rcases Nat.lt_or_ge i (k + 1) with c | c
        ·exact HP.out i c
        ·obtain rfl : i = k + 1 := by omega
         rw [okAt_s HX.out HY.out, <- HQ1.out, HQ3.out, <- HQ4.out]; try simp)
       go_wp2_with fail
       go_roundw
       case rel => exact ⟨k + 1 + 1, by omega, by go_num, NX, HB5⟩
       case measure => simp [intOf]; omega
  ·have RV : V = true := by rw [HV.out]; exact rises_yes (fun i hi => HP.out i (by have := HN.out; omega))
   subst RV;go_wp2_with fail
   go_ret;exact ⟨rfl, HB.out⟩
theorem rising10_small (A : Option Addr) (c : Nat) (l : List Nm) (w : World) (hR : RowIn nmR w A l) (hl : l.length <= 9223372036854775807) :
  Calls Tryz.prog 29 #[.slice A l.length c, .func (.func 31) #[] #[]] w fun e w' => e = .returned (.bool (risesN false l)) /\ Below w.heap.size w w' := by
 have HR := hZ hR
 obtain ⟨n, hn⟩ : ∃ n, n = l.length := ⟨_, rfl⟩
 have HN := hZ hn
 obtain ⟨V, hV⟩ : ∃ V, V = risesN false l := ⟨_, rfl⟩
 have HV := hZ hV
 rw [<- hn] at hl ⊢
 rw [<- hV]
 clear hR hn hV
 go_enter Tryz.func29, Tryz.ntmps29
 go_wp2_with fail
 go_loopw [9] (fun s9 wr => ∃ k : Nat, k <= n /\ s9 = .int .i64 k /\ Hid (∀ i, i < k -> okAt false l i = true) /\ Hid (Below w.heap.size w wr)) (fun s9 _ => n - (intOf s9).toNat)
 case atStart => exact ⟨0, by omega, rfl, hZ (fun i h => by omega), hZ (Below.refl _ _)⟩
 case round =>
  obtain ⟨k, hk, rfl, HP, HB⟩ := hrel;obtain ⟨wo, rfl⟩ : ∃ wo : World, wo = wr := ⟨_, rfl⟩;by_cases hlt : k < n
  ·obtain ⟨x, hx⟩ : ∃ x, l[k]? = some x := ⟨_, List.getElem?_eq_getElem (by rw [<- HN.out]; exact hlt)⟩
   obtain ⟨g, o, Bn, cB, Bs, dB, rfl, hg, a0, a1, a2, a3, a4, a5, a6, a7, hT, hs⟩ := (HR.out.below HB.out).nm hx;have HX := hZ hx;obtain ⟨w4, hw4⟩ : ∃ w4, w4 = wo.alloc (.cells #[.string x.name, .int .i64 x.typ.kind, .string x.typ.pkg, .int .i64 x.typ.major, .string x.typ.mod, .string x.typ.name, .slice Bn x.typ.names.length cB, .slice Bs x.typ.subs.length dB] 49) := ⟨_, rfl⟩;have B4 : Below wo.heap.size wo w4 := by rw [hw4]; exact below_new (Below.refl _ _) _
   have Y4 : w4.heap[wo.heap.size]? = some (.cells #[.string x.name, .int .i64 x.typ.kind, .string x.typ.pkg, .int .i64 x.typ.major, .string x.typ.mod, .string x.typ.name, .slice Bn x.typ.names.length cB, .slice Bs x.typ.subs.length dB] 49 (0, 0)) := by rw [hw4]; exact heap_alloc_new wo _
   have HB4 := hZ (below_over HB.out B4);have HT4 := hZ (hT.keep B4);have HW4 := hZ hw4;have hk0 : (0 : Int) <= k := by omega
   have hk1 : (k : Int) < n := by omega
   obtain ⟨q1, hq1⟩ : ∃ q, q = nameOk false x.name := ⟨_, rfl⟩;obtain ⟨q4, hq4⟩ : ∃ q, q = (mayT x.typ && plainT x.typ) := ⟨_, rfl⟩;have cN : ∀ dd os, Calls Tryz.prog 31 #[.string x.name] (Sort.grow (redrawn w4 dd) os) fun e w'' => e = .returned (.bool q1) /\ ∃ pp : Regrown, w'' = Sort.grow (redrawn w4 pp.d) pp.os := fun dd os => Calls.regrown_of (by rw [hq1]; exact small10_any x.name _ hs)
   have cP : ∀ dd os, Calls Tryz.prog 68 #[.agg #[.int .i64 x.typ.kind, .string x.typ.pkg, .int .i64 x.typ.major, .string x.typ.mod, .string x.typ.name, .slice Bn x.typ.names.length cB, .slice Bs x.typ.subs.length dB]] (Sort.grow (redrawn w4 dd) os) fun e w'' => e = .returned (.bool q4) /\ ∃ pp : Regrown, w'' = Sort.grow (redrawn w4 pp.d) pp.os := fun dd os => Calls.regrown_of (by
    rw [hq4]; exact plainK_any _ _ _ ⟨_, rfl, HT4.out.keep (below_regrown w4 dd os)⟩)
   have HQ1 := hZ hq1;have HQ4 := hZ hq4;obtain ⟨y0, y1, y2, y3, y4, y5, y6, y7⟩ := cq8 Y4;simp at y0 y1 y2 y3 y4 y5 y6 y7;clear hq1 hq4 Y4 hT hx hg hs B4 hw4;cases k with
   | zero =>
    simp at a0 a1 a2 a3 a4 a5 a6 a7;go_upto_region 4 with fail
    rw [<- HW4.out];clear HW4;cases q1 with
    | false =>
     have p0 := cell_regrown y0;have p1 := cell_regrown y1;have p2 := cell_regrown y2;have p3 := cell_regrown y3;have p4 := cell_regrown y4;have p5 := cell_regrown y5;have p6 := cell_regrown y6;have p7 := cell_regrown y7;clear y0 y1 y2 y3 y4 y5 y6 y7;refine wp_region_quiet_below (by kernel_rfl) (by kernel_rfl) ?_;repeat (any_goals (first | go_big_quiet_step (first | with_reducible exact cN _ _ | with_reducible exact cP _ _) | quiet_step (first | with_reducible exact cN _ _ | with_reducible exact cP _ _)))
     refine wpQuiet_nil ?_;intro w5 hw'
     have HB5 : Hid (Below w.heap.size w w5) := hZ (by
      obtain ⟨⟨dq, osq⟩, hw''⟩ := hw';rw [hw''];exact below_over HB4.out (below_regrown w4 dq osq))
     clear hw' cN cP p0 p1 p2 p3 p4 p5 p6 p7;have RES : V = false := by rw [HV.out]; exact rises_no (i := 0) (by have := HN.out; omega) (by rw [okAt_0 HX.out, <- HQ1.out, <- HQ4.out]; try simp)
     subst RES;go_wp2_with fail
     go_ret;exact ⟨rfl, HB5.out⟩
    | true =>
     cases q4 with
     | false =>
      have p0 := cell_regrown y0;have p1 := cell_regrown y1;have p2 := cell_regrown y2;have p3 := cell_regrown y3;have p4 := cell_regrown y4;have p5 := cell_regrown y5;have p6 := cell_regrown y6;have p7 := cell_regrown y7;clear y0 y1 y2 y3 y4 y5 y6 y7;refine wp_region_quiet_below (by kernel_rfl) (by kernel_rfl) ?_;repeat (any_goals (first | go_big_quiet_step (first | with_reducible exact cN _ _ | with_reducible exact cP _ _) | quiet_step (first | with_reducible exact cN _ _ | with_reducible exact cP _ _)))
      refine wpQuiet_nil ?_;intro w5 hw'
      have HB5 : Hid (Below w.heap.size w w5) := hZ (by
       obtain ⟨⟨dq, osq⟩, hw''⟩ := hw';rw [hw''];exact below_over HB4.out (below_regrown w4 dq osq))
      clear hw' cN cP p0 p1 p2 p3 p4 p5 p6 p7;have RES : V = false := by rw [HV.out]; exact rises_no (i := 0) (by have := HN.out; omega) (by rw [okAt_0 HX.out, <- HQ1.out, <- HQ4.out]; try simp)
      subst RES;go_wp2_with fail
      go_ret;exact ⟨rfl, HB5.out⟩
     | true =>
      have p0 := cell_regrown y0;have p1 := cell_regrown y1;have p2 := cell_regrown y2;have p3 := cell_regrown y3;have p4 := cell_regrown y4;have p5 := cell_regrown y5;have p6 := cell_regrown y6;have p7 := cell_regrown y7;clear y0 y1 y2 y3 y4 y5 y6 y7;refine wp_region_quiet_below (by kernel_rfl) (by kernel_rfl) ?_;repeat (any_goals (first | go_big_quiet_step (first | with_reducible exact cN _ _ | with_reducible exact cP _ _) | quiet_step (first | with_reducible exact cN _ _ | with_reducible exact cP _ _)))
      refine wpQuiet_nil ?_;intro w5 hw'
      have HB5 : Hid (Below w.heap.size w w5) := hZ (by
       obtain ⟨⟨dq, osq⟩, hw''⟩ := hw';rw [hw''];exact below_over HB4.out (below_regrown w4 dq osq))
      clear hw' cN cP p0 p1 p2 p3 p4 p5 p6 p7
      have NX : Hid (∀ i, i < 0 + 1 -> okAt false l i = true) := hZ (fun i hi => by
       rcases Nat.lt_or_ge i (0) with c | c
       ·exact HP.out i c
       ·obtain rfl : i = 0 := by omega
        rw [okAt_0 HX.out, <- HQ1.out, <- HQ4.out]; try simp)
      go_wp2_with fail
      go_roundw
      case rel => exact ⟨0 + 1, by omega, by go_num, NX, HB5⟩
      case measure => simp [intOf]; omega
   | succ k =>
    obtain ⟨y, hy⟩ : ∃ y, l[k]? = some y := ⟨_, List.getElem?_eq_getElem (by rw [<- HN.out]; omega)⟩;obtain ⟨g', o', Dn, cD, Ds, dD, e', hg', b0, -⟩ := (HR.out.below HB4.out).nm hy;cases e'
    have HY := hZ hy;obtain ⟨q3, hq3⟩ : ∃ q, Op.bytesLess y.name.toList x.name.toList = q := ⟨_, rfl⟩;have HQ3 : Hid (leS x.name y.name = !q3) := hZ (by rw [leS_eq, hq3]);have hp1 : ((k : Nat) : Int) + 1 - 1 = k := by omega
    have hp1' : (((k + 1 : Nat) : Int)) - 1 = k := by omega
    have hp0 : decide ((0 : Int) < ((k + 1 : Nat) : Int)) = true := by simp; try omega
    have hp0' : decide ((0 : Int) < (k : Int) + 1) = true := by simp; try omega
    have hkk0 : (0 : Int) <= (k : Int) := by omega
    have hkk1 : (k : Int) < n := by omega
    clear hy hg';go_upto_region 4 with fail
    rw [<- HW4.out];clear HW4;cases q1 with
    | false =>
     have p0 := cell_regrown y0;have p1 := cell_regrown y1;have p2 := cell_regrown y2;have p3 := cell_regrown y3;have p4 := cell_regrown y4;have p5 := cell_regrown y5;have p6 := cell_regrown y6;have p7 := cell_regrown y7;have r0 := cell_regrown b0;clear y0 y1 y2 y3 y4 y5 y6 y7 b0;refine wp_region_quiet_below (by kernel_rfl) (by kernel_rfl) ?_;repeat (any_goals (first | go_big_quiet_step (first | with_reducible exact cN _ _ | with_reducible exact cP _ _) | quiet_step (first | with_reducible exact cN _ _ | with_reducible exact cP _ _)))
     refine wpQuiet_nil ?_;intro w5 hw'
     have HB5 : Hid (Below w.heap.size w w5) := hZ (by
      obtain ⟨⟨dq, osq⟩, hw''⟩ := hw';rw [hw''];exact below_over HB4.out (below_regrown w4 dq osq))
     clear hw' cN cP p0 p1 p2 p3 p4 p5 p6 p7 r0;have RES : V = false := by rw [HV.out]; exact rises_no (i := k + 1) (by have := HN.out; omega) (by rw [okAt_s HX.out HY.out, <- HQ1.out, HQ3.out, <- HQ4.out]; try simp)
     subst RES;go_wp2_with fail
     go_ret;exact ⟨rfl, HB5.out⟩
    | true =>
     cases q3 with
     | false =>
      have p0 := cell_regrown y0;have p1 := cell_regrown y1;have p2 := cell_regrown y2;have p3 := cell_regrown y3;have p4 := cell_regrown y4;have p5 := cell_regrown y5;have p6 := cell_regrown y6;have p7 := cell_regrown y7;have r0 := cell_regrown b0;clear y0 y1 y2 y3 y4 y5 y6 y7 b0;refine wp_region_quiet_below (by kernel_rfl) (by kernel_rfl) ?_;repeat (any_goals (first | go_big_quiet_step (first | with_reducible exact cN _ _ | with_reducible exact cP _ _) | quiet_step (first | with_reducible exact cN _ _ | with_reducible exact cP _ _)))
      refine wpQuiet_nil ?_;intro w5 hw'
      have HB5 : Hid (Below w.heap.size w w5) := hZ (by
       obtain ⟨⟨dq, osq⟩, hw''⟩ := hw';rw [hw''];exact below_over HB4.out (below_regrown w4 dq osq))
      clear hw' cN cP p0 p1 p2 p3 p4 p5 p6 p7 r0;have RES : V = false := by rw [HV.out]; exact rises_no (i := k + 1) (by have := HN.out; omega) (by rw [okAt_s HX.out HY.out, <- HQ1.out, HQ3.out, <- HQ4.out]; try simp)
      subst RES;go_wp2_with fail
      go_ret;exact ⟨rfl, HB5.out⟩
     | true =>
      cases q4 with
      | false =>
       have p0 := cell_regrown y0;have p1 := cell_regrown y1;have p2 := cell_regrown y2;have p3 := cell_regrown y3;have p4 := cell_regrown y4;have p5 := cell_regrown y5;have p6 := cell_regrown y6;have p7 := cell_regrown y7;have r0 := cell_regrown b0;clear y0 y1 y2 y3 y4 y5 y6 y7 b0;refine wp_region_quiet_below (by kernel_rfl) (by kernel_rfl) ?_;repeat (any_goals (first | go_big_quiet_step (first | with_reducible exact cN _ _ | with_reducible exact cP _ _) | quiet_step (first | with_reducible exact cN _ _ | with_reducible exact cP _ _)))
       refine wpQuiet_nil ?_;intro w5 hw'
       have HB5 : Hid (Below w.heap.size w w5) := hZ (by
        obtain ⟨⟨dq, osq⟩, hw''⟩ := hw';rw [hw''];exact below_over HB4.out (below_regrown w4 dq osq))
       clear hw' cN cP p0 p1 p2 p3 p4 p5 p6 p7 r0;have RES : V = false := by rw [HV.out]; exact rises_no (i := k + 1) (by have := HN.out; omega) (by rw [okAt_s HX.out HY.out, <- HQ1.out, HQ3.out, <- HQ4.out]; try simp)
       subst RES;go_wp2_with fail
       go_ret;exact ⟨rfl, HB5.out⟩
      | true =>
       have p0 := cell_regrown y0;have p1 := cell_regrown y1;have p2 := cell_regrown y2;have p3 := cell_regrown y3;have p4 := cell_regrown y4;have p5 := cell_regrown y5;have p6 := cell_regrown y6;have p7 := cell_regrown y7;have r0 := cell_regrown b0;clear y0 y1 y2 y3 y4 y5 y6 y7 b0;refine wp_region_quiet_below (by kernel_rfl) (by kernel_rfl) ?_;repeat (any_goals (first | go_big_quiet_step (first | with_reducible exact cN _ _ | with_reducible exact cP _ _) | quiet_step (first | with_reducible exact cN _ _ | with_reducible exact cP _ _)))
       refine wpQuiet_nil ?_;intro w5 hw'
       have HB5 : Hid (Below w.heap.size w w5) := hZ (by
        obtain ⟨⟨dq, osq⟩, hw''⟩ := hw';rw [hw''];exact below_over HB4.out (below_regrown w4 dq osq))
       clear hw' cN cP p0 p1 p2 p3 p4 p5 p6 p7 r0
       have NX : Hid (∀ i, i < k + 1 + 1 -> okAt false l i = true) := hZ (fun i hi => by
        rcases Nat.lt_or_ge i (k + 1) with c | c
        ·exact HP.out i c
        ·obtain rfl : i = k + 1 := by omega
         rw [okAt_s HX.out HY.out, <- HQ1.out, HQ3.out, <- HQ4.out]; try simp)
       go_wp2_with fail
       go_roundw
       case rel => exact ⟨k + 1 + 1, by omega, by go_num, NX, HB5⟩
       case measure => simp [intOf]; omega
  ·have RV : V = true := by rw [HV.out]; exact rises_yes (fun i hi => HP.out i (by have := HN.out; omega))
   subst RV;go_wp2_with fail
   go_ret;exact ⟨rfl, HB.out⟩
noncomputable def sameNm (a b : List Nm) : Bool := @decide (a = b) (Classical.propDecidable _)
noncomputable def sameIf (a b : If) : Bool := @decide (a = b) (Classical.propDecidable _)
theorem sameNm_iff {a b : List Nm} : sameNm a b = true ↔ a = b := by unfold sameNm; exact @decide_eq_true_iff _ (Classical.propDecidable _)
theorem sameNm_no {a b : List Nm} (h : a ≠ b) : sameNm a b = false := by rw [Bool.eq_false_iff, ne_eq, sameNm_iff]; exact h
theorem sameIf_iff {a b : If} : sameIf a b = true ↔ a = b := by unfold sameIf; exact @decide_eq_true_iff _ (Classical.propDecidable _)
theorem nm_ext {x y : Nm} (h1 : x.name = y.name) (h2 : x.typ = y.typ) : x = y := by cases x; cases y; simp_all
theorem sameIf_eq (a b : If) : sameIf a b = (decide (a.pkg = b.pkg) && ((a.major == b.major) && (decide (a.mod = b.mod) && (sameNm a.types b.types && sameNm a.vals b.vals)))) := by
  rw [Bool.eq_iff_iff];simp only [sameIf_iff, Bool.and_eq_true, decide_eq_true_eq, beq_iff_eq, sameNm_iff];constructor
  · rintro rfl; exact ⟨rfl, rfl, rfl, rfl, rfl⟩
  · rintro ⟨h1, h2, h3, h4, h5⟩
    cases a; cases b; simp_all
theorem box1 (w : World) (cs : Array Value) (T : TypeId) : ∃ W, W = w.alloc (.cells cs T) /\ Below w.heap.size w W /\ W.heap[w.heap.size]? = some (.cells cs T (0, 0)) /\ W.heap.size = w.heap.size + 1 :=
  ⟨_, rfl, below_new (Below.refl _ _) _, heap_alloc_new w _, by simp⟩
theorem may10_any (x : If) (lx : List Value) (w : World) (hx : ifE w lx x) :
    Calls Tryz.prog 11 #[.agg lx.toArray] w fun e w' => e = .returned (.bool (mayIf x)) /\ Below w.heap.size w w' := by
  obtain ⟨At, ct, Av, cv, rfl, z1, z2, z3, z4, hT, hV⟩ := hx;obtain ⟨W, hW, B, X, sW⟩ := box1 w #[.string x.pkg, .int .i64 x.major, .string x.mod, .slice At x.types.length ct, .slice Av x.vals.length cv] 32;have HT := hZ hT;have HV := hZ hV;have HB := hZ B;have HW := hZ hW;have HX : Hid (∀ wx, Below W.heap.size W wx -> wx.heap[w.heap.size]? = some (.cells #[.string x.pkg, .int .i64 x.major, .string x.mod, .slice At x.types.length ct, .slice Av x.vals.length cv] 32 (0, 0))) := hZ (fun wx hb => (hb.block _ (by omega)).trans X);obtain ⟨q1, hq1⟩ : ∃ q, q = mayT (opT x.pkg x.major x.mod ⟨#[84]⟩) := ⟨_, rfl⟩;obtain ⟨q2, hq2⟩ : ∃ q, q = risesN true x.types := ⟨_, rfl⟩;obtain ⟨q3, hq3⟩ : ∃ q, q = risesN false x.vals := ⟨_, rfl⟩;have e : mayIf x = (q1 && (q2 && q3)) := by rw [hq1, hq2, hq3]; rfl
  rw [e];have C1 := hZ (fun w' => mayK_any _ _ w' (opV x.pkg x.major x.mod ⟨#[84]⟩ w' z1 z2 (by decide)));have C2 := hZ (fun w' (hb : Below w.heap.size w w') => rising10_great At ct x.types w' (HT.out.below hb) z3);have C3 := hZ (fun w' (hb : Below w.heap.size w w') => rising10_small Av cv x.vals w' (HV.out.below hb) z4);rw [<- hq1] at C1;rw [<- hq2] at C2;rw [<- hq3] at C3;obtain ⟨x0, x1, x2, x3, x4⟩ := cq5 X;simp at x0 x1 x2 x3 x4;clear hT hV B hW X sW e hq1 hq2 hq3;go_enter Tryz.func11, Tryz.ntmps11
  go_upto_region 1 with fail
  rw [<- HW.out];clear HW;go_wp2_with fail
  refine (open10_any _ _ _ _ _).mono ?_; rintro e w2 ⟨rfl, hb2⟩
  go_wp2_with fail
  refine (C1.out _).mono ?_; rintro e w3 ⟨rfl, hb3⟩
  have HB3w := hZ (below_over hb2 hb3);have HB3 := hZ (below_over HB.out HB3w.out);clear x0 x1 x2 x3 x4 hb2 hb3;cases q1 with
  | false =>
    go_wp2_with fail
    go_ret;exact ⟨rfl, HB3.out⟩
  | true =>
    have X3 := HX.out w3 HB3w.out;obtain ⟨x0, x1, x2, x3, x4⟩ := cq5 X3;simp at x0 x1 x2 x3 x4;clear X3;go_wp2_with fail
    refine (C2.out w3 HB3.out).mono ?_; rintro e w4 ⟨rfl, hb4⟩
    have HB4w := hZ (below_over HB3w.out hb4);have HB4 := hZ (below_over HB3.out hb4);clear x0 x1 x2 x3 x4 hb4;cases q2 with
    | false =>
      go_wp2_with fail
      go_ret;exact ⟨rfl, HB4.out⟩
    | true =>
      have X4 := HX.out w4 HB4w.out;obtain ⟨x0, x1, x2, x3, x4⟩ := cq5 X4;simp at x0 x1 x2 x3 x4;clear X4;go_wp2_with fail
      refine (C3.out w4 HB4.out).mono ?_; rintro e w5 ⟨rfl, hb5⟩
      have HB5 := hZ (below_over HB4.out hb5);clear x0 x1 x2 x3 x4 hb5;go_wp2_with fail
      go_ret;exact ⟨rfl, HB5.out⟩
end Go.Proofs.YtcdmgcgjonndpaaGreatDoor
namespace Go.Proofs.YtcdmgcgjonndpaaGreatDoor
open Go Go.RowKit Go.Shelf
open Go.Sort Go.Maps
open M
def exD10 : List Value := [.int .i64 1, .string ⟨#[84]⟩, .int .i64 0, .string ⟨#[]⟩, .int .i64 0, .string ⟨#[]⟩, .string ⟨#[]⟩, .slice none 0 0, .slice none 0 0, .int .i64 4, .string ⟨#[102]⟩, .int .i64 8, .string ⟨#[]⟩, .int .i64 0, .string ⟨#[]⟩, .string ⟨#[84]⟩, .slice none 0 0, .slice none 0 0]
theorem ex10_mo (w : World) (d : Nat) (hd : w.heap[d]? = some (.cells exD10.toArray 47 (0, 0))) : MoAt w [.string ⟨#[109]⟩, .slice none 0 0, .slice (some ⟨d, 0, none⟩) 2 2] exM10 := by
  refine ⟨none, 0, some ⟨d, 0, none⟩, 2, rfl, by decide, by decide, by decide, fun i x h => by simp [exM10] at h, fun i x h => ?_⟩;have hdl := (Array.getElem?_eq_some_iff.1 hd).1;match i, h with
  | 0, h =>
    simp [exM10] at h;subst h;refine ⟨d, 0, [.int .i64 1, .string ⟨#[84]⟩, .int .i64 0, .string ⟨#[]⟩, .int .i64 0, .string ⟨#[]⟩, .string ⟨#[]⟩, .slice none 0 0, .slice none 0 0], rfl, hdl, fun j v hv => ?_, by show (1 : Nat) <= _; decide, [.int .i64 0, .string ⟨#[]⟩, .int .i64 0, .string ⟨#[]⟩, .string ⟨#[]⟩, .slice none 0 0, .slice none 0 0], rfl, zero_at w⟩;have hj := (List.getElem?_eq_some_iff.1 hv).1;rw [cZ hd, List.getElem?_toArray, show 0 + 0 * deR.k + j = j by omega, <- hv];exact List.getElem?_append_left (l₁ := ([.int .i64 1, .string ⟨#[84]⟩, .int .i64 0, .string ⟨#[]⟩, .int .i64 0, .string ⟨#[]⟩, .string ⟨#[]⟩, .slice none 0 0, .slice none 0 0] : List Value)) (l₂ := ([.int .i64 4, .string ⟨#[102]⟩, .int .i64 8, .string ⟨#[]⟩, .int .i64 0, .string ⟨#[]⟩, .string ⟨#[84]⟩, .slice none 0 0, .slice none 0 0] : List Value)) hj
  | 1, h =>
    simp [exM10] at h;subst h;refine ⟨d, 0, [.int .i64 4, .string ⟨#[102]⟩, .int .i64 8, .string ⟨#[]⟩, .int .i64 0, .string ⟨#[]⟩, .string ⟨#[84]⟩, .slice none 0 0, .slice none 0 0], rfl, hdl, fun j v hv => ?_, by show (1 : Nat) <= _; decide, exC 84, rfl, exC_at w 84⟩;have hj := (List.getElem?_eq_some_iff.1 hv).1;rw [cZ hd, List.getElem?_toArray, show 0 + 1 * deR.k + j = 9 + j by show 0 + 1 * 9 + j = 9 + j; omega, <- hv];exact (List.getElem?_append_right (l₁ := ([.int .i64 1, .string ⟨#[84]⟩, .int .i64 0, .string ⟨#[]⟩, .int .i64 0, .string ⟨#[]⟩, .string ⟨#[]⟩, .slice none 0 0, .slice none 0 0] : List Value)) (l₂ := ([.int .i64 4, .string ⟨#[102]⟩, .int .i64 8, .string ⟨#[]⟩, .int .i64 0, .string ⟨#[]⟩, .string ⟨#[84]⟩, .slice none 0 0, .slice none 0 0] : List Value)) (by show 9 <= 9 + j; omega)).trans (by show _[9 + j - 9]? = _; rw [Nat.add_sub_cancel_left])
  | i + 2, h => simp [exM10] at h
theorem up10_any (w : World) : Calls Tryz.prog 4 #[] w fun e w' => e = .returned (.bool true) /\ Below w.heap.size w w' := by
  obtain ⟨W2, hW2, B2, O0, O1, hl2⟩ := two_boxes w #[.int .i64 1, .string ⟨#[84]⟩, .int .i64 0, .string ⟨#[]⟩, .int .i64 0, .string ⟨#[]⟩, .string ⟨#[]⟩, .slice none 0 0, .slice none 0 0, .int .i64 4, .string ⟨#[102]⟩, .int .i64 8, .string ⟨#[]⟩, .int .i64 0, .string ⟨#[]⟩, .string ⟨#[84]⟩, .slice none 0 0, .slice none 0 0] #[.string ⟨#[109]⟩, .slice none 0 0, .slice (some ⟨w.heap.size, 0, none⟩) 2 2] 47 25;have HB2 := hZ B2;have HW := hZ hW2;have BC := hZ (build10_any exM10 ⟨#[112]⟩ 1 [] none 0 (some ⟨w.heap.size, 0, none⟩) 2 none 0 W2 (ex10_mo W2 w.heap.size O0) (CapsAt.of (m := exM10) (Nat.le_refl _) (Nat.le_refl _) rfl) (by decide) (fun i x h => by simp at h) (by decide) (fun d hd => by simp [exM10] at hd; rcases hd with rfl | rfl <;> decide +kernel));obtain ⟨b0, b1, b2⟩ := cq3 O1;simp at b0 b1 b2;clear hW2 B2 O0 O1 hl2;go_enter Tryz.func4, Tryz.ntmps4
  go_upto_region 2 with fail
  rw [<- HW.out];clear HW;go_wp2_with fail
  refine BC.out.mono ?_; rintro e w3 ⟨c, j, x, l, v, hbd, rfl, hev, hif, hb3⟩
  obtain ⟨rfl, rfl⟩ := ex10_is hbd
  obtain rfl : v = .nilIface := by
    rcases hev with ⟨-, h⟩ | ⟨h, -⟩ | ⟨g, i, b, h, -⟩
    · exact h
    · exact absurd rfl h
    · exact absurd rfl h
  have HIF := hZ hif;obtain ⟨At, ct, Av, cv, rfl, -, -, -, -, hT, hV⟩ := hif;obtain ⟨w4, hw4⟩ : ∃ w4, w4 = w3.alloc (.cells #[.string ⟨#[112]⟩, .int .i64 1, .string ⟨#[109]⟩, .slice At 1 ct, .slice Av 1 cv] 32) := ⟨_, rfl⟩;have B4 : Below w3.heap.size w3 w4 := by rw [hw4]; exact below_new (Below.refl _ _) _
  have Y4 : w4.heap[w3.heap.size]? = some (.cells #[.string ⟨#[112]⟩, .int .i64 1, .string ⟨#[109]⟩, .slice At 1 ct, .slice Av 1 cv] 32 (0, 0)) := by rw [hw4]; exact heap_alloc_new w3 _
  have HB4 : Hid (Below w.heap.size w w4) := hZ (below_over (below_over HB2.out hb3) B4);have HY4 := hZ Y4;have MC := hZ (may10_any exX [.string ⟨#[112]⟩, .int .i64 1, .string ⟨#[109]⟩, .slice At 1 ct, .slice Av 1 cv] w4 (ifR.keep _ _ _ _ HIF.out B4));rw [exX_may] at MC;have MZ := hZ (fun wx => may10_any zIf _ wx (zIf_at wx));rw [zIf_may] at MZ;obtain ⟨g, o, Bn, cB, Bs, dB, rfl, hg, -, a1, -⟩ := (hV.below B4).nm (i := 0) (x := ⟨⟨#[102]⟩, exO⟩) rfl
  have a1' : w4.cell? ⟨g, o + 1, none⟩ = some (.int .i64 9) := by
    rw [show o + 1 = o + 0 * 8 + 1 by omega]; exact a1
  have HW4 := hZ hw4;clear b0 b1 b2 hbd hev hT hV hb3 B4 hw4 BC a1 hg;simp only [show exX.types.length = 1 from rfl, show exX.vals.length = 1 from rfl, show exX.pkg = ⟨#[112]⟩ from rfl, show exX.major = 1 from rfl, show exX.mod = ⟨#[109]⟩ from rfl];go_upto_region 3 with fail
  rw [<- HW4.out];clear HW4;obtain ⟨y0, y1, y2, y3, y4⟩ := cq5 Y4;simp at y0 y1 y2 y3 y4;clear Y4;go_wp2_with fail
  refine MC.out.mono ?_; rintro e w5 ⟨rfl, hb5⟩
  have HB5 := hZ (below_over HB4.out hb5);clear y0 y1 y2 y3 y4 a1' MC hb5;go_wp2_with fail
  refine (MZ.out _).mono ?_; rintro e w6 ⟨rfl, hb6⟩
  have HB6 := hZ (below_over HB5.out hb6);clear hb6;go_wp2_with fail
  go_ret;exact ⟨rfl, HB6.out⟩
end Go.Proofs.YtcdmgcgjonndpaaGreatDoor
namespace Go.Proofs.YtcdmgcgjonndpaaGreatDoor
open Go Go.RowKit Go.Shelf
open Go.Sort
open M
theorem rsame10_list (A : Option Addr) (c n : Nat) (l : List Nm) (A' : Option Addr) (c' n' : Nat) (l' : List Nm) (w : World) (hn : l.length = n) (hn' : l'.length = n') (hz : n <= 9223372036854775807) (hz' : n' <= 9223372036854775807) (hR : RowIn nmR w A l) (hR' : RowIn nmR w A' l') :
  Calls Tryz.prog 28 #[.slice A n c, .slice A' n' c'] w fun e w' => e = .returned (.bool (sameNm l l')) /\ Below w.heap.size w w' := by
 have HN := hZ hR
 have HN' := hZ hR'
 have HQ := hZ hn
 have HQ' := hZ hn'
 clear hR hR' hn hn'
 by_cases hqq : n = n'
 rotate_left
 ·have R : Hid (sameNm l l' = false) := hZ (by
   have h1 := HQ.out;have h2 := HQ'.out;exact sameNm_no (fun e => by subst e; omega))
  have f1 : (((n : Nat) : Int) == ((n' : Nat) : Int)) = false := by simp; omega
  have f2 : (((n : Nat) : Int) != ((n' : Nat) : Int)) = true := by simp; omega
  rw [R.out];clear hqq;as_aux_lemma =>
  go_enter Tryz.func28, Tryz.ntmps28
  go_wp2_with fail
  go_ret;exact ⟨rfl, Below.refl _ _⟩
 subst hqq
 go_enter Tryz.func28, Tryz.ntmps28
 go_wp2_with fail
 go_loopw [5] (fun i wr => ∃ k : Nat, k <= n /\ i = .int .i64 k /\ Hid (∀ j x y, j < k -> l[j]? = some x -> l'[j]? = some y -> x = y) /\ Hid (Below w.heap.size w wr)) (fun i _ => n - (intOf i).toNat)
 case atStart => exact ⟨0, by omega, rfl, hZ (fun j x y h => by omega), hZ (Below.refl _ _)⟩
 case round =>
  obtain ⟨k, hk, rfl, HP, HB⟩ := hrel;obtain ⟨wo, rfl⟩ : ∃ wo : World, wo = wr := ⟨_, rfl⟩;by_cases hlt : k < n
  ·obtain ⟨x, hx⟩ : ∃ x, l[k]? = some x := ⟨_, List.getElem?_eq_getElem (by rw [HQ.out]; exact hlt)⟩
   obtain ⟨y, hy⟩ : ∃ y, l'[k]? = some y := ⟨_, List.getElem?_eq_getElem (by rw [HQ'.out]; exact hlt)⟩;obtain ⟨g, o, Bn, cb, Bs, db, rfl, hg, a0, a1, a2, a3, a4, a5, a6, a7, hT, hs⟩ := (HN.out.below HB.out).nm hx;obtain ⟨g', o', Dn, cd, Ds, dd', rfl, hg', e0, e1, e2, e3, e4, e5, e6, e7, hT', hs'⟩ := (HN'.out.below HB.out).nm hy;have HX := hZ hx;have HY := hZ hy;have hk0 : (0 : Int) <= k := by omega
   have hk1 : (k : Int) < n := by omega
   obtain ⟨q, hq⟩ : ∃ q, q = sameT x.typ y.typ := ⟨_, rfl⟩;obtain ⟨b1, hb1⟩ : ∃ b, b = decide (x.name = y.name) := ⟨_, rfl⟩;have s1 := str_eq x.name y.name;rw [<- hb1] at s1
   have cS : ∀ dd os, Calls Tryz.prog 67 #[.agg #[.int .i64 x.typ.kind, .string x.typ.pkg, .int .i64 x.typ.major, .string x.typ.mod, .string x.typ.name, .slice Bn x.typ.names.length cb, .slice Bs x.typ.subs.length db], .agg #[.int .i64 y.typ.kind, .string y.typ.pkg, .int .i64 y.typ.major, .string y.typ.mod, .string y.typ.name, .slice Dn y.typ.names.length cd, .slice Ds y.typ.subs.length dd']] (Sort.grow (redrawn wo dd) os) fun e w'' => e = .returned (.bool q) /\ ∃ pp : Regrown, w'' = Sort.grow (redrawn wo pp.d) pp.os := fun dd os => Calls.regrown_of (by
    rw [hq]; exact same_any _ x.typ y.typ (Nat.le_refl _) _ _ _ ⟨_, rfl, hT.keep (below_regrown wo dd os)⟩ ⟨_, rfl, hT'.keep (below_regrown wo dd os)⟩)
   have HQ1 := hZ hq;have HB1 := hZ hb1;have HC : Hid (∀ wx, Below wo.heap.size wo wx -> wx.cell? ⟨g, o + k * 8, none⟩ = some (.string x.name) /\ wx.cell? ⟨g', o' + k * 8, none⟩ = some (.string y.name)) := hZ (fun wx hb => ⟨(hb.cell (p := ⟨g, _, none⟩) hg).trans a0, (hb.cell (p := ⟨g', _, none⟩) hg').trans e0⟩);clear hx hy hT hT' hg hg' hs hs' hq hb1;go_wp2_with fail
   have p1 := cell_regrown a1;have p2 := cell_regrown a2;have p3 := cell_regrown a3;have p4 := cell_regrown a4;have p5 := cell_regrown a5;have p6 := cell_regrown a6;have p7 := cell_regrown a7;have r1 := cell_regrown e1;have r2 := cell_regrown e2;have r3 := cell_regrown e3;have r4 := cell_regrown e4;have r5 := cell_regrown e5;have r6 := cell_regrown e6;have r7 := cell_regrown e7;clear a0 a1 a2 a3 a4 a5 a6 a7 e0 e1 e2 e3 e4 e5 e6 e7;refine wp_region_quiet_below (by kernel_rfl) (by kernel_rfl) ?_;repeat (any_goals (first | go_big_quiet_step (with_reducible exact cS _ _) | quiet_step (with_reducible exact cS _ _)))
   refine wpQuiet_nil ?_;intro w5 hw'
   have HB5w : Hid (Below wo.heap.size wo w5) := hZ (by
    obtain ⟨⟨dq, osq⟩, hw''⟩ := hw';rw [hw''];exact below_regrown wo dq osq)
   have HB5 := hZ (below_over HB.out HB5w.out);obtain ⟨a0, e0⟩ := HC.out w5 HB5w.out;clear hw' cS p1 p2 p3 p4 p5 p6 p7 r1 r2 r3 r4 r5 r6 r7;cases b1 with
   | false =>
    have s2 : (!(x.name.toList == y.name.toList)) = true := by rw [s1]; rfl
    have R : Hid (sameNm l l' = false) := hZ (sameNm_no (fun e => by
     subst e;have a := HX.out;rw [HY.out] at a;have b := HB1.out;rw [Option.some.inj a] at b;simp at b))
    go_wp2_with fail
    go_quiet (fail)
    go_wp2_with fail
    go_ret;exact ⟨ret_bool R.out, below_drewN HB5.out _⟩
   | true =>
    have s2 : (!(x.name.toList == y.name.toList)) = false := by rw [s1]; rfl
    cases q with
    | false =>
     have R : Hid (sameNm l l' = false) := hZ (sameNm_no (fun e => by
      subst e;have a := HX.out;rw [HY.out] at a;have b := HQ1.out;rw [Option.some.inj a, (sameT_iff x.typ x.typ).2 rfl] at b;cases b))
     go_wp2_with fail
     go_quiet (fail)
     go_wp2_with fail
     go_ret;exact ⟨ret_bool R.out, below_drewN HB5.out _⟩
    | true =>
     go_wp2_with fail
     go_quiet (fail)
     go_wp2_with fail
     go_roundw
     case rel => exact ⟨k + 1, by omega, by go_num, hZ (fun j a b hj ha hb => by
      rcases Nat.lt_or_ge j k with e | e
      ·exact HP.out j a b e ha hb
      ·rw [show j = k by omega, HX.out] at ha
       rw [show j = k by omega, HY.out] at hb;obtain rfl := Option.some.inj ha;obtain rfl := Option.some.inj hb;exact nm_ext (of_decide_eq_true HB1.out.symm) ((sameT_iff _ _).1 HQ1.out.symm)), hZ (below_drewN HB5.out _)⟩
     case measure => simp [intOf]; omega
  ·have R : Hid (sameNm l l' = true) := hZ (sameNm_iff.2 (List.ext_getElem? fun i => by
    have h1 := HQ.out;have h2 := HQ'.out;rcases Nat.lt_or_ge i n with c | c
    ·obtain ⟨x, hx⟩ : ∃ x, l[i]? = some x := ⟨_, List.getElem?_eq_getElem (by omega)⟩
     obtain ⟨y, hy⟩ : ∃ y, l'[i]? = some y := ⟨_, List.getElem?_eq_getElem (by omega)⟩;rw [hx, hy, HP.out i x y (by omega) hx hy]
    ·rw [List.getElem?_eq_none (by omega), List.getElem?_eq_none (by omega)]))
   go_wp2_with fail
   go_ret;exact ⟨ret_bool R.out, HB.out⟩
theorem rsame10_any (a b : If) (la lb : List Value) (w : World) (ha : ifE w la a) (hb : ifE w lb b) :
  Calls Tryz.prog 10 #[.agg la.toArray, .agg lb.toArray] w fun e w' => e = .returned (.bool (sameIf a b)) /\ Below w.heap.size w w' := by
 obtain ⟨Aat, cat, Aav, cav, rfl, -, -, z3, z4, hTa, hVa⟩ := ha
 obtain ⟨Abt, cbt, Abv, cbv, rfl, -, -, y3, y4, hTb, hVb⟩ := hb
 obtain ⟨W2, hW2, B2, O0, O1, hl2⟩ := two_boxes w #[.string a.pkg, .int .i64 a.major, .string a.mod, .slice Aat a.types.length cat, .slice Aav a.vals.length cav] #[.string b.pkg, .int .i64 b.major, .string b.mod, .slice Abt b.types.length cbt, .slice Abv b.vals.length cbv] 32 32
 have HX0 : Hid (∀ wx, Below W2.heap.size W2 wx -> wx.heap[w.heap.size]? = some (.cells #[.string a.pkg, .int .i64 a.major, .string a.mod, .slice Aat a.types.length cat, .slice Aav a.vals.length cav] 32 (0, 0))) := hZ (fun wx hb => (hb.block _ (by omega)).trans O0)
 have HX1 : Hid (∀ wx, Below W2.heap.size W2 wx -> wx.heap[w.heap.size + 1]? = some (.cells #[.string b.pkg, .int .i64 b.major, .string b.mod, .slice Abt b.types.length cbt, .slice Abv b.vals.length cbv] 32 (0, 0))) := hZ (fun wx hb => (hb.block _ (by omega)).trans O1)
 have HB2 := hZ B2
 have HW := hZ hW2
 have C6 := hZ (fun w' (hb : Below w.heap.size w w') => rsame10_list _ cat _ _ _ cbt _ _ w' rfl rfl z3 y3 (hTa.below hb) (hTb.below hb))
 have C7 := hZ (fun w' (hb : Below w.heap.size w w') => rsame10_list _ cav _ _ _ cbv _ _ w' rfl rfl z4 y4 (hVa.below hb) (hVb.below hb))
 obtain ⟨q3, hq3⟩ : ∃ q, q = decide (a.pkg = b.pkg) := ⟨_, rfl⟩
 obtain ⟨q4, hq4⟩ : ∃ q, (a.major == b.major) = q := ⟨_, rfl⟩
 obtain ⟨q5, hq5⟩ : ∃ q, q = decide (a.mod = b.mod) := ⟨_, rfl⟩
 obtain ⟨q6, hq6⟩ : ∃ q, q = sameNm a.types b.types := ⟨_, rfl⟩
 obtain ⟨q7, hq7⟩ : ∃ q, q = sameNm a.vals b.vals := ⟨_, rfl⟩
 have e : sameIf a b = (q3 && (q4 && (q5 && (q6 && q7)))) := by rw [sameIf_eq, hq3, hq4, hq5, hq6, hq7]
 rw [e]
 have s3 := str_eq a.pkg b.pkg
 have s5 := str_eq a.mod b.mod
 rw [<- hq3] at s3
 rw [<- hq5] at s5
 rw [<- hq6] at C6
 rw [<- hq7] at C7
 obtain ⟨x0, x1, x2, x3, x4⟩ := cq5 O0
 simp at x0 x1 x2 x3 x4
 obtain ⟨y0, y1, y2, y3, y4⟩ := cq5 O1
 simp at y0 y1 y2 y3 y4
 clear hTa hVa hTb hVb B2 hW2 O0 O1 e hq3 hq5 hq6 hq7
 go_enter Tryz.func10, Tryz.ntmps10
 go_upto_region 1 with fail
 rw [<- HW.out]
 clear HW
 cases q3 with
 | false =>
  go_wp2_with fail
  go_ret;exact ⟨rfl, HB2.out⟩
 | true =>
  cases q4 with
  | false =>
   go_wp2_with fail
   go_ret;exact ⟨rfl, HB2.out⟩
  | true =>
   cases q5 with
   | false =>
    go_wp2_with fail
    go_ret;exact ⟨rfl, HB2.out⟩
   | true =>
    go_wp2_with fail
    refine (C6.out _ HB2.out).mono ?_; rintro e w5 ⟨rfl, hb5⟩
    have HB5 := hZ (below_over HB2.out hb5);have HB5w := hZ hb5;clear x0 x1 x2 x3 x4 y0 y1 y2 y3 y4 hb5;cases q6 with
    | false =>
     go_wp2_with fail
     go_ret;exact ⟨rfl, HB5.out⟩
    | true =>
     have X0 := HX0.out w5 HB5w.out;have X1 := HX1.out w5 HB5w.out;obtain ⟨x0, x1, x2, x3, x4⟩ := cq5 X0;simp at x0 x1 x2 x3 x4;obtain ⟨y0, y1, y2, y3, y4⟩ := cq5 X1;simp at y0 y1 y2 y3 y4;clear X0 X1;go_wp2_with fail
     refine (C7.out _ HB5.out).mono ?_; rintro e w6 ⟨rfl, hb6⟩
     have HB6 := hZ (below_over HB5.out hb6);clear x0 x1 x2 x3 x4 y0 y1 y2 y3 y4 hb6;go_wp2_with fail
     go_ret;exact ⟨rfl, HB6.out⟩
theorem few_ifs {env : List If} (h : fewE env = true) {x : If} (hx : x ∈ env) : (∀ y ∈ x.types, many y.typ <= 9000) /\ ∀ y ∈ x.vals, many y.typ <= 9000 := by
  unfold fewE at h
  rw [Bool.and_eq_true, List.all_eq_true] at h;have := h.2 x hx
  unfold fewI at this
  simp only [Bool.and_eq_true, decide_eq_true_eq, List.all_eq_true] at this;exact ⟨fun y hy => by have := few_small (this.2.2.1 y hy); omega, fun y hy => by have := few_small (this.2.2.2 y hy); omega⟩
end Go.Proofs.YtcdmgcgjonndpaaGreatDoor
namespace Go.Proofs.YtcdmgcgjonndpaaGreatDoor
open Go Go.RowKit Go.Shelf
open Go.Sort Go.Maps
open M
section
variable {P : Program} {w : World}
end
end Go.Proofs.YtcdmgcgjonndpaaGreatDoor
