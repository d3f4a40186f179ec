/-
  Several texts in one.
-/
import Derived.Test.YtddlmigofilejaaGreatDoorK21
import Derived.Lib.SliceRun
import Derived.Deep.Upon
import Derived.RangeFuncNested
import Derived.RangeFuncBound
import Derived.RangeFuncCalls
import Derived.RangeFuncLeaves
import Derived.Shelf.Abstract
import Derived.Shelf.RegionOpen
import Derived.OwnWalkIn
import Derived.TacticsInMore
import Derived.LoopNIn
import Derived.LoopIn
import Derived.Maps.OwnIn
set_option maxRecDepth 100000
set_option maxHeartbeats 4000000
namespace Go.Proofs.YtddlmigofilejaaGreatDoor
open Go Go.RowKit Go.Shelf
open Go.Sort
open M
theorem idxZ (An : Option Addr) (cn : Nat) (As : Option Addr) (cs : Nat) (Bn : Option Addr) (dn : Nat) (Bs : Option Addr) (ds : Nat) (f : Value) (w : World) : Calls Tryz.prog 185 #[.slice As 0 cs, f] w fun e w' => e = .returned (.int .i64 (-1)) /\ Below w.heap.size w w' := by
  go_enter Tryz.func185, Tryz.ntmps185
  go_wp2_with fail
  go_loopw [8] (fun s wr => s = .int .i64 0 /\ w = wr) (fun _ _ => 0)
  case atStart => exact ⟨rfl, rfl⟩
  case round =>
    obtain ⟨rfl, rfl⟩ := hrel;go_wp2_with fail
    go_ret;exact ⟨rfl, Below.refl _ _⟩
theorem eqSZ (An : Option Addr) (cn : Nat) (As : Option Addr) (cs : Nat) (Bn : Option Addr) (dn : Nat) (Bs : Option Addr) (ds : Nat) (f : Value) (w : World) : Calls Tryz.prog 189 #[.slice An 0 cn, .slice Bn 0 dn] w fun e w' => e = .returned (.bool true) /\ Below w.heap.size w w' := by
  go_enter Tryz.func189, Tryz.ntmps189
  go_wp2_with fail
  go_loopw [13] (fun s wr => s = .int .i64 0 /\ w = wr) (fun _ _ => 0)
  case atStart => exact ⟨rfl, rfl⟩
  case round =>
    obtain ⟨rfl, rfl⟩ := hrel;go_wp2_with fail
    go_ret;exact ⟨rfl, Below.refl _ _⟩
theorem eqFZ (An : Option Addr) (cn : Nat) (As : Option Addr) (cs : Nat) (Bn : Option Addr) (dn : Nat) (Bs : Option Addr) (ds : Nat) (f : Value) (w : World) : Calls Tryz.prog 190 #[.slice As 0 cs, .slice Bs 0 ds, f] w fun e w' => e = .returned (.bool true) /\ Below w.heap.size w w' := by
  go_enter Tryz.func190, Tryz.ntmps190
  go_wp2_with fail
  go_loopw [17] (fun s wr => s = .int .i64 0 /\ w = wr) (fun _ _ => 0)
  case atStart => exact ⟨rfl, rfl⟩
  case round =>
    obtain ⟨rfl, rfl⟩ := hrel;go_wp2_with fail
    go_ret;exact ⟨rfl, Below.refl _ _⟩
theorem contZ (An : Option Addr) (cn : Nat) (As : Option Addr) (cs : Nat) (f : Value) (w : World) : Calls Tryz.prog 150 #[.slice As 0 cs, f] w fun e w' => e = .returned (.bool false) /\ Below w.heap.size w w' := by
  go_enter Tryz.func150, Tryz.ntmps150
  go_wp2_with fail
  refine (idxZ An cn As cs An cn As cs f w).mono ?_; rintro e w2 ⟨rfl, hb2⟩
  have HB2 := zH hb2;clear hb2;go_wp2_with fail
  go_ret;exact ⟨rfl, HB2.out⟩
theorem hasLZ (An : Option Addr) (cn : Nat) (As : Option Addr) (cs : Nat) (w : World) : Calls Tryz.prog 191 #[.agg #[.int .i64 1, .string ⟨#[]⟩, .int .i64 0, .string ⟨#[]⟩, .string ⟨#[]⟩, .slice An 0 cn, .slice As 0 cs]] w fun e w' => e = .returned (.bool false) /\ Below w.heap.size w w' := by
  obtain ⟨wb, hwb⟩ : ∃ wb, wb = w.alloc (.cells #[.int .i64 1, .string ⟨#[]⟩, .int .i64 0, .string ⟨#[]⟩, .string ⟨#[]⟩, .slice An 0 cn, .slice As 0 cs] 48) := ⟨_, rfl⟩;have B0 : Below w.heap.size w wb := by rw [hwb]; exact below_new (Below.refl _ _) _
  have X0 : wb.heap[w.heap.size]? = some (.cells #[.int .i64 1, .string ⟨#[]⟩, .int .i64 0, .string ⟨#[]⟩, .string ⟨#[]⟩, .slice An 0 cn, .slice As 0 cs] 48 (0, 0)) := by rw [hwb]; exact heap_alloc_new w _
  obtain ⟨x0, x1, x2, x3, x4, x5, x6⟩ := cq7 X0;simp at x0 x1 x2 x3 x4 x5 x6;have HB0 := zH B0;have HX0 := zH X0;have HWB := zH hwb;clear B0 X0 hwb;go_enter Tryz.func191, Tryz.ntmps191
  go_upto_region 1 with fail
  rw [<- HWB.out];go_wp2_with fail
  refine (contZ An cn As cs _ wb).mono ?_; rintro e w2 ⟨rfl, hb2⟩
  have HB2 := zH (below_over HB0.out hb2);clear hb2;go_wp2_with fail
  go_ret;exact ⟨rfl, HB2.out⟩
theorem plainZ (An : Option Addr) (cn : Nat) (As : Option Addr) (cs : Nat) (w : World) : Calls Tryz.prog 157 #[.agg #[.int .i64 1, .string ⟨#[]⟩, .int .i64 0, .string ⟨#[]⟩, .string ⟨#[]⟩, .slice An 0 cn, .slice As 0 cs]] w fun e w' => e = .returned (.bool true) /\ Below w.heap.size w w' := by
  obtain ⟨wb, hwb⟩ : ∃ wb, wb = w.alloc (.cells #[.int .i64 1, .string ⟨#[]⟩, .int .i64 0, .string ⟨#[]⟩, .string ⟨#[]⟩, .slice An 0 cn, .slice As 0 cs] 48) := ⟨_, rfl⟩;have B0 : Below w.heap.size w wb := by rw [hwb]; exact below_new (Below.refl _ _) _
  have X0 : wb.heap[w.heap.size]? = some (.cells #[.int .i64 1, .string ⟨#[]⟩, .int .i64 0, .string ⟨#[]⟩, .string ⟨#[]⟩, .slice An 0 cn, .slice As 0 cs] 48 (0, 0)) := by rw [hwb]; exact heap_alloc_new w _
  obtain ⟨x0, x1, x2, x3, x4, x5, x6⟩ := cq7 X0;simp at x0 x1 x2 x3 x4 x5 x6;have HB0 := zH B0;have HX0 := zH X0;have HWB := zH hwb;clear B0 X0 hwb;go_enter Tryz.func157, Tryz.ntmps157
  go_upto_region 1 with fail
  rw [<- HWB.out];go_wp2_with fail
  refine (mayZ An cn As cs wb).mono ?_; rintro e w2 ⟨rfl, hb2⟩
  have HB2 := zH (below_over HB0.out hb2);have X2 := (hb2.block w.heap.size (Array.getElem?_eq_some_iff.1 HX0.out).1).trans HX0.out;replace x0 := cZ X2 0
  replace x1 := cZ X2 1
  replace x2 := cZ X2 2
  replace x3 := cZ X2 3
  replace x4 := cZ X2 4
  replace x5 := cZ X2 5
  replace x6 := cZ X2 6
  simp at x0 x1 x2 x3 x4 x5 x6;clear hb2 X2;go_wp2_with fail
  refine (hasLZ An cn As cs w2).mono ?_; rintro e w3 ⟨rfl, hb3⟩
  have HB3 := zH (below_over HB2.out hb3);clear hb3;go_wp2_with fail
  go_ret;exact ⟨rfl, HB3.out⟩
theorem alikeZ (An : Option Addr) (cn : Nat) (As : Option Addr) (cs : Nat) (Bn : Option Addr) (dn : Nat) (Bs : Option Addr) (ds : Nat) (w : World) : Calls Tryz.prog 156 #[.agg #[.int .i64 1, .string ⟨#[]⟩, .int .i64 0, .string ⟨#[]⟩, .string ⟨#[]⟩, .slice An 0 cn, .slice As 0 cs], .agg #[.int .i64 1, .string ⟨#[]⟩, .int .i64 0, .string ⟨#[]⟩, .string ⟨#[]⟩, .slice Bn 0 dn, .slice Bs 0 ds]] w fun e w' => e = .returned (.bool true) /\ Below w.heap.size w w' := by
  obtain ⟨wb, hwb, B0, X0, Y0, hl⟩ := two_boxes w #[.int .i64 1, .string ⟨#[]⟩, .int .i64 0, .string ⟨#[]⟩, .string ⟨#[]⟩, .slice An 0 cn, .slice As 0 cs] #[.int .i64 1, .string ⟨#[]⟩, .int .i64 0, .string ⟨#[]⟩, .string ⟨#[]⟩, .slice Bn 0 dn, .slice Bs 0 ds] 48 48;obtain ⟨x0, x1, x2, x3, x4, x5, x6⟩ := cq7 X0;simp at x0 x1 x2 x3 x4 x5 x6;obtain ⟨y0, y1, y2, y3, y4, y5, y6⟩ := cq7 Y0;simp at y0 y1 y2 y3 y4 y5 y6;have HB0 := zH B0;have HX0 := zH (fun wx (hb : Below wb.heap.size wb wx) => (hb.block w.heap.size (by omega)).trans X0);have HY0 := zH (fun wx (hb : Below wb.heap.size wb wx) => (hb.block (w.heap.size + 1) (by omega)).trans Y0);have HWB := zH hwb;clear B0 X0 Y0 hwb hl;go_enter Tryz.func156, Tryz.ntmps156
  go_upto_region 1 with fail
  rw [<- HWB.out];clear HWB;go_wp2_with fail
  refine (eqSZ An cn As cs Bn dn Bs ds .nilIface wb).mono ?_; rintro e w2 ⟨rfl, hb2⟩
  have HB2 := zH (id hb2);replace x0 := cZ (HX0.out w2 HB2.out) 0
  replace x1 := cZ (HX0.out w2 HB2.out) 1
  replace x2 := cZ (HX0.out w2 HB2.out) 2
  replace x3 := cZ (HX0.out w2 HB2.out) 3
  replace x4 := cZ (HX0.out w2 HB2.out) 4
  replace x5 := cZ (HX0.out w2 HB2.out) 5
  replace x6 := cZ (HX0.out w2 HB2.out) 6
  replace y0 := cZ (HY0.out w2 HB2.out) 0
  replace y1 := cZ (HY0.out w2 HB2.out) 1
  replace y2 := cZ (HY0.out w2 HB2.out) 2
  replace y3 := cZ (HY0.out w2 HB2.out) 3
  replace y4 := cZ (HY0.out w2 HB2.out) 4
  replace y5 := cZ (HY0.out w2 HB2.out) 5
  replace y6 := cZ (HY0.out w2 HB2.out) 6
  simp at x0 x1 x2 x3 x4 x5 x6 y0 y1 y2 y3 y4 y5 y6;clear hb2;go_wp2_with fail
  refine (eqFZ An cn As cs Bn dn Bs ds _ w2).mono ?_; rintro e w3 ⟨rfl, hb3⟩
  have HB3 := zH (below_over HB2.out hb3);replace x0 := cZ (HX0.out w3 HB3.out) 0
  replace x1 := cZ (HX0.out w3 HB3.out) 1
  replace x2 := cZ (HX0.out w3 HB3.out) 2
  replace x3 := cZ (HX0.out w3 HB3.out) 3
  replace x4 := cZ (HX0.out w3 HB3.out) 4
  replace x5 := cZ (HX0.out w3 HB3.out) 5
  replace x6 := cZ (HX0.out w3 HB3.out) 6
  replace y0 := cZ (HY0.out w3 HB3.out) 0
  replace y1 := cZ (HY0.out w3 HB3.out) 1
  replace y2 := cZ (HY0.out w3 HB3.out) 2
  replace y3 := cZ (HY0.out w3 HB3.out) 3
  replace y4 := cZ (HY0.out w3 HB3.out) 4
  replace y5 := cZ (HY0.out w3 HB3.out) 5
  replace y6 := cZ (HY0.out w3 HB3.out) 6
  simp at x0 x1 x2 x3 x4 x5 x6 y0 y1 y2 y3 y4 y5 y6;clear hb3;go_wp2_with fail
  go_ret;exact ⟨rfl, below_over HB0.out HB3.out⟩
theorem sameZ (An : Option Addr) (cn : Nat) (As : Option Addr) (cs : Nat) (Bn : Option Addr) (dn : Nat) (Bs : Option Addr) (ds : Nat) (w : World) : Calls Tryz.prog 107 #[.agg #[.int .i64 1, .string ⟨#[]⟩, .int .i64 0, .string ⟨#[]⟩, .string ⟨#[]⟩, .slice An 0 cn, .slice As 0 cs], .agg #[.int .i64 1, .string ⟨#[]⟩, .int .i64 0, .string ⟨#[]⟩, .string ⟨#[]⟩, .slice Bn 0 dn, .slice Bs 0 ds]] w fun e w' => e = .returned (.bool true) /\ Below w.heap.size w w' := by
  obtain ⟨wb, hwb, B0, X0, Y0, hl⟩ := two_boxes w #[.int .i64 1, .string ⟨#[]⟩, .int .i64 0, .string ⟨#[]⟩, .string ⟨#[]⟩, .slice An 0 cn, .slice As 0 cs] #[.int .i64 1, .string ⟨#[]⟩, .int .i64 0, .string ⟨#[]⟩, .string ⟨#[]⟩, .slice Bn 0 dn, .slice Bs 0 ds] 48 48;obtain ⟨x0, x1, x2, x3, x4, x5, x6⟩ := cq7 X0;simp at x0 x1 x2 x3 x4 x5 x6;obtain ⟨y0, y1, y2, y3, y4, y5, y6⟩ := cq7 Y0;simp at y0 y1 y2 y3 y4 y5 y6;have HB0 := zH B0;have HX0 := zH (fun wx (hb : Below wb.heap.size wb wx) => (hb.block w.heap.size (by omega)).trans X0);have HY0 := zH (fun wx (hb : Below wb.heap.size wb wx) => (hb.block (w.heap.size + 1) (by omega)).trans Y0);have HWB := zH hwb;clear B0 X0 Y0 hwb hl;go_enter Tryz.func107, Tryz.ntmps107
  go_upto_region 1 with fail
  rw [<- HWB.out];clear HWB;go_wp2_with fail
  refine (mayZ An cn As cs wb).mono ?_; rintro e w2 ⟨rfl, hb2⟩
  have HB2 := zH (id hb2);replace x0 := cZ (HX0.out w2 HB2.out) 0
  replace x1 := cZ (HX0.out w2 HB2.out) 1
  replace x2 := cZ (HX0.out w2 HB2.out) 2
  replace x3 := cZ (HX0.out w2 HB2.out) 3
  replace x4 := cZ (HX0.out w2 HB2.out) 4
  replace x5 := cZ (HX0.out w2 HB2.out) 5
  replace x6 := cZ (HX0.out w2 HB2.out) 6
  replace y0 := cZ (HY0.out w2 HB2.out) 0
  replace y1 := cZ (HY0.out w2 HB2.out) 1
  replace y2 := cZ (HY0.out w2 HB2.out) 2
  replace y3 := cZ (HY0.out w2 HB2.out) 3
  replace y4 := cZ (HY0.out w2 HB2.out) 4
  replace y5 := cZ (HY0.out w2 HB2.out) 5
  replace y6 := cZ (HY0.out w2 HB2.out) 6
  simp at x0 x1 x2 x3 x4 x5 x6 y0 y1 y2 y3 y4 y5 y6;clear hb2;go_wp2_with fail
  refine (mayZ Bn dn Bs ds w2).mono ?_; rintro e w3 ⟨rfl, hb3⟩
  have HB3 := zH (below_over HB2.out hb3);replace x0 := cZ (HX0.out w3 HB3.out) 0
  replace x1 := cZ (HX0.out w3 HB3.out) 1
  replace x2 := cZ (HX0.out w3 HB3.out) 2
  replace x3 := cZ (HX0.out w3 HB3.out) 3
  replace x4 := cZ (HX0.out w3 HB3.out) 4
  replace x5 := cZ (HX0.out w3 HB3.out) 5
  replace x6 := cZ (HX0.out w3 HB3.out) 6
  replace y0 := cZ (HY0.out w3 HB3.out) 0
  replace y1 := cZ (HY0.out w3 HB3.out) 1
  replace y2 := cZ (HY0.out w3 HB3.out) 2
  replace y3 := cZ (HY0.out w3 HB3.out) 3
  replace y4 := cZ (HY0.out w3 HB3.out) 4
  replace y5 := cZ (HY0.out w3 HB3.out) 5
  replace y6 := cZ (HY0.out w3 HB3.out) 6
  simp at x0 x1 x2 x3 x4 x5 x6 y0 y1 y2 y3 y4 y5 y6;clear hb3;go_wp2_with fail
  refine (alikeZ An cn As cs Bn dn Bs ds w3).mono ?_; rintro e w4 ⟨rfl, hb4⟩
  have HB4 := zH (below_over HB3.out hb4);replace x0 := cZ (HX0.out w4 HB4.out) 0
  replace x1 := cZ (HX0.out w4 HB4.out) 1
  replace x2 := cZ (HX0.out w4 HB4.out) 2
  replace x3 := cZ (HX0.out w4 HB4.out) 3
  replace x4 := cZ (HX0.out w4 HB4.out) 4
  replace x5 := cZ (HX0.out w4 HB4.out) 5
  replace x6 := cZ (HX0.out w4 HB4.out) 6
  replace y0 := cZ (HY0.out w4 HB4.out) 0
  replace y1 := cZ (HY0.out w4 HB4.out) 1
  replace y2 := cZ (HY0.out w4 HB4.out) 2
  replace y3 := cZ (HY0.out w4 HB4.out) 3
  replace y4 := cZ (HY0.out w4 HB4.out) 4
  replace y5 := cZ (HY0.out w4 HB4.out) 5
  replace y6 := cZ (HY0.out w4 HB4.out) 6
  simp at x0 x1 x2 x3 x4 x5 x6 y0 y1 y2 y3 y4 y5 y6;clear hb4;go_wp2_with fail
  go_ret;exact ⟨rfl, below_over HB0.out HB4.out⟩
theorem standsZ (An : Option Addr) (cn : Nat) (As : Option Addr) (cs : Nat) (Bn : Option Addr) (dn : Nat) (Bs : Option Addr) (ds : Nat) (w : World) : Calls Tryz.prog 158 #[.agg #[.int .i64 1, .string ⟨#[]⟩, .int .i64 0, .string ⟨#[]⟩, .string ⟨#[]⟩, .slice An 0 cn, .slice As 0 cs], .agg #[.int .i64 1, .string ⟨#[]⟩, .int .i64 0, .string ⟨#[]⟩, .string ⟨#[]⟩, .slice Bn 0 dn, .slice Bs 0 ds]] w fun e w' => e = .returned (.bool true) /\ Below w.heap.size w w' := by
  obtain ⟨wb, hwb, B0, X0, Y0, hl⟩ := two_boxes w #[.int .i64 1, .string ⟨#[]⟩, .int .i64 0, .string ⟨#[]⟩, .string ⟨#[]⟩, .slice An 0 cn, .slice As 0 cs] #[.int .i64 1, .string ⟨#[]⟩, .int .i64 0, .string ⟨#[]⟩, .string ⟨#[]⟩, .slice Bn 0 dn, .slice Bs 0 ds] 48 48;obtain ⟨x0, x1, x2, x3, x4, x5, x6⟩ := cq7 X0;simp at x0 x1 x2 x3 x4 x5 x6;obtain ⟨y0, y1, y2, y3, y4, y5, y6⟩ := cq7 Y0;simp at y0 y1 y2 y3 y4 y5 y6;have HB0 := zH B0;have HX0 := zH (fun wx (hb : Below wb.heap.size wb wx) => (hb.block w.heap.size (by omega)).trans X0);have HY0 := zH (fun wx (hb : Below wb.heap.size wb wx) => (hb.block (w.heap.size + 1) (by omega)).trans Y0);have HWB := zH hwb;clear B0 X0 Y0 hwb hl;go_enter Tryz.func158, Tryz.ntmps158
  go_upto_region 1 with fail
  rw [<- HWB.out];clear HWB;go_wp2_with fail
  refine (sameZ An cn As cs Bn dn Bs ds wb).mono ?_; rintro e w2 ⟨rfl, hb2⟩
  have HB2 := zH (id hb2);replace x0 := cZ (HX0.out w2 HB2.out) 0
  replace x1 := cZ (HX0.out w2 HB2.out) 1
  replace x2 := cZ (HX0.out w2 HB2.out) 2
  replace x3 := cZ (HX0.out w2 HB2.out) 3
  replace x4 := cZ (HX0.out w2 HB2.out) 4
  replace x5 := cZ (HX0.out w2 HB2.out) 5
  replace x6 := cZ (HX0.out w2 HB2.out) 6
  replace y0 := cZ (HY0.out w2 HB2.out) 0
  replace y1 := cZ (HY0.out w2 HB2.out) 1
  replace y2 := cZ (HY0.out w2 HB2.out) 2
  replace y3 := cZ (HY0.out w2 HB2.out) 3
  replace y4 := cZ (HY0.out w2 HB2.out) 4
  replace y5 := cZ (HY0.out w2 HB2.out) 5
  replace y6 := cZ (HY0.out w2 HB2.out) 6
  simp at x0 x1 x2 x3 x4 x5 x6 y0 y1 y2 y3 y4 y5 y6;clear hb2;go_wp2_with fail
  go_ret;exact ⟨rfl, below_over HB0.out HB2.out⟩
theorem subZ (An : Option Addr) (cn : Nat) (As : Option Addr) (cs : Nat) (Bn : Option Addr) (dn : Nat) (Bs : Option Addr) (ds : Nat) (w : World) : Calls Tryz.prog 108 #[.agg #[.int .i64 1, .string ⟨#[]⟩, .int .i64 0, .string ⟨#[]⟩, .string ⟨#[]⟩, .slice An 0 cn, .slice As 0 cs], .agg #[.int .i64 1, .string ⟨#[]⟩, .int .i64 0, .string ⟨#[]⟩, .string ⟨#[]⟩, .slice Bn 0 dn, .slice Bs 0 ds]] w fun e w' => e = .returned (.bool true) /\ Below w.heap.size w w' := by
  obtain ⟨wb, hwb, B0, X0, Y0, hl⟩ := two_boxes w #[.int .i64 1, .string ⟨#[]⟩, .int .i64 0, .string ⟨#[]⟩, .string ⟨#[]⟩, .slice An 0 cn, .slice As 0 cs] #[.int .i64 1, .string ⟨#[]⟩, .int .i64 0, .string ⟨#[]⟩, .string ⟨#[]⟩, .slice Bn 0 dn, .slice Bs 0 ds] 48 48;obtain ⟨x0, x1, x2, x3, x4, x5, x6⟩ := cq7 X0;simp at x0 x1 x2 x3 x4 x5 x6;obtain ⟨y0, y1, y2, y3, y4, y5, y6⟩ := cq7 Y0;simp at y0 y1 y2 y3 y4 y5 y6;have HB0 := zH B0;have HX0 := zH (fun wx (hb : Below wb.heap.size wb wx) => (hb.block w.heap.size (by omega)).trans X0);have HY0 := zH (fun wx (hb : Below wb.heap.size wb wx) => (hb.block (w.heap.size + 1) (by omega)).trans Y0);have HWB := zH hwb;clear B0 X0 Y0 hwb hl;go_enter Tryz.func108, Tryz.ntmps108
  go_upto_region 1 with fail
  rw [<- HWB.out];clear HWB;go_wp2_with fail
  refine (plainZ An cn As cs wb).mono ?_; rintro e w2 ⟨rfl, hb2⟩
  have HB2 := zH (id hb2);replace x0 := cZ (HX0.out w2 HB2.out) 0
  replace x1 := cZ (HX0.out w2 HB2.out) 1
  replace x2 := cZ (HX0.out w2 HB2.out) 2
  replace x3 := cZ (HX0.out w2 HB2.out) 3
  replace x4 := cZ (HX0.out w2 HB2.out) 4
  replace x5 := cZ (HX0.out w2 HB2.out) 5
  replace x6 := cZ (HX0.out w2 HB2.out) 6
  replace y0 := cZ (HY0.out w2 HB2.out) 0
  replace y1 := cZ (HY0.out w2 HB2.out) 1
  replace y2 := cZ (HY0.out w2 HB2.out) 2
  replace y3 := cZ (HY0.out w2 HB2.out) 3
  replace y4 := cZ (HY0.out w2 HB2.out) 4
  replace y5 := cZ (HY0.out w2 HB2.out) 5
  replace y6 := cZ (HY0.out w2 HB2.out) 6
  simp at x0 x1 x2 x3 x4 x5 x6 y0 y1 y2 y3 y4 y5 y6;clear hb2;go_wp2_with fail
  refine (plainZ Bn dn Bs ds w2).mono ?_; rintro e w3 ⟨rfl, hb3⟩
  have HB3 := zH (below_over HB2.out hb3);replace x0 := cZ (HX0.out w3 HB3.out) 0
  replace x1 := cZ (HX0.out w3 HB3.out) 1
  replace x2 := cZ (HX0.out w3 HB3.out) 2
  replace x3 := cZ (HX0.out w3 HB3.out) 3
  replace x4 := cZ (HX0.out w3 HB3.out) 4
  replace x5 := cZ (HX0.out w3 HB3.out) 5
  replace x6 := cZ (HX0.out w3 HB3.out) 6
  replace y0 := cZ (HY0.out w3 HB3.out) 0
  replace y1 := cZ (HY0.out w3 HB3.out) 1
  replace y2 := cZ (HY0.out w3 HB3.out) 2
  replace y3 := cZ (HY0.out w3 HB3.out) 3
  replace y4 := cZ (HY0.out w3 HB3.out) 4
  replace y5 := cZ (HY0.out w3 HB3.out) 5
  replace y6 := cZ (HY0.out w3 HB3.out) 6
  simp at x0 x1 x2 x3 x4 x5 x6 y0 y1 y2 y3 y4 y5 y6;clear hb3;go_wp2_with fail
  refine (standsZ An cn As cs Bn dn Bs ds w3).mono ?_; rintro e w4 ⟨rfl, hb4⟩
  have HB4 := zH (below_over HB3.out hb4);replace x0 := cZ (HX0.out w4 HB4.out) 0
  replace x1 := cZ (HX0.out w4 HB4.out) 1
  replace x2 := cZ (HX0.out w4 HB4.out) 2
  replace x3 := cZ (HX0.out w4 HB4.out) 3
  replace x4 := cZ (HX0.out w4 HB4.out) 4
  replace x5 := cZ (HX0.out w4 HB4.out) 5
  replace x6 := cZ (HX0.out w4 HB4.out) 6
  replace y0 := cZ (HY0.out w4 HB4.out) 0
  replace y1 := cZ (HY0.out w4 HB4.out) 1
  replace y2 := cZ (HY0.out w4 HB4.out) 2
  replace y3 := cZ (HY0.out w4 HB4.out) 3
  replace y4 := cZ (HY0.out w4 HB4.out) 4
  replace y5 := cZ (HY0.out w4 HB4.out) 5
  replace y6 := cZ (HY0.out w4 HB4.out) 6
  simp at x0 x1 x2 x3 x4 x5 x6 y0 y1 y2 y3 y4 y5 y6;clear hb4;go_wp2_with fail
  go_ret;exact ⟨rfl, below_over HB0.out HB4.out⟩
end Go.Proofs.YtddlmigofilejaaGreatDoor
namespace Go.Proofs.YtddlmigofilejaaGreatDoor
open Go Go.RowKit Go.Shelf
open Go.Sort Go.Maps
open M
def tR : Reads Ty := ⟨7, 48, TyAt, fun _ _ _ _ _ _ h hz hb => h.move hz hb, fun _ _ _ _ h hb => h.keep hb, fun _ _ _ _ h => h.free, fun _ _ _ h => h.len⟩
def stE (_ : World) (l : List Value) (s : ByteArray) : Prop := l = [.string s] /\ s.size <= 9223372036854775807
def stR : Reads ByteArray := ⟨1, 9, stE, fun _ _ _ _ _ _ h _ _ => h, fun _ _ _ _ h _ => h, fun _ _ _ _ h => h, fun _ l x h => by rw [h.1]; rfl⟩
theorem SubsAt.row {w : World} {A : Option Addr} {l : List Ty} (h : SubsAt w A l) : RowIn tR w A l := fun i t ht => by
  obtain ⟨g, o, v0, v1, v2, v3, v4, v5, v6, hA, hg, h0, h1, h2, h3, h4, h5, h6, hT⟩ := h i t ht;refine ⟨g, o, [v0, v1, v2, v3, v4, v5, v6], hA, hg, fun j v hv => ?_, hT⟩;have hj := (List.getElem?_eq_some_iff.1 hv).1;simp at hj;match j, hv with
  | 0, hv => simp at hv; subst hv; exact h0
  | 1, hv => simp at hv; subst hv; exact h1
  | 2, hv => simp at hv; subst hv; exact h2
  | 3, hv => simp at hv; subst hv; exact h3
  | 4, hv => simp at hv; subst hv; exact h4
  | 5, hv => simp at hv; subst hv; exact h5
  | 6, hv => simp at hv; subst hv; exact h6
  | j + 7, _ => omega
theorem NamesAt.row {w : World} {A : Option Addr} {l : List ByteArray} (h : NamesAt w A l) : RowIn stR w A l := fun i s hs => by
  obtain ⟨g, o, hA, hg, hc, hz⟩ := h i s hs;refine ⟨g, o, [.string s], hA, hg, fun j v hv => ?_, rfl, hz⟩;cases j with
  | zero =>
    simp at hv; subst hv
    show w.cell? ⟨g, o + i * 1 + 0, none⟩ = _
    rw [show o + i * 1 + 0 = o + i by omega]; exact hc
  | succ j => simp at hv
theorem RowIn.names {w : World} {A : Option Addr} {l : List ByteArray} (h : RowIn stR w A l) : NamesAt w A l := fun i s hs => by
  obtain ⟨g, o, l, hA, hg, hc, rfl, hz⟩ := h i s hs;refine ⟨g, o, hA, hg, ?_, hz⟩;have := hc 0 _ rfl
  rw [show o + i * stR.k + 0 = o + i by show o + i * 1 + 0 = o + i; omega] at this;exact this
theorem RowIn.none_nil {α : Type} {R : Reads α} {w : World} {xs : List α} (h : RowIn R w none xs) : xs = [] := by
  cases xs with
  | nil => rfl
  | cons x r => obtain ⟨g, o, l, e, -⟩ := h 0 x rfl; cases e
theorem ty_made {w : World} {t : Ty} {An As : Option Addr} {cn cs : Nat} (hp : t.pkg.size <= 9223372036854775807) (hm : t.mod.size <= 9223372036854775807) (hn : t.name.size <= 9223372036854775807) (hln : t.names.length <= 9223372036854775807) (hls : t.subs.length <= 9223372036854775807) (hcs : t.subs.length <= cs)
    (hN : NamesAt w An t.names) (hS : RowIn tR w As t.subs) : TyAt w [.int .i64 t.kind, .string t.pkg, .int .i64 t.major, .string t.mod, .string t.name, .slice An t.names.length cn, .slice As t.subs.length cs] t := by
  have hall : ∀ i : Nat, ∃ l : List Value, l.length = 7 /\ ∀ s, t.subs[i]? = some s -> TyAt w l s /\ ∃ g o, As = some ⟨g, o, none⟩ /\ g < w.heap.size /\ ∀ j v, l[j]? = some v -> w.cell? ⟨g, o + i * 7 + j, none⟩ = some v := fun i => by
    cases hs : t.subs[i]? with
    | none => exact ⟨[.int .i64 0, .string ⟨#[]⟩, .int .i64 0, .string ⟨#[]⟩, .string ⟨#[]⟩, .slice none 0 0, .slice none 0 0], rfl, fun s h => by cases h⟩
    | some s =>
      obtain ⟨g, o, l, hA, hg, hc, hE⟩ := hS i s hs;refine ⟨l, hE.len, fun s' h => ?_⟩;cases h
      exact ⟨hE, g, o, hA, hg, hc⟩
  obtain ⟨C, hC⟩ := Classical.axiomOfChoice hall;have hd : t = .mk t.kind t.pkg t.major t.mod t.name t.names t.subs := by cases t; rfl
  rw [show TyAt w [.int .i64 t.kind, .string t.pkg, .int .i64 t.major, .string t.mod, .string t.name, .slice An t.names.length cn, .slice As t.subs.length cs] t = TyAt w [.int .i64 t.kind, .string t.pkg, .int .i64 t.major, .string t.mod, .string t.name, .slice An t.names.length cn, .slice As t.subs.length cs] (.mk t.kind t.pkg t.major t.mod t.name t.names t.subs) by rw [<- hd]];exact .mk t.kind t.pkg t.major t.mod t.name t.names t.subs An cn As cs C hp hm hn hln hls hcs hN (fun i => (hC i).1) (fun i s hs => ((hC i).2 s hs).2) (fun i s hs => ((hC i).2 s hs).1)
structure Fill {α : Type} (R : Reads α) (lo g : Nat) (xs : List α) (j : Nat) (w : World) : Prop where
  hlo : lo <= g
  hg : g < w.heap.size
  there : w.there g 0 (xs.length * R.k)
  rows : ∀ i x, i < j -> xs[i]? = some x -> ∃ l : List Value, (∀ q v, l[q]? = some v -> w.cell? ⟨g, i * R.k + q, none⟩ = some v) /\ R.E (strike (fun b => b < lo \/ b = g) w) l x
theorem Fill.start {α : Type} (R : Reads α) {lo : Nat} {w : World} (hlo : lo <= w.heap.size) (cells : Array Value) (T : TypeId) (xs : List α) (hs : cells.size = xs.length * R.k) : Fill R lo w.heap.size xs 0 (w.alloc (.cells cells T)) := by
  have hb : (w.alloc (.cells cells T)).heap[w.heap.size]? = some (.cells cells T (0, 0)) := heap_alloc_new w _;refine ⟨hlo, by simp, fun j hj => ⟨?_, ?_⟩, fun i x hi => by omega⟩
  · rw [cZ hb, Nat.zero_add, Array.getElem?_eq_getElem (by omega)]; rfl
  · exact Lib.frozen_of_heap hb _
theorem Fill.keep {α : Type} {R : Reads α} {lo g j : Nat} {xs : List α} {w w' : World} (h : Fill R lo g xs j w) (hz : w.heap.size <= w'.heap.size) (hb : ∀ b, lo <= b -> b < w.heap.size -> w'.heap[b]? = w.heap[b]?) : Fill R lo g xs j w' := by
  have eg := hb g h.hlo h.hg;refine ⟨h.hlo, Nat.lt_of_lt_of_le h.hg hz, fun q hq => ?_, fun i x hi hx => ?_⟩
  · have := h.there q hq
    rw [World.cell?_of_block (w := w) (w' := w') (a := ⟨g, 0 + q, none⟩) eg];refine ⟨this.1, ?_⟩;have e2 : w'.frozen? ⟨g, 0 + q, none⟩ = w.frozen? ⟨g, 0 + q, none⟩ := by simp only [World.frozen?]; rw [eg]
    rw [e2]; exact this.2
  · obtain ⟨l, hc, hE⟩ := h.rows i x hi hx
    exact ⟨l, fun q v hv => (World.cell?_of_block (w := w) (w' := w') (a := ⟨g, _, none⟩) eg).trans (hc q v hv), R.move _ _ _ _ _ _ hE hz fun b hlt hS => ⟨hS, hb b (by
      rcases Nat.lt_or_ge b lo with c | c
      · exact absurd (.inl c) hS
      · exact c) hlt⟩⟩
theorem Fill.at {α : Type} {R : Reads α} {lo g j m : Nat} {xs : List α} {w : World} (h : Fill R lo g xs j w) (hj : j < xs.length) (hm : m = R.k) : w.there g (j * R.k) m := fun q hq => by
  have h1 : (j + 1) * R.k <= xs.length * R.k := Nat.mul_le_mul_right _ hj;rw [Nat.succ_mul] at h1;have := h.there (j * R.k + q) (by omega)
  rw [Nat.zero_add] at this;exact this
theorem Fill.put {α : Type} {R : Reads α} {lo g j B : Nat} {xs : List α} {w : World} {l : List Value} {x : α} (h : Fill R lo g xs j w) (hx : xs[j]? = some x) (hE : R.E (strike (· < B) w) l x) (hB : g < B) : Fill R lo g xs (j + 1) (w.setCells g (j * R.k) l) := by
  have hlen := R.len _ _ _ hE;have hj := (List.getElem?_eq_some_iff.1 hx).1;have hat := h.at hj hlen;have ot : ∀ b, b < w.heap.size -> b ≠ g -> (w.setCells g (j * R.k) l).heap[b]? = w.heap[b]? := fun b hb hne => World.heap_setCells_other w g (j * R.k) l hb hne
  have hsz : (w.setCells g (j * R.k) l).heap.size = w.heap.size := size_setCells g l _ w;refine ⟨h.hlo, by rw [hsz]; exact h.hg, World.there_setCells h.there _ _ _, fun i y hi hy => ?_⟩;rcases Nat.lt_or_ge i j with c | c
  · obtain ⟨l', hc, hE'⟩ := h.rows i y c hy
    have hl' := R.len _ _ _ hE'
    refine ⟨l', fun q v hv => ?_, R.move _ _ _ _ _ _ hE' (by rw [hsz]; exact Nat.le_refl _) fun b hb hS => ⟨hS, ot b hb fun e => hS (.inr e)⟩⟩;have hq := (List.getElem?_eq_some_iff.1 hv).1;rw [World.cell?_setCells_out]
    · exact hc q v hv
    · intro _ _
      have h1 : (i + 1) * R.k <= j * R.k := Nat.mul_le_mul_right _ c;rw [Nat.succ_mul] at h1;exact .inl (by show i * R.k + q < j * R.k; omega)
  · obtain rfl : i = j := by omega
    rw [hx] at hy;cases hy
    refine ⟨l, fun q v hv => ?_, R.move _ _ _ _ _ _ hE (by rw [hsz]; exact Nat.le_refl _) fun b hb hS => ⟨?_, ot b hb (by omega)⟩⟩
    · have hq := (List.getElem?_eq_some_iff.1 hv).1
      rw [World.cell?_setCells_in g l (i * R.k) w (fun q hq => (hat q hq).1) q hq];rw [<- hv, List.getElem?_eq_getElem hq]
    · have := h.hlo
      omega
theorem Fill.done {α : Type} {R : Reads α} {lo g j m : Nat} {xs : List α} {w : World} (h : Fill R lo g xs j w) (hj : xs.length <= j) (hm : m <= lo) : RowIn R (strike (· < m) w) (some ⟨g, 0, none⟩) xs := fun i x hx => by
  have hi := (List.getElem?_eq_some_iff.1 hx).1;obtain ⟨l, hc, hE⟩ := h.rows i x (by omega) hx;have := h.hlo
  refine ⟨g, 0, l, rfl, by rw [strike_size]; exact h.hg, fun q v hv => strike_cell.2 ⟨by omega, ?_⟩, R.move _ _ _ _ _ _ hE (Nat.le_refl _) fun b _ hS => ⟨fun e => hS (.inl (by omega)), rfl⟩⟩;rw [Nat.zero_add]; exact hc q v hv
theorem setCells_below {n : Nat} {w w' : World} (h : Below n w w') {g : Nat} (hg : n <= g) (o : Nat) (l : List Value) : Below n w (w'.setCells g o l) :=
  h.trans ⟨World.os_setCells _ _ _ _, by
    induction l generalizing o w' with
    | nil => rfl
    | cons v r ih => exact (ih (h.setCell hg v) (o + 1)).trans rfl, World.output_setCells _ _ _ _, by rw [size_setCells]; exact Nat.le_refl _, fun b hb => by
    rcases Nat.lt_or_ge b w'.heap.size with c | c
    · exact World.heap_setCells_other w' g o l c (by omega)
    · rw [Array.getElem?_eq_none c, Array.getElem?_eq_none (by rw [size_setCells]; exact c)]⟩
theorem cln_any (s : ByteArray) (w : World) (hs : s.size <= 281474976710656) : Calls Tryz.prog 69 #[.string s] w fun e w' => e = .returned (.string s) /\ Below w.heap.size w w' := by
  go_enter Tryz.func69, Tryz.ntmps69
  go_wp2_with fail
  refine (Tryz.stringslite_Clone _ _ hs).mono ?_; rintro e w1 ⟨rfl, hb1⟩
  go_wp2_with fail
  go_ret;exact ⟨rfl, hb1⟩
theorem listS_any (w0 w : World) (A : Option Addr) (n c : Nat) (xs : List ByteArray) (hn : xs.length = n) (hz : n <= 1000000) (hS : NamesAt w0 A xs) (hw : Below w0.heap.size w0 w) (hsz : ∀ s ∈ xs, s.size <= 281474976710656) :
    Calls Tryz.prog 220 #[.slice A n c, .func (.func 69) #[] #[]] w fun e w' => ∃ (A' : Option Addr) (c' : Nat), e = .returned (.slice A' n c') /\ NamesAt (strike (· < w.heap.size) w') A' xs /\ Below w.heap.size w w' := by
  have HN := zH hn;have HS := zH hS;have HW := zH hw;have HSZ := zH hsz;have EQ : ∀ wz : World, (binOp .eql 45 (.slice A n c) (.slice none 0 0)).run Tryz.prog wz = .ok (.bool A.isNone) wz := fun wz => Lib.run_eql_slice_nil wz _ _ _ _ _ _ _ Tryz.underlying45
  cases A with
  | none =>
    have h0 : xs = [] := hS.row.none_nil;have hn0 : n = 0 := by rw [<- hn, h0]; rfl
    have HX := zH h0;subst hn0;clear hS hn h0 hw hsz;go_enter Tryz.func220, Tryz.ntmps220
    go_wp2_with fail
    go_ret;exact ⟨_, _, rfl, fun i s h => by rw [HX.out] at h; simp at h, Below.refl _ _⟩
  | some ad =>
    obtain ⟨i0, hi, hz0, hz1, hz2⟩ := info_parts str_info;obtain ⟨W1, hW1⟩ : ∃ W1, W1 = w.alloc (.cells (madeCells (Value.string ⟨#[]⟩).cells (n * 1)) 9) := ⟨_, rfl⟩;have MS := run_make (P := Tryz.prog) w 45 9 i0 (.string ⟨#[]⟩) Tryz.underlying45 hi hz0 .i64 .i64 (n : Int) (n : Int) (by omega) (by omega) (by rw [hz2]; omega) (by omega);rw [hz1] at MS;simp only [Int.toNat_natCast] at MS;rw [<- hW1] at MS;have START : Hid (Fill stR w.heap.size w.heap.size xs 0 W1) := zH (by rw [hW1]; exact Fill.start stR (Nat.le_refl _) _ _ xs (by rw [size_madeCells, hn]; rfl));have HB1 : Hid (Below w.heap.size w W1) := zH (by rw [hW1]; exact below_new (Below.refl _ _) _);have EQ' : ∀ wz : World, (binOp .eql 45 (.slice (some ad) n c) (.slice none 0 0)).run Tryz.prog wz = .ok (.bool false) wz := EQ
    clear EQ hW1 hS hn hw hsz;go_enter Tryz.func220, Tryz.ntmps220
    go_wp2_with fail
    go_loopw [15] (fun s15 wr => ∃ k : Nat, k <= n /\ s15 = .int .i64 k /\ Hid (Fill stR w.heap.size w.heap.size xs k wr) /\ Hid (Below w.heap.size w wr)) (fun s15 _ => n - (intOf s15).toNat)
    case atStart => exact ⟨0, by omega, rfl, START, HB1⟩
    case round =>
      obtain ⟨k, hk, rfl, HF, HB⟩ := hrel;obtain ⟨wo, rfl⟩ : ∃ wo : World, wo = wr := ⟨_, rfl⟩;clear MS EQ' START HB1;by_cases hlt : k < n
      · obtain ⟨s, hs⟩ : ∃ s, xs[k]? = some s := ⟨_, List.getElem?_eq_getElem (by rw [HN.out]; exact hlt)⟩
        obtain ⟨g, o, e1, hg, hc, -⟩ := HS.out k s hs;obtain rfl := Option.some.inj e1;have hc' := ((below_over HW.out HB.out).cell (p := ⟨g, _, none⟩) hg).trans hc
        have CL := zH (cln_any s wo (HSZ.out s (List.mem_of_getElem? hs)));have HSS := zH hs;clear hs hc hg e1;go_upto_region 7 with fail
        clear hc';go_wp2_with fail
        refine CL.out.mono ?_; rintro e w2 ⟨rfl, hb2⟩
        have hlw : w.heap.size < wo.heap.size := HF.out.hg;have F2 := HF.out.keep hb2.size (fun b _ hb => hb2.block b hb);have HT := F2.at (m := 1) (by rw [HN.out]; exact hlt) rfl;have t0 := (HT 0 (by omega)).1;have f0 := (HT 0 (by omega)).2;rw [show k * stR.k + 0 = k by show k * 1 + 0 = k; omega] at t0 f0;obtain ⟨u0, t0⟩ := Option.isSome_iff_exists.1 t0
        have F3 : Hid (Fill stR w.heap.size w.heap.size xs (k + 1) (w2.setCell ⟨w.heap.size, k, none⟩ (.string s))) := zH (by
          have := F2.put HSS.out (l := [.string s]) (B := wo.heap.size) ⟨rfl, by have := HSZ.out s (List.mem_of_getElem? HSS.out); omega⟩ hlw
          rw [show k * stR.k = k by show k * 1 = k; omega] at this;exact this)
        have B3 : Hid (Below w.heap.size w (w2.setCell ⟨w.heap.size, k, none⟩ (.string s))) := zH (below_put (below_over HB.out hb2) (Nat.le_refl _) _);clear F2 HT hb2 CL;go_wp2_with fail
        go_roundw
        case rel => exact ⟨k + 1, by omega, by go_num, F3, B3⟩
        case measure => simp [intOf]; omega
      · have hkn : k = n := by omega
        have DONE := zH (HF.out.done (m := w.heap.size) (by rw [HN.out]; omega) (Nat.le_refl _));clear hkn;go_wp2_with fail
        go_ret;exact ⟨_, _, rfl, DONE.out.names, HB.out⟩
end Go.Proofs.YtddlmigofilejaaGreatDoor
namespace Go.Proofs.YtddlmigofilejaaGreatDoor
open Go.RowKit Go.Shelf
open Go.Sort Go.Maps
open M
attribute [local go_sem] Oper.semAt_some
theorem MapS.made (w : World) (f : ByteArray -> Int -> Prop) : MapS (w.alloc (.map #[] 0)) w.heap.size 0 (fun _ => false) f :=
  ⟨.map [], World.ownsMap_made w Tryz.prog 9 _, isMap_empty, fun s hs => ⟨rfl, fun h => by cases h⟩⟩
theorem MapS.put {w1 : World} {b n : Nat} {p : ByteArray -> Bool} {f : ByteArray -> Int -> Prop} {D : DataW Unit} {key : ByteArray} {v : Int} (hm : IsMap D)
    (hk : ∀ s : ByteArray, s.size <= maxLen -> has D (.string s.data.toList) = p s /\ (p s = true -> ∀ c, D.atKey (.string s.data.toList) (.lit (.int .i64 0)) = .lit (.int .i64 c) -> f s c))
    (hown : w1.ownsMap Tryz.prog 9 (plainElem Tryz.prog 3) b n (D.put (.string key.data.toList) (.lit (.int .i64 v)))) : MapS w1 b n (fun s => decide (key = s) || p s) (fun s c => if key = s then c = v else f s c) := by
  refine ⟨_, hown, hm.put _ _, fun s hs => ?_⟩;obtain ⟨h1, h2⟩ := hk s hs;by_cases e : key = s
  · subst e
    refine ⟨by rw [has_put_same hm (by trivial)]; simp, fun _ c hc => ?_⟩;show (if key = key then c = v else f key c)
    rw [if_pos rfl];rw [atKey_put_same hm (by trivial)] at hc;cases hc; rfl
  · have hne : (Lit.string s.data.toList) ≠ .string key.data.toList := fun h => e (bytes_list.1 (Lit.string.inj h).symm)
    refine ⟨by rw [has_put_other hne, h1]; simp [e], fun hp c hc => ?_⟩;show (if key = s then c = v else f s c)
    rw [if_neg e];rw [atKey_put_other hne] at hc;exact h2 (by simpa [e] using hp) c hc
theorem MapS.of {w : World} {b n : Nat} {p p' : ByteArray -> Bool} {f f' : ByteArray -> Int -> Prop} (h : MapS w b n p f) (hp : ∀ s, p s = p' s) (hf : ∀ s c, p s = true -> f s c -> f' s c) : MapS w b n p' f' := by
  obtain ⟨D, h1, h2, h3⟩ := h;exact ⟨D, h1, h2, fun s hs => ⟨(h3 s hs).1.trans (hp s), fun q c hc => hf s c (by rw [hp]; exact q) ((h3 s hs).2 (by rw [hp]; exact q) c hc)⟩⟩
theorem MapS.kept {w w' : World} {b n : Nat} {p : ByteArray -> Bool} {f : ByteArray -> Int -> Prop} (h : MapS w b n p f) (hb : w'.heap[b]? = w.heap[b]?) : MapS w' b n p f := by
  obtain ⟨D, ⟨es, clock, h1, h2, h3, h4⟩, hm, h5⟩ := h;exact ⟨D, ⟨es, clock, hb.trans h1, h2, h3, h4⟩, hm, h5⟩
def KpB (n₀ Bs : Nat) (A B : World) : Prop := A.heap.size <= B.heap.size /\ ∀ b, b < n₀ \/ b = Bs -> B.heap[b]? = A.heap[b]?
theorem KpB.refl (n₀ Bs : Nat) (A : World) : KpB n₀ Bs A A := ⟨Nat.le_refl _, fun _ _ => rfl⟩
theorem KpB.trans {n₀ Bs : Nat} {A B C : World} (h : KpB n₀ Bs A B) (h' : KpB n₀ Bs B C) : KpB n₀ Bs A C := ⟨Nat.le_trans h.1 h'.1, fun b hb => (h'.2 b hb).trans (h.2 b hb)⟩
def downTo (n k : Nat) : List Nat := (List.range k).map fun j => n - 1 - j
theorem downTo_succ (n k : Nat) : downTo n (k + 1) = downTo n k ++ [n - 1 - k] := by simp [downTo, List.range_succ]
theorem downTo_len (n k : Nat) : (downTo n k).length = k := by simp [downTo]
theorem back_in (F : Fence) (q : Nat) (hF : F.fn 262) (hro : F.round = none) (hq : 1 <= q) (l Bs n₀ g o n c : Nat) (A : Option Addr) (hA : 0 < n -> A = some ⟨g, o, none⟩) (V : Nat -> Array Value) (hz : n <= 1000000) (hg : 0 < n -> g < n₀) (J Jx : List (Fin n) -> World -> Prop)
    (hV : ∀ i, i < n -> ∃ v0 v1 v2 v3 v4 v5 v6 v7 v8, V i = #[v0, v1, v2, v3, v4, v5, v6, v7, v8] /\ (v0.oneCell' = true /\ v1.oneCell' = true))
    (hY : ∀ (pre : List (Fin n)) (x : Fin n) W, J pre W -> pre.length < n -> YieldAt F (q - 1) Tryz.prog l #[.int .i64 (x.1 : Int), .agg (V x.1)] W fun e W' =>
      (e = .returned (.bool true) /\ J (pre ++ [x]) W' /\ KpB n₀ Bs W W') \/ (e = .returned (.bool false) /\ Jx (pre ++ [x]) W'))
    (W : World) (hBs : W.cell? ⟨Bs, 0, none⟩ = some (.slice A n c)) (hc : ∀ i, i < n -> ∀ j v, (V i)[j]? = some v -> W.cell? ⟨g, o + i * 9 + j, none⟩ = some v) (h0 : J [] W) :
    CallsIn F q Tryz.prog 262 #[.func (.yield l) #[] #[], .pointer (some ⟨Bs, 0, none⟩)] W fun e W' => (∃ v, e = .returned v) /\
      ((∃ ys : List (Fin n), ys.map (·.1) = downTo n n /\ J ys W') \/ (∃ pre : List (Fin n), True /\ Jx pre W')) := by
  refine callsIn_of_wp Tryz.func262 rfl hF ?_ hro;simp only [Tryz.ntmps262, List.size_toArray, List.length_cons, List.length_nil, Nat.reduceAdd, Nat.reduceSub, Array.replicate_succ, Array.replicate_zero, List.push_toArray, List.append_toArray, List.nil_append, List.cons_append];gi_wp2
  gi_loopw [3] (fun i wr => ∃ (k : Nat) (pre : List (Fin n)), k <= n /\ i = .int .i64 ((n : Int) - 1 - (k : Int)) /\ pre.map (·.1) = downTo n k /\ J pre wr /\ KpB n₀ Bs W wr)
    (fun i _ => (intOf i + 1).toNat)
  case atStart => exact ⟨0, [], by omega, by simp, rfl, h0, KpB.refl _ _ _⟩
  case round =>
    obtain ⟨k, pre, hk, rfl, hpre, hJs, hkp⟩ := hrel
    have hbx : wr.cell? ⟨Bs, 0, none⟩ = some (.slice A n c) := by
      rw [World.cell?_of_block (w := W) (a := ⟨Bs, 0, none⟩) (hkp.2 Bs (.inr rfl))]; exact hBs
    by_cases hlt : k < n
    · obtain rfl := hA (by omega)
      obtain ⟨x0, hx0⟩ : ∃ x0 : Fin n, x0.1 = n - 1 - k := ⟨⟨n - 1 - k, by omega⟩, rfl⟩;have e1 : ((n : Int) - 1 - (k : Int)) = ((x0.1 : Nat) : Int) := by rw [hx0]; omega
      have hpl : pre.length < n := by
        have := congrArg List.length hpre
        rw [List.length_map, downTo_len] at this;omega
      obtain ⟨fn, tmps, assign, body, hy, hR⟩ := hY pre x0 wr hJs hpl;have hp2 : (pre ++ [x0]).map (·.1) = downTo n (k + 1) := by rw [List.map_append, hpre, downTo_succ, <- hx0]; rfl
      have hi := x0.2;obtain ⟨i, hii⟩ : ∃ i, i = x0.1 := ⟨_, rfl⟩;rw [<- hii] at hy e1 hi hx0;obtain ⟨v0, v1, v2, v3, v4, v5, v6, v7, v8, hv, -⟩ := hV i hi
      have hcell : ∀ j v, (V i)[j]? = some v -> wr.cell? ⟨g, o + i * 9 + j, none⟩ = some v := fun j v hj => by
        rw [World.cell?_of_block (w := W) (a := ⟨g, _, none⟩) (hkp.2 g (.inl (hg (by omega))))]; exact hc _ hi j v hj
      rw [hv] at hcell hy;rw [e1];have c0 := hcell 0 _ rfl;have c1 := hcell 1 _ rfl;have c2 := hcell 2 _ rfl;have c3 := hcell 3 _ rfl;have c4 := hcell 4 _ rfl;have c5 := hcell 5 _ rfl;have c6 := hcell 6 _ rfl;have c7 := hcell 7 _ rfl;have c8 := hcell 8 _ rfl;simp only [Nat.add_zero] at c0;have hni : (i : Int) < n := by omega
      have HR := zH hR;have HX0 := zH hx0;have hxk : k < n := hlt;clear hcell e1 hv hR hx0 hii;gi_wp2
      refine HR.out.mono ?_;rintro e W3 (⟨rfl, hJ3, hk3⟩ | ⟨rfl, hJx3⟩)
      · gi_wp2
        go_roundw
        case rel => exact ⟨k + 1, pre ++ [x0], by omega, by have := HX0.out; go_num, hp2, hJ3, hkp.trans hk3⟩
        case measure => have := HX0.out; simp [intOf] <;> omega
      · gi_wp2
        refine bodyPost_ret (results_none rfl _ _ _) rfl ?_;exact ⟨⟨_, rfl⟩, .inr ⟨_, trivial, hJx3⟩⟩
    · obtain rfl : k = n := by omega
      have e1 : ((k : Int) - 1 - (k : Int)) = -1 := by omega
      rw [e1];gi_wp2
      go_end0
      exact ⟨⟨_, rfl⟩, .inl ⟨pre, hpre, hJs⟩⟩
theorem backward_any (A : Option Addr) (n c : Nat) (w : World) :
    Calls Tryz.prog 240 #[.slice A n c] w fun e w' => e = .returned (.func (.func 262) #[] #[.pointer (some ⟨w.heap.size, 0, none⟩)]) /\ w' = w.alloc (.cells #[.slice A n c] 111) := by
  go_enter Tryz.func240, Tryz.ntmps240
  go_wp2_with fail
  go_ret;exact ⟨rfl, rfl⟩
theorem back_stops (q Bs n₀ g o n c : Nat) (A : Option Addr) (hA : 0 < n -> A = some ⟨g, o, none⟩) (V : Nat -> Array Value) (hz : n <= 1000000) (hg : 0 < n -> g < n₀) (hq : 1 <= q)
    (hV : ∀ i, i < n -> ∃ v0 v1 v2 v3 v4 v5 v6 v7 v8, V i = #[v0, v1, v2, v3, v4, v5, v6, v7, v8] /\ (v0.oneCell' = true /\ v1.oneCell' = true)) (w : World) (hn₀ : n₀ <= w.heap.size) (hBs : w.cell? ⟨Bs, 0, none⟩ = some (.slice A n c))
    (hc : ∀ i, i < n -> ∀ j v, (V i)[j]? = some v -> w.cell? ⟨g, o + i * 9 + j, none⟩ = some v) :
    SeqStopsK Fence.wide q Tryz.prog 262 #[.pointer (some ⟨Bs, 0, none⟩)] (fun x : Fin n => #[Value.int .i64 (x.1 : Int), .agg (V x.1)]) (KpB n₀ Bs) (fun ys => ys.map (·.1) = downTo n n) (fun _ => True) n w := fun l J Jx W hW _ _ hY h0 => by
  have hb : Bs < w.heap.size := World.block_lt_of_cell? _ _ hBs;exact back_in Fence.wide q trivial rfl hq l Bs n₀ g o n c A hA V hz hg J Jx hV hY W ((hW.cell (p := ⟨Bs, 0, none⟩) hb).trans hBs) (fun i hi j v hj => (hW.cell (p := ⟨g, _, none⟩) (World.block_lt_of_cell? _ _ (hc i hi j v hj))).trans (hc i hi j v hj)) h0
end Go.Proofs.YtddlmigofilejaaGreatDoor
