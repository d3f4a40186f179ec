/-
  Several texts in one.
-/
import Derived.Test.YtddlmigofilejaaGreatDoorK24
set_option maxRecDepth 100000
set_option maxHeartbeats 8000000
namespace Go.Proofs.YtddlmigofilejaaGreatDoor
open Go Go.RowKit Go.Shelf
open Go.Sort Go.Maps
open M
theorem mopO (w : World) : Calls Tryz.prog 237 #[.agg #[.int .i64 9, .string ⟨#[112]⟩, .int .i64 1, .string ⟨#[109]⟩, .string ⟨#[84]⟩, .slice none 0 0, .slice none 0 0]] w fun e w' => e = .returned (.bool true) /\ Below w.heap.size w w' := by
  obtain ⟨wb, hwb⟩ : ∃ wb, wb = w.alloc (.cells #[.int .i64 9, .string ⟨#[112]⟩, .int .i64 1, .string ⟨#[109]⟩, .string ⟨#[84]⟩, .slice none 0 0, .slice none 0 0] 48) := ⟨_, rfl⟩;have B0 : Below w.heap.size w wb := by rw [hwb]; exact below_new (Below.refl _ _) _
  have X0 : wb.heap[w.heap.size]? = some (.cells #[.int .i64 9, .string ⟨#[112]⟩, .int .i64 1, .string ⟨#[109]⟩, .string ⟨#[84]⟩, .slice none 0 0, .slice none 0 0] 48 (0, 0)) := by rw [hwb]; exact heap_alloc_new w _
  obtain ⟨x0, x1, x2, x3, x4, x5, x6⟩ := cq7 X0;simp at x0 x1 x2 x3 x4 x5 x6;have HB0 := zH B0;have HX0 := zH X0;have HWB := zH hwb;clear B0 X0 hwb;go_enter Tryz.func237, Tryz.ntmps237
  go_upto_region 1 with fail
  rw [<- HWB.out];go_wp2_with fail
  refine (csmall_b _ wb (by decide)).mono ?_; rintro e w2 ⟨rfl, hb2⟩; rw [p_small]
  have HB2 := zH (below_over HB0.out hb2);have X2 := zH ((hb2.block w.heap.size (Array.getElem?_eq_some_iff.1 HX0.out).1).trans HX0.out);replace x0 := cZ X2.out 0
  replace x1 := cZ X2.out 1
  replace x2 := cZ X2.out 2
  replace x3 := cZ X2.out 3
  replace x4 := cZ X2.out 4
  replace x5 := cZ X2.out 5
  replace x6 := cZ X2.out 6
  simp at x0 x1 x2 x3 x4 x5 x6;clear hb2;go_wp2_with fail
  refine (csmall_b _ w2 (by decide)).mono ?_; rintro e w3 ⟨rfl, hb3⟩; rw [m_small]
  have HB3 := zH (below_over HB2.out hb3);have X3 := (hb3.block w.heap.size (Array.getElem?_eq_some_iff.1 X2.out).1).trans X2.out;replace x0 := cZ X3 0
  replace x1 := cZ X3 1
  replace x2 := cZ X3 2
  replace x3 := cZ X3 3
  replace x4 := cZ X3 4
  replace x5 := cZ X3 5
  replace x6 := cZ X3 6
  simp at x0 x1 x2 x3 x4 x5 x6;clear hb3 X3;go_wp2_with fail
  refine (cgreat_b _ w3 (by decide)).mono ?_; rintro e w4 ⟨rfl, hb4⟩; rw [T_great]
  have HB4 := zH (below_over HB3.out hb4);clear hb4;go_wp2_with fail
  go_ret;exact ⟨rfl, HB4.out⟩
theorem formO (w : World) : Calls Tryz.prog 205 #[.agg #[.int .i64 9, .string ⟨#[112]⟩, .int .i64 1, .string ⟨#[109]⟩, .string ⟨#[84]⟩, .slice none 0 0, .slice none 0 0]] w fun e w' => e = .returned (.bool true) /\ Below w.heap.size w w' := by
  obtain ⟨wb, hwb⟩ : ∃ wb, wb = w.alloc (.cells #[.int .i64 9, .string ⟨#[112]⟩, .int .i64 1, .string ⟨#[109]⟩, .string ⟨#[84]⟩, .slice none 0 0, .slice none 0 0] 48) := ⟨_, rfl⟩;have B0 : Below w.heap.size w wb := by rw [hwb]; exact below_new (Below.refl _ _) _
  have X0 : wb.heap[w.heap.size]? = some (.cells #[.int .i64 9, .string ⟨#[112]⟩, .int .i64 1, .string ⟨#[109]⟩, .string ⟨#[84]⟩, .slice none 0 0, .slice none 0 0] 48 (0, 0)) := by rw [hwb]; exact heap_alloc_new w _
  obtain ⟨x0, x1, x2, x3, x4, x5, x6⟩ := cq7 X0;simp at x0 x1 x2 x3 x4 x5 x6;have HB0 := zH B0;have HX0 := zH X0;have HWB := zH hwb;clear B0 X0 hwb;go_enter Tryz.func205, Tryz.ntmps205
  go_upto_region 1 with fail
  rw [<- HWB.out];go_quiet (fail)
  generalize hwq : World.drewN wb _ = wq
  have HBq : Hid (Below w.heap.size w wq) := zH (by rw [<- hwq]; exact below_drewN HB0.out _);have X1 : wq.heap[w.heap.size]? = some (.cells #[.int .i64 9, .string ⟨#[112]⟩, .int .i64 1, .string ⟨#[109]⟩, .string ⟨#[84]⟩, .slice none 0 0, .slice none 0 0] 48 (0, 0)) := by rw [<- hwq]; exact HX0.out
  replace x0 := cZ X1 0
  replace x1 := cZ X1 1
  replace x2 := cZ X1 2
  replace x3 := cZ X1 3
  replace x4 := cZ X1 4
  replace x5 := cZ X1 5
  replace x6 := cZ X1 6
  simp at x0 x1 x2 x3 x4 x5 x6;clear X1 hwq;go_wp2_with fail
  refine (mopO wq).mono ?_; rintro e w2 ⟨rfl, hb2⟩
  have HB2 := zH (below_over HBq.out hb2);clear hb2;go_wp2_with fail
  go_ret;exact ⟨rfl, HB2.out⟩
theorem countO (B : Nat) (w : World) (hC : Cnt B 0 w) : Calls Tryz.prog 178 #[.agg #[.int .i64 9, .string ⟨#[112]⟩, .int .i64 1, .string ⟨#[109]⟩, .string ⟨#[84]⟩, .slice none 0 0, .slice none 0 0], .int .i64 1, .pointer (some ⟨B, 0, none⟩)] w fun e w' => e = .returned (.bool true) /\ Cnt B 1 w' /\ Below B w w' := by
  have hBl := hC.lt;obtain ⟨w2, hw2⟩ : ∃ w2, w2 = (w.setCell ⟨B, 0, none⟩ (.int .i64 1)).alloc (.cells #[.int .i64 9, .string ⟨#[112]⟩, .int .i64 1, .string ⟨#[109]⟩, .string ⟨#[84]⟩, .slice none 0 0, .slice none 0 0] 48) := ⟨_, rfl⟩;have hss : (w.setCell ⟨B, 0, none⟩ (.int .i64 1)).heap.size = w.heap.size := by simp
  have HC2 : Hid (Cnt B 1 w2) := zH (by rw [hw2]; exact (hC.put 1).alloc _);have HBW : Hid (Below B w w2) := zH (by rw [hw2]; exact ((Below.refl B w).setCell (p := ⟨B, 0, none⟩) (Nat.le_refl _) _).alloc (by omega) _);have hsz : w.heap.size < w2.heap.size := by rw [hw2]; simp
  have X0 : w2.heap[w.heap.size]? = some (.cells #[.int .i64 9, .string ⟨#[112]⟩, .int .i64 1, .string ⟨#[109]⟩, .string ⟨#[84]⟩, .slice none 0 0, .slice none 0 0] 48 (0, 0)) := by rw [hw2, <- hss]; exact heap_alloc_new _ _
  have HX0 := zH X0;have c0 := hC.cell;have f0 := hC.frozen;have HW2 := zH hw2;clear hC hw2 hss X0;go_enter Tryz.func178, Tryz.ntmps178
  go_upto_region 2 with fail
  rw [<- HW2.out];clear c0 f0 HW2;have c2 := HC2.out.cell;obtain ⟨x0, x1, x2, x3, x4, x5, x6⟩ := cq7 HX0.out;simp at x0 x1 x2 x3 x4 x5 x6;go_wp2_with fail
  refine (formO w2).mono ?_; rintro e w3 ⟨rfl, hb3⟩
  have y6 := cZ ((hb3.block _ hsz).trans HX0.out) 6;simp at y6;have HC3 := zH (HC2.out.below hb3);have HB3 := zH (HBW.out.trans (hb3.mono (by omega)));clear x0 x1 x2 x3 x4 x5 x6 c2 hb3 hsz;go_wp2_with fail
  go_loopw [30] (fun s30 wr => s30 = .int .i64 0 /\ w3 = wr) (fun _ _ => 0)
  case atStart => exact ⟨rfl, rfl⟩
  case round =>
    obtain ⟨rfl, rfl⟩ := hrel;go_wp2_with fail
    go_ret;exact ⟨rfl, HC3.out, HB3.out⟩
theorem sizeO (w : World) : Calls Tryz.prog 145 #[.agg #[.int .i64 9, .string ⟨#[112]⟩, .int .i64 1, .string ⟨#[109]⟩, .string ⟨#[84]⟩, .slice none 0 0, .slice none 0 0]] w fun e w' => e = .returned (.int .i64 1) /\ Below w.heap.size w w' := by
  obtain ⟨w2, hw2, B2, O0, O1, hl2⟩ := two_boxes w #[.int .i64 9, .string ⟨#[112]⟩, .int .i64 1, .string ⟨#[109]⟩, .string ⟨#[84]⟩, .slice none 0 0, .slice none 0 0] #[.int .i64 0] 48 3;have CZ := zH (countO (w.heap.size + 1) w2 O1);obtain ⟨x0, x1, x2, x3, x4, x5, x6⟩ := cq7 O0;simp at x0 x1 x2 x3 x4 x5 x6;have HB2 := zH B2;have HW2 := zH hw2;clear B2 O0 O1 hw2;go_enter Tryz.func145, Tryz.ntmps145
  go_upto_region 2 with fail
  rw [<- HW2.out];go_wp2_with fail
  refine CZ.out.mono ?_; rintro e w3 ⟨rfl, hC3, hb3⟩
  have c3 := hC3.cell;have HB3 := zH (HB2.out.trans (hb3.mono (by omega)));clear hb3 x0 x1 x2 x3 x4 x5 x6 CZ;go_wp2_with fail
  go_ret;exact ⟨rfl, HB3.out⟩
theorem mayO (w : World) : Calls Tryz.prog 99 #[.agg #[.int .i64 9, .string ⟨#[112]⟩, .int .i64 1, .string ⟨#[109]⟩, .string ⟨#[84]⟩, .slice none 0 0, .slice none 0 0]] w fun e w' => e = .returned (.bool true) /\ Below w.heap.size w w' := by
  obtain ⟨wb, hwb⟩ : ∃ wb, wb = w.alloc (.cells #[.int .i64 9, .string ⟨#[112]⟩, .int .i64 1, .string ⟨#[109]⟩, .string ⟨#[84]⟩, .slice none 0 0, .slice none 0 0] 48) := ⟨_, rfl⟩;have B0 : Below w.heap.size w wb := by rw [hwb]; exact below_new (Below.refl _ _) _
  have X0 : wb.heap[w.heap.size]? = some (.cells #[.int .i64 9, .string ⟨#[112]⟩, .int .i64 1, .string ⟨#[109]⟩, .string ⟨#[84]⟩, .slice none 0 0, .slice none 0 0] 48 (0, 0)) := by rw [hwb]; exact heap_alloc_new w _
  obtain ⟨x0, x1, x2, x3, x4, x5, x6⟩ := cq7 X0;simp at x0 x1 x2 x3 x4 x5 x6;have HB0 := zH B0;have HX0 := zH X0;have HWB := zH hwb;clear B0 X0 hwb;go_enter Tryz.func99, Tryz.ntmps99
  go_upto_region 1 with fail
  rw [<- HWB.out];go_wp2_with fail
  refine (sizeO wb).mono ?_; rintro e w2 ⟨rfl, hb2⟩
  have HB2 := zH (below_over HB0.out hb2);clear hb2;go_wp2_with fail
  go_ret;exact ⟨rfl, HB2.out⟩
theorem saidZ (b0 b1 : Nat) (Ae : Option Addr) (ce : Nat) (An : Option Addr) (cn : Nat) (As : Option Addr) (cs : Nat) (w : World) : Calls Tryz.prog 215 #[.agg #[.map (some b0), .map (some b1), .slice Ae 0 ce], .agg #[.int .i64 1, .string ⟨#[]⟩, .int .i64 0, .string ⟨#[]⟩, .string ⟨#[]⟩, .slice An 0 cn, .slice As 0 cs]] w fun e w' => e = .returned (.tuple #[.slice none 0 0, .bool true]) /\ Below w.heap.size w w' := by
  obtain ⟨wb, hwb, B0, X0, Y0, hl⟩ := two_boxes w #[.map (some b0), .map (some b1), .slice Ae 0 ce] #[.int .i64 1, .string ⟨#[]⟩, .int .i64 0, .string ⟨#[]⟩, .string ⟨#[]⟩, .slice An 0 cn, .slice As 0 cs] 247 48;obtain ⟨x0, x1, x2⟩ := cq3 X0;simp at x0 x1 x2;obtain ⟨y0, y1, y2, y3, y4, y5, y6⟩ := cq7 Y0;simp at y0 y1 y2 y3 y4 y5 y6;have HB0 := zH B0;have HWB := zH hwb;clear B0 X0 Y0 hwb hl;go_enter Tryz.func215, Tryz.ntmps215
  go_upto_region 1 with fail
  rw [<- HWB.out];clear HWB;go_wp2_with fail
  go_loopw [6, 7, 23] (fun s6 s7 s wr => s6 = .slice none 0 0 /\ s7 = .bool true /\ s = .int .i64 0 /\ wb = wr) (fun _ _ _ _ => 0)
  case atStart => exact ⟨rfl, rfl, rfl, rfl⟩
  case round =>
    obtain ⟨rfl, rfl, rfl, rfl⟩ := hrel;go_wp2_with fail
    go_ret2
    exact ⟨rfl, HB0.out⟩
theorem markZ (b0 b1 : Nat) (Ae : Option Addr) (ce : Nat) (v : Value) (w : World) : Calls Tryz.prog 243 #[.agg #[.map (some b0), .map (some b1), .slice Ae 0 ce], .slice none 0 0, v] w fun e w' => e = .returned (.tuple #[]) /\ Below w.heap.size w w' := by
  obtain ⟨wb, hwb⟩ : ∃ wb, wb = w.alloc (.cells #[.map (some b0), .map (some b1), .slice Ae 0 ce] 247) := ⟨_, rfl⟩;have HB0 : Hid (Below w.heap.size w wb) := zH (by rw [hwb]; exact below_new (Below.refl _ _) _);have HWB := zH hwb;clear hwb;go_enter Tryz.func243, Tryz.ntmps243
  go_upto_region 1 with fail
  rw [<- HWB.out];clear HWB;go_wp2_with fail
  go_loopw [10] (fun s wr => s = .int .i64 0 /\ wb = wr) (fun _ _ => 0)
  case atStart => exact ⟨rfl, rfl⟩
  case round =>
    obtain ⟨rfl, rfl⟩ := hrel;go_wp2_with fail
    go_end0
    exact ⟨rfl, HB0.out⟩
theorem allZ (b0 b1 : Nat) (Ae : Option Addr) (ce : Nat) (w : World) : Calls Tryz.prog 216 #[.agg #[.map (some b0), .map (some b1), .slice Ae 0 ce], .slice none 0 0] w fun e w' => ∃ (A : Option Addr) (c : Nat), e = .returned (.slice A 0 c) /\ Below w.heap.size w w' := by
  obtain ⟨wb, hwb⟩ : ∃ wb, wb = w.alloc (.cells #[.map (some b0), .map (some b1), .slice Ae 0 ce] 247) := ⟨_, rfl⟩;have B0 : Below w.heap.size w wb := by rw [hwb]; exact below_new (Below.refl _ _) _
  have X0 : wb.heap[w.heap.size]? = some (.cells #[.map (some b0), .map (some b1), .slice Ae 0 ce] 247 (0, 0)) := by rw [hwb]; exact heap_alloc_new w _
  obtain ⟨w2, hw2⟩ : ∃ w2, w2 = wb.alloc (.cells (madeCells (Value.bool false).cells (0 * 1)) 4) := ⟨_, rfl⟩;have B2 : Below wb.heap.size wb w2 := by rw [hw2]; exact below_new (Below.refl _ _) _
  have X2 := (B2.block w.heap.size (Array.getElem?_eq_some_iff.1 X0).1).trans X0;have HX2 := zH X2;obtain ⟨x0, x1, x2⟩ := cq3 X0;simp at x0 x1 x2;have HB2 := zH (below_over B0 B2);have HWB := zH hwb;obtain ⟨i0, hi, hz0, hz1, hz2⟩ := info_parts bool_info;have MS := run_makeSlice (P := Tryz.prog) (w := wb) 167 4 i0 (.bool false) Tryz.underlying167 hi hz0 .i64 .i64 (0 : Int) (0 : Int) (by omega) (by omega) (by rw [hz1]; decide) (by rw [hz2]; decide) (by omega);rw [hz1] at MS;simp only [Int.toNat_zero] at MS;rw [<- hw2] at MS;clear B0 X0 hwb hw2 B2 X2 hi hz0 hz1 hz2;go_enter Tryz.func216, Tryz.ntmps216
  go_upto_region 1 with fail
  rw [<- HWB.out];clear HWB;go_upto_region 2 with fail
  clear MS x0 x1 x2;obtain ⟨y0, y1, y2⟩ := cq3 HX2.out;simp at y0 y1 y2;go_wp2_with fail
  refine (markZ b0 b1 Ae ce _ w2).mono ?_; rintro e w3 ⟨rfl, hb3⟩
  have HB3 := zH (below_over HB2.out hb3);clear hb3;go_wp2_with fail
  go_ret;exact ⟨_, _, rfl, HB3.out⟩
end Go.Proofs.YtddlmigofilejaaGreatDoor
namespace Go.Proofs.YtddlmigofilejaaGreatDoor.M
open Go
end Go.Proofs.YtddlmigofilejaaGreatDoor.M
namespace Go.Proofs.YtddlmigofilejaaGreatDoor
open Go
open M
structure Ln where
  kind : Int
  mod : ByteArray
  name : ByteArray
  typ : Ty
structure Us where
  imps : List Im
  lines : List Ln
def kUse : List UInt8 := [117, 115, 101]
def kIs : List UInt8 := [105, 115]
def typL (k : Int) (m s : ByteArray) : Res Ty -> Res Ln
  | .err b j => .err b j
  | .ok t j _ => .ok ⟨k, m, s, t⟩ j 0
def lineR (S : Toks) (k : Int) (i : Nat) : Res Ln :=
  if S.small i = false then .err 2 i
  else if S.sign (i + 1) [46] = false then .err 2 (i + 1)
  else if k = 1 then (if S.small (i + 2) = false then .err 2 (i + 2) else if S.sign (i + 3) [58] = false then .err 2 (i + 3) else typL 1 (S.T i) (S.T (i + 2)) (atR S (i + 4)))
  else (if S.great (i + 2) = false then .err 2 (i + 2) else if S.sign (i + 3) [61] = false then .err 2 (i + 3) else typL 2 (S.T i) (S.T (i + 2)) (atR S (i + 4)))
def lineK (S : Toks) (i : Nat) : Int := if keyS S i kUse = true then 1 else if keyS S i kIs = true then 2 else 0
def linesR (S : Toks) : Nat -> Nat -> List Ln -> Res (List Ln)
  | 0, _, _ => .err 99 0
  | f + 1, i, l =>
    if lineK S i = 0 then .ok l i 0
    else if 60 <= l.length then .err 3 i
    else match lineR S (lineK S i) (i + 1) with
      | .err b j => .err b j
      | .ok x j _ => linesR S f j (l ++ [x])
def endU (S : Toks) (l : List Im) : Res (List Ln) -> Res Us
  | .err b j => .err b j
  | .ok ls j _ => if j < S.n then .err 2 j else .ok ⟨l, ls⟩ j 0
def restU (S : Toks) : Res (List Im) -> Res Us
  | .err b j => .err b j
  | .ok l j _ => endU S l (linesR S 61 j [])
def usesR (S : Toks) : Res Us := restU S (impsR S 21 0 [])
def parU (s : ByteArray) : Res Us := if (fin s 0 []).2 < 0 then usesR (tkS (fin s 0 []).1) else .err 2 (fin s 0 []).2.toNat
theorem parU_yes {s : ByteArray} {ts : List Tok} (h : fin s 0 [] = (ts, -1)) : parU s = usesR (tkS ts) := by unfold parU; rw [h]; rfl
theorem parU_no {s : ByteArray} {k : Nat} (h : fin s 0 [] = ([], (k : Int))) : parU s = .err 2 k := by unfold parU; rw [h]; rw [if_neg (by show ¬ (k : Int) < 0; omega)]; rfl
end Go.Proofs.YtddlmigofilejaaGreatDoor
namespace Go.Proofs.YtddlmigofilejaaGreatDoor
open Go Go.RowKit Go.Shelf
open Go.Sort Go.Maps
open M
structure RxN (w4 : World) (g : Nat) (tt : Ty) (A6 : Option Addr) (n c6 : Nat) (A5 : Option Addr) (c5 : Nat) (wr : World) : Prop where
  below : ∀ b, b < g -> wr.heap[b]? = w4.heap[b]?
  stay : wr.os = w4.os /\ wr.tape = w4.tape /\ wr.output = w4.output /\ w4.heap.size <= wr.heap.size
  box : wr.heap[g]? = some (.cells #[.int .i64 tt.kind, .string tt.pkg, .int .i64 tt.major, .string tt.mod, .string tt.name, .slice A5 tt.names.length c5, .slice A6 n c6] 48 (0, 0))
  own : wr.ownsRow (g + 1) 9 1 (.slice A5 tt.names.length c5) tt.names.length (tt.names.map Value.string)
structure RxI (wb : World) (l2 : Nat) (tt : Ty) (A5 : Option Addr) (c5 : Nat) (xs : List Ty) (A6 : Option Addr) (c6 : Nat) (wr : World) : Prop where
  below : Below wb.heap.size wb wr
  box : wr.heap[wb.heap.size]? = some (.cells #[.int .i64 tt.kind, .string tt.pkg, .int .i64 tt.major, .string tt.mod, .string tt.name, .slice A5 tt.names.length c5, .slice A6 xs.length c6] 48 (0, 0))
  names : NamesAt (strike (fun b => b < wb.heap.size + 1 \/ l2 <= b) wr) A5 tt.names
  rows : Row tR l2 xs A6 c6 wr
  lo : wb.heap.size + 1 <= l2
  lole : l2 <= wr.heap.size
end Go.Proofs.YtddlmigofilejaaGreatDoor
namespace Go.Proofs.YtddlmigofilejaaGreatDoor
open Go.RowKit Go.Shelf
open Go.Sort Go.Maps
open M
structure Rq (m : Mo) (t : Ty) (fb n lo : Nat) (W : World) (F : Nat -> Bool) (L : List Ty) (A : Option Addr) (c : Nat) (wr : World) : Prop where
  below : Below fb W wr
  found : FoundAt wr fb n F
  rch : Rch m t F L
  own : OwnL wr lo (.slice A L.length c) L
  most : L.length + 9000 * unf n F <= 9000 * (n + 1)
end Go.Proofs.YtddlmigofilejaaGreatDoor
namespace Go.Proofs.YtddlmigofilejaaGreatDoor
open Go
open M
def nmC : ByteArray := ⟨#[99]⟩
def modU (u : Us) : Mo := ⟨nmC, u.imps, []⟩
def rowU (x : If) (k : Int) : List Nm := if k = 2 then x.types else x.vals
noncomputable def fitsU (k : Int) (y t : Ty) : Bool := (mayT y && plainT y) && (if k = 1 then subB y t else sameT y t)
noncomputable def lineC (u : Us) (env : List If) (l : Ln) (c : Int) (t : Ty) : Int :=
  match impAt (modU u) l.mod with
  | none => 4
  | some k => if c = 4 then 4 else match u.imps[k]? with
    | none => 9
    | some x => match findI env x.pkg x.major x.mod with
      | none => 9
      | some f => match env[f]? with
        | none => 9
        | some i => match ofI (rowU i l.kind) l.name with
          | none => 9
          | some n => match (rowU i l.kind)[n]? with
            | none => 9
            | some y => if c ≠ 0 then c else if fitsU l.kind y.typ t = true then 0 else 12
end Go.Proofs.YtddlmigofilejaaGreatDoor
namespace Go.Proofs.YtddlmigofilejaaGreatDoor
open Go Go.RowKit
open M
def exA11 : ByteArray := ⟨#[105, 109, 112, 111, 114, 116, 32, 112, 32, 49, 32, 109, 32, 97, 115, 32, 109, 32, 117, 115, 101, 32, 109, 46, 102, 32, 58, 32, 73, 110, 116]⟩
def exL11 : Ln := ⟨1, ⟨#[109]⟩, ⟨#[102]⟩, leafK 1⟩
def exI11 : Im := ⟨⟨#[112]⟩, 1, ⟨#[109]⟩, ⟨#[109]⟩⟩
def exU11 : Us := ⟨[exI11], [exL11]⟩
theorem exA11_res : parU exA11 = .ok exU11 12 0 := by kernel_rfl
end Go.Proofs.YtddlmigofilejaaGreatDoor
namespace Go.Proofs.YtddlmigofilejaaGreatDoor
open Go Go.RowKit Go.Shelf
open Go.Sort Go.Maps
open M
def exMZ : Mo := ⟨⟨#[109]⟩, [exI11], []⟩
theorem exMZ_may : ([exI11] : List Im).all mayI = true := by decide +kernel
theorem idxDZ (f : Value) (w : World) : Calls Tryz.prog 260 #[.slice none 0 0, f] w fun e w' => e = .returned (.int .i64 (-1)) /\ Below w.heap.size w w' := by
  go_enter Tryz.func260, Tryz.ntmps260
  go_wp2_with fail
  go_loopw [8] (fun s wr => s = .int .i64 0 /\ w = wr) (fun _ _ => 0)
  case atStart => exact ⟨rfl, rfl⟩
  case round =>
    obtain ⟨rfl, rfl⟩ := hrel;go_wp2_with fail
    go_ret;exact ⟨rfl, Below.refl _ _⟩
theorem contDZ (f : Value) (w : World) : Calls Tryz.prog 238 #[.slice none 0 0, f] w fun e w' => e = .returned (.bool false) /\ Below w.heap.size w w' := by
  go_enter Tryz.func238, Tryz.ntmps238
  go_wp2_with fail
  refine (idxDZ f w).mono ?_; rintro e w2 ⟨rfl, hb2⟩
  have HB2 := zH hb2;clear hb2;go_wp2_with fail
  go_ret;exact ⟨rfl, HB2.out⟩
theorem smayZ (Ai : Option Addr) (ci : Nat) (w : World) (hI : RowIn imR w Ai [exI11]) : Calls Tryz.prog 206 #[.agg #[.string ⟨#[109]⟩, .slice Ai 1 ci, .slice none 0 0]] w fun e w' => e = .returned (.bool true) /\ Below w.heap.size w w' := by
  obtain ⟨wb, hwb⟩ : ∃ wb, wb = w.alloc (.cells #[.string ⟨#[109]⟩, .slice Ai 1 ci, .slice none 0 0] 113) := ⟨_, rfl⟩;have B0 : Below w.heap.size w wb := by rw [hwb]; exact below_new (Below.refl _ _) _
  have X0 : wb.heap[w.heap.size]? = some (.cells #[.string ⟨#[109]⟩, .slice Ai 1 ci, .slice none 0 0] 113 (0, 0)) := by rw [hwb]; exact heap_alloc_new w _
  have IMC : Hid (∀ wx, Below w.heap.size w wx -> Calls Tryz.prog 57 #[.slice Ai 1 ci] wx fun e w' => e = .returned (.bool true) /\ Below wx.heap.size wx w') := zH (fun wx hb => by
    have h := cmayI_any Ai ci 1 [exI11] wx rfl (by decide) (hI.below hb);rw [exMZ_may] at h;exact h)
  obtain ⟨x0, x1, x2⟩ := cq3 X0;simp at x0 x1 x2;have HB0 := zH B0;have HX0 := zH (fun wx (hb : Below wb.heap.size wb wx) => (hb.block w.heap.size (Array.getElem?_eq_some_iff.1 X0).1).trans X0);have HWB := zH hwb;clear B0 X0 hwb hI;go_enter Tryz.func206, Tryz.ntmps206
  go_upto_region 1 with fail
  rw [<- HWB.out];clear HWB;go_wp2_with fail
  refine (csmall_b _ wb (by decide)).mono ?_; rintro e w2 ⟨rfl, hb2⟩; rw [m_small]
  have HB2 := zH hb2;clear hb2 x0 x1 x2;obtain ⟨x0, x1, x2⟩ := cq3 (HX0.out w2 HB2.out);simp at x0 x1 x2;go_wp2_with fail
  refine (IMC.out w2 (below_over HB0.out HB2.out)).mono ?_; rintro e w3 ⟨rfl, hb3⟩
  have HB3 := zH (below_over HB2.out hb3);clear hb3 x0 x1 x2;obtain ⟨x0, x1, x2⟩ := cq3 (HX0.out w3 HB3.out);simp at x0 x1 x2;go_wp2_with fail
  refine (contDZ _ w3).mono ?_; rintro e w4 ⟨rfl, hb4⟩
  have HB4 := zH (below_over HB3.out hb4);clear hb4;go_wp2_with fail
  go_ret;exact ⟨rfl, below_over HB0.out HB4.out⟩
theorem mentZ (Ai : Option Addr) (ci : Nat) (An : Option Addr) (cn : Nat) (As : Option Addr) (cs : Nat) (w : World) (hI : RowIn imR w Ai [exI11]) : Calls Tryz.prog 181 #[.agg #[.string ⟨#[109]⟩, .slice Ai 1 ci, .slice none 0 0], .agg #[.int .i64 1, .string ⟨#[]⟩, .int .i64 0, .string ⟨#[]⟩, .string ⟨#[]⟩, .slice An 0 cn, .slice As 0 cs]] w fun e w' => ∃ (A : Option Addr) (c : Nat), e = .returned (.slice A 0 c) /\ Below w.heap.size w w' := by
  obtain ⟨wb, hwb, B0, X0, Y0, hl⟩ := two_boxes w #[.string ⟨#[109]⟩, .slice Ai 1 ci, .slice none 0 0] #[.int .i64 1, .string ⟨#[]⟩, .int .i64 0, .string ⟨#[]⟩, .string ⟨#[]⟩, .slice An 0 cn, .slice As 0 cs] 113 48;have HB0 := zH B0;have HI := zH hI;have HX0 := zH (fun wx (hb : Below wb.heap.size wb wx) => (hb.block w.heap.size (by omega)).trans X0);have HY0 := zH (fun wx (hb : Below wb.heap.size wb wx) => (hb.block (w.heap.size + 1) (by omega)).trans Y0);have HWB := zH hwb;obtain ⟨x0, x1, x2⟩ := cq3 X0;simp at x0 x1 x2;obtain ⟨y0, y1, y2, y3, y4, y5, y6⟩ := cq7 Y0;simp at y0 y1 y2 y3 y4 y5 y6;have SRT := zH (fun (wx : World) => Tryz.slices_Sort_string_none none 0 wx);clear B0 X0 Y0 hwb hl hI;go_enter Tryz.func181, Tryz.ntmps181
  go_upto_region 1 with fail
  rw [<- HWB.out];clear HWB;go_wp2_with fail
  refine (smayZ Ai ci wb (HI.out.below HB0.out)).mono ?_; rintro e w2 ⟨rfl, hb2⟩
  have HB2 := zH hb2;clear hb2 x0 x1 x2 y0 y1 y2 y3 y4 y5 y6;obtain ⟨x0, x1, x2⟩ := cq3 (HX0.out w2 HB2.out);simp at x0 x1 x2;obtain ⟨y0, y1, y2, y3, y4, y5, y6⟩ := cq7 (HY0.out w2 HB2.out);simp at y0 y1 y2 y3 y4 y5 y6;go_wp2_with fail
  refine (mayZ An cn As cs w2).mono ?_; rintro e w3 ⟨rfl, hb3⟩
  have HB3 := zH (below_over HB2.out hb3);clear hb3 x0 x1 x2 y0 y1 y2 y3 y4 y5 y6;obtain ⟨x0, x1, x2⟩ := cq3 (HX0.out w3 HB3.out);simp at x0 x1 x2;have RC := zH (read7_any exMZ [.string ⟨#[109]⟩, .slice Ai 1 ci, .slice none 0 0] w3 ⟨Ai, ci, none, 0, rfl, by decide, by decide, by decide, HI.out.below (below_over HB0.out HB3.out), fun i x h => by simp [exMZ] at h⟩ (by decide) (by decide) (fun x hx => by simp [exMZ] at hx; subst hx; decide) (fun d hd => by simp [exMZ] at hd));go_wp2_with fail
  refine RC.out.mono ?_; rintro e w4 ⟨b0, b1, Ae, ce, rfl, -, -, hb4⟩
  have HB4 := zH (below_over HB3.out hb4);clear hb4 x0 x1 x2 RC;simp only [show (entries exMZ).length = 0 from rfl];obtain ⟨w5, hw5⟩ : ∃ w5, w5 = w4.alloc (.cells #[.map (some b0), .map (some b1), .slice Ae 0 ce] 247) := ⟨_, rfl⟩;have B5 : Below w4.heap.size w4 w5 := by rw [hw5]; exact below_new (Below.refl _ _) _
  have X5 : w5.heap[w4.heap.size]? = some (.cells #[.map (some b0), .map (some b1), .slice Ae 0 ce] 247 (0, 0)) := by rw [hw5]; exact heap_alloc_new w4 _
  have HB5 := zH (below_over HB4.out B5);have HX5 := zH (fun wx (hb : Below w5.heap.size w5 wx) => (hb.block w4.heap.size (Array.getElem?_eq_some_iff.1 X5).1).trans X5);have HW5 := zH hw5;clear hw5 B5 X5;go_upto_region 4 with fail
  rw [<- HW5.out];clear HW5;obtain ⟨x0, x1, x2⟩ := cq3 (HX5.out w5 (Below.refl _ _));simp at x0 x1 x2;obtain ⟨y0, y1, y2, y3, y4, y5, y6⟩ := cq7 (HY0.out w5 HB5.out);simp at y0 y1 y2 y3 y4 y5 y6;go_wp2_with fail
  refine (saidZ b0 b1 Ae ce An cn As cs w5).mono ?_; rintro e w6 ⟨rfl, hb6⟩
  have HB56 := zH hb6;have HB6 := zH (below_over HB5.out hb6);clear hb6 x0 x1 x2 y0 y1 y2 y3 y4 y5 y6;obtain ⟨x0, x1, x2⟩ := cq3 (HX5.out w6 HB56.out);simp at x0 x1 x2;go_wp2_with fail
  refine (allZ b0 b1 Ae ce w6).mono ?_; rintro e w7 ⟨A, c, rfl, hb7⟩
  have HB7 := zH (below_over HB6.out hb7);clear hb7 x0 x1 x2;go_wp2_with fail
  go_loopw [8, 31] (fun s8 s31 wr => s8 = .slice none 0 0 /\ s31 = .int .i64 0 /\ w7 = wr) (fun _ _ _ => 0)
  case atStart => exact ⟨rfl, rfl, rfl⟩
  case round =>
    obtain ⟨rfl, rfl, rfl⟩ := hrel;go_wp2_with fail
    refine (SRT.out _).mono ?_;rintro e w8 ⟨rfl, rfl⟩;go_wp2_with fail
    go_ret;exact ⟨none, 0, rfl, below_over HB0.out HB7.out⟩
theorem ixIZ (A : Option Addr) (c : Nat) (f : Value) (w : World) : Calls Tryz.prog 100 #[.slice A 0 c, f] w fun e w' => e = .returned (.int .i64 (-1)) /\ Below w.heap.size w w' := by
  go_enter Tryz.func100, Tryz.ntmps100
  go_wp2_with fail
  go_loopw [8] (fun s wr => s = .int .i64 0 /\ w = wr) (fun _ _ => 0)
  case atStart => exact ⟨rfl, rfl⟩
  case round =>
    obtain ⟨rfl, rfl⟩ := hrel;go_wp2_with fail
    go_ret;exact ⟨rfl, Below.refl _ _⟩
theorem ixEZ (A : Option Addr) (c : Nat) (f : Value) (w : World) : Calls Tryz.prog 211 #[.slice A 0 c, f] w fun e w' => e = .returned (.int .i64 (-1)) /\ Below w.heap.size w w' := by
  go_enter Tryz.func211, Tryz.ntmps211
  go_wp2_with fail
  go_loopw [8] (fun s wr => s = .int .i64 0 /\ w = wr) (fun _ _ => 0)
  case atStart => exact ⟨rfl, rfl⟩
  case round =>
    obtain ⟨rfl, rfl⟩ := hrel;go_wp2_with fail
    go_ret;exact ⟨rfl, Below.refl _ _⟩
theorem cfIZ (A : Option Addr) (c : Nat) (f : Value) (w : World) : Calls Tryz.prog 61 #[.slice A 0 c, f] w fun e w' => e = .returned (.bool false) /\ Below w.heap.size w w' := by
  go_enter Tryz.func61, Tryz.ntmps61
  go_wp2_with fail
  refine (ixIZ A c f w).mono ?_; rintro e w2 ⟨rfl, hb2⟩
  have HB2 := zH hb2;clear hb2;go_wp2_with fail
  go_ret;exact ⟨rfl, HB2.out⟩
theorem agDZ (K : FuncId) (w : World) : Calls Tryz.prog 209 #[.slice none 0 0, .func (.func K) #[] #[]] w fun e w' => e = .returned (.int .i64 (-1)) /\ Below w.heap.size w w' := by
  obtain ⟨wb, hwb⟩ : ∃ wb, wb = w.alloc (.cells #[.func (.func K) #[] #[]] 250) := ⟨_, rfl⟩;have HB0 := zH (show Below w.heap.size w wb by rw [hwb]; exact below_new (Below.refl _ _) _);have HWB := zH hwb;clear hwb;go_enter Tryz.func209, Tryz.ntmps209
  go_upto_region 1 with fail
  rw [<- HWB.out];clear HWB;go_wp2_with fail
  go_loopw [10] (fun s wr => s = .int .i64 0 /\ wb = wr) (fun _ _ => 0)
  case atStart => exact ⟨rfl, rfl⟩
  case round =>
    obtain ⟨rfl, rfl⟩ := hrel;go_wp2_with fail
    go_ret;exact ⟨rfl, HB0.out⟩
theorem agIZ (K : FuncId) (A : Option Addr) (c : Nat) (w : World) (hI : RowIn imR w A [exI11]) : Calls Tryz.prog 30 #[.slice A 1 c, .func (.func K) #[] #[]] w fun e w' => e = .returned (.int .i64 (-1)) /\ Below w.heap.size w w' := by
  obtain ⟨wb, hwb⟩ : ∃ wb, wb = w.alloc (.cells #[.func (.func K) #[] #[]] 80) := ⟨_, rfl⟩;have B0 : Below w.heap.size w wb := by rw [hwb]; exact below_new (Below.refl _ _) _
  obtain ⟨g, o, lv, rfl, hg, hcc, rfl, -⟩ := (hI.below B0) 0 exI11 rfl;have a0 := hcc 0 _ rfl;have a1 := hcc 1 _ rfl;have a2 := hcc 2 _ rfl;have a3 := hcc 3 _ rfl;have b0 : wb.cell? ⟨g, o, none⟩ = some (.string ⟨#[112]⟩) := a0;have b1 : wb.cell? ⟨g, o + 1, none⟩ = some (.int .i64 1) := a1;have b2 : wb.cell? ⟨g, o + 2, none⟩ = some (.string ⟨#[109]⟩) := a2;have b3 : wb.cell? ⟨g, o + 3, none⟩ = some (.string ⟨#[109]⟩) := a3;have HB0 := zH B0;have HWB := zH hwb;clear hwb B0 hcc hg a0 a1 a2 a3 hI;obtain ⟨w3, hw3⟩ : ∃ w3, w3 = wb.alloc (.cells #[.string ⟨#[112]⟩, .int .i64 1, .string ⟨#[109]⟩, .string ⟨#[109]⟩] 57) := ⟨_, rfl⟩;have HB3 := zH (show Below wb.heap.size wb w3 by rw [hw3]; exact below_new (Below.refl _ _) _);have HW3 := zH hw3;clear hw3;go_enter Tryz.func30, Tryz.ntmps30
  go_upto_region 1 with fail
  rw [<- HWB.out];clear HWB;go_wp2_with fail
  go_loopw [10] (fun s wr => (s = .int .i64 0 /\ wb = wr) \/ (s = .int .i64 1 /\ Hid (Below wb.heap.size wb wr))) (fun s _ => 1 - (intOf s).toNat)
  case atStart => exact .inl ⟨rfl, rfl⟩
  case round =>
    rcases hrel with ⟨rfl, rfl⟩ | ⟨rfl, HBr⟩
    · go_upto_region 4 with fail
      rw [<- HW3.out];clear HW3 b0 b1 b2 b3;go_wp2_with fail
      refine (cfIZ _ c _ w3).mono ?_; rintro e w4 ⟨rfl, hb4⟩
      have HB4 := zH (below_over HB3.out hb4);clear hb4;go_wp2_with fail
      go_roundw
      case rel => exact .inr ⟨by go_num, HB4⟩
      case measure => simp [intOf]
    · clear b0 b1 b2 b3
      go_wp2_with fail
      go_ret;exact ⟨rfl, below_over HB0.out HBr.out⟩
theorem scheckZ (Ai : Option Addr) (ci : Nat) (w : World) (hI : RowIn imR w Ai [exI11]) : Calls Tryz.prog 179 #[.agg #[.string ⟨#[109]⟩, .slice Ai 1 ci, .slice none 0 0]] w fun e w' => e = .returned .nilIface /\ Below w.heap.size w w' := by
  have HI := zH hI;obtain ⟨w0, hw0⟩ : ∃ w0, w0 = w.alloc (.cells #[.string ⟨#[109]⟩, .slice Ai 1 ci, .slice none 0 0] 113) := ⟨_, rfl⟩;have B0 : Below w.heap.size w w0 := by rw [hw0]; exact below_new (Below.refl _ _) _
  have X0 : w0.heap[w.heap.size]? = some (.cells #[.string ⟨#[109]⟩, .slice Ai 1 ci, .slice none 0 0] 113 (0, 0)) := by rw [hw0]; exact heap_alloc_new w _
  have HX0 := zH (fun wx (hb : Below w0.heap.size w0 wx) => (hb.block w.heap.size (Array.getElem?_eq_some_iff.1 X0).1).trans X0);obtain ⟨x0, x1, x2⟩ := cq3 X0;simp at x0 x1 x2;have HB0 := zH B0;have HW0 := zH hw0;clear hw0 B0 X0 hI;go_enter Tryz.func179, Tryz.ntmps179
  go_upto_region 1 with fail
  rw [<- HW0.out];clear HW0;go_wp2_with fail
  refine (smayZ Ai ci w0 (HI.out.below HB0.out)).mono ?_; rintro e w1 ⟨rfl, hb1⟩
  have HB1 := zH hb1;clear hb1 x0 x1 x2;obtain ⟨x0, x1, x2⟩ := cq3 (HX0.out w1 HB1.out);simp at x0 x1 x2;have RC := zH (read7_any exMZ [.string ⟨#[109]⟩, .slice Ai 1 ci, .slice none 0 0] w1 ⟨Ai, ci, none, 0, rfl, by decide, by decide, by decide, HI.out.below (below_over HB0.out HB1.out), fun i x h => by simp [exMZ] at h⟩ (by decide) (by decide) (fun x hx => by simp [exMZ] at hx; subst hx; decide) (fun d hd => by simp [exMZ] at hd));go_wp2_with fail
  refine RC.out.mono ?_; rintro e w2 ⟨b0, b1, Ae, ce, rfl, -, -, hb2⟩
  simp only [show (entries exMZ).length = 0 from rfl];obtain ⟨wb, hwb⟩ : ∃ wb, wb = w2.alloc (.cells #[.map (some b0), .map (some b1), .slice Ae 0 ce] 247) := ⟨_, rfl⟩;have BB : Below w2.heap.size w2 wb := by rw [hwb]; exact below_new (Below.refl _ _) _
  have XN : wb.heap[w2.heap.size]? = some (.cells #[.map (some b0), .map (some b1), .slice Ae 0 ce] 247 (0, 0)) := by rw [hwb]; exact heap_alloc_new w2 _
  have HBb := zH (below_over HB1.out (below_over hb2 BB));have HWB := zH hwb;clear hwb BB hb2 x0 x1 x2 RC;go_upto_region 4 with fail
  rw [<- HWB.out];clear HWB;have c1 : ∀ dd os, Calls Tryz.prog 30 #[.slice Ai 1 ci, .func (.func 208) #[] #[]] (Sort.grow (redrawn wb dd) os) fun e w'' => e = .returned (.int .i64 (-1)) /\ ∃ pp : Regrown, w'' = Sort.grow (redrawn wb pp.d) pp.os := fun dd os => Calls.regrown_of (agIZ _ Ai ci _ ((HI.out.below (below_over HB0.out HBb.out)).below (below_regrown _ dd os)))
  have c2 : ∀ dd os, Calls Tryz.prog 209 #[.slice none 0 0, .func (.func 210) #[] #[]] (Sort.grow (redrawn wb dd) os) fun e w'' => e = .returned (.int .i64 (-1)) /\ ∃ pp : Regrown, w'' = Sort.grow (redrawn wb pp.d) pp.os := fun dd os => Calls.regrown_of (agDZ _ _)
  have c3 : ∀ dd os, Calls Tryz.prog 211 #[.slice Ae 0 ce, .func (.func 212) #[] #[]] (Sort.grow (redrawn wb dd) os) fun e w'' => e = .returned (.int .i64 (-1)) /\ ∃ pp : Regrown, w'' = Sort.grow (redrawn wb pp.d) pp.os := fun dd os => Calls.regrown_of (ixEZ Ae ce _ _)
  have c4 : ∀ dd os, Calls Tryz.prog 211 #[.slice Ae 0 ce, .func (.func 213) #[.agg #[.map (some b0), .map (some b1), .slice Ae 0 ce]] #[]] (Sort.grow (redrawn wb dd) os) fun e w'' => e = .returned (.int .i64 (-1)) /\ ∃ pp : Regrown, w'' = Sort.grow (redrawn wb pp.d) pp.os := fun dd os => Calls.regrown_of (ixEZ Ae ce _ _)
  have c5 : ∀ dd os, Calls Tryz.prog 211 #[.slice Ae 0 ce, .func (.func 214) #[.agg #[.map (some b0), .map (some b1), .slice Ae 0 ce]] #[]] (Sort.grow (redrawn wb dd) os) fun e w'' => e = .returned (.int .i64 (-1)) /\ ∃ pp : Regrown, w'' = Sort.grow (redrawn wb pp.d) pp.os := fun dd os => Calls.regrown_of (ixEZ Ae ce _ _)
  have y1 := cZ (HX0.out wb HBb.out) 1;have y2 := cZ (HX0.out wb HBb.out) 2;obtain ⟨n0, n1, n2⟩ := cq3 XN;simp at y1 y2 n0 n1 n2;have p1 := cell_regrown y1;have p2 := cell_regrown y2;have q0 := cell_regrown n0;have q1 := cell_regrown n1;have q2 := cell_regrown n2;clear y1 y2 n0 n1 n2 XN;refine wp_region_head (C := fun w' => ∃ p : Regrown, w' = Sort.grow (redrawn wb p.d) p.os) 29 2 31 (v := .int .i64 0) (by kernel_rfl) rfl (by decide) rfl (by kernel_rfl) (by kernel_rfl) (by kernel_rfl) (by kernel_rfl) (by kernel_rfl) (fun _ _ _ h => h) (Or.inl ⟨by rfl, ?hy⟩) (by kernel_rfl) (by kernel_rfl) (by kernel_rfl) (by kernel_rfl) ⟨⟨wb.drawn + 1, #[]⟩, by rw [grow_empty]; rfl⟩ ?hq
  case hy => intro wS _; go_simp
  case hq =>
    simp only [List.take_succ_cons, List.take_zero, Act.put, List.setIfInBounds_toArray, List.set_cons_zero, List.set_cons_succ];repeat (any_goals (first | go_big_quiet_step (first | with_reducible exact c1 _ _ | with_reducible exact c2 _ _ | with_reducible exact c3 _ _ | with_reducible exact c4 _ _ | with_reducible exact c5 _ _) | quiet_step (first | with_reducible exact c1 _ _ | with_reducible exact c2 _ _ | with_reducible exact c3 _ _ | with_reducible exact c4 _ _ | with_reducible exact c5 _ _)))
    refine wpQuiet_nil ?_;intro w' hw' k;obtain ⟨⟨dq, osq⟩, hw''⟩ := hw';have HB' : Hid (Below wb.heap.size wb w') := zH (by rw [hw'']; exact below_regrown _ _ _)
    clear hw'' c1 c2 c3 c4 c5 p1 p2 q0 q1 q2;refine AnyX.go 29 (by kernel_rfl) rfl rfl (fun K hK => ?_);simp only [List.getElem_toArray, List.getElem_cons_succ, List.getElem_cons_zero];go_simp
    refine hK.out _ _ (fun hoff _ => trivial) ?_;clear hK;(try simp only [Act.put, List.setIfInBounds_toArray, List.set_cons_zero, List.set_cons_succ]);refine AnyX.go 30 (by kernel_rfl) rfl rfl (fun K hK => ?_);simp only [List.getElem_toArray, List.getElem_cons_succ, List.getElem_cons_zero];go_simp
    refine hK.out _ _ (fun hoff _ => trivial) ?_;clear hK;(try simp only [Act.put, List.setIfInBounds_toArray, List.set_cons_zero, List.set_cons_succ]);refine AnyX.done (by kernel_rfl) ?_ _;obtain ⟨wz, hwz⟩ : ∃ wz, wz = w'.alloc (.cells #[.int .i64 (-1), .iface 31 (.int .i64 5), .int .i64 (-1), .iface 31 (.int .i64 5), .int .i64 (-1), .iface 31 (.int .i64 4), .int .i64 (-1), .iface 31 (.int .i64 6), .int .i64 (-1), .iface 31 (.int .i64 10)] 75) := ⟨_, rfl⟩;have Bz : Below w'.heap.size w' wz := by rw [hwz]; exact below_new (Below.refl _ _) _
    have XZ : wz.heap[w'.heap.size]? = some (.cells #[.int .i64 (-1), .iface 31 (.int .i64 5), .int .i64 (-1), .iface 31 (.int .i64 5), .int .i64 (-1), .iface 31 (.int .i64 4), .int .i64 (-1), .iface 31 (.int .i64 6), .int .i64 (-1), .iface 31 (.int .i64 10)] 75 (0, 0)) := by rw [hwz]; exact heap_alloc_new w' _
    have hlz : w'.heap.size < wz.heap.size := by rw [hwz]; simp
    have HX := zH XZ;have HBz : Hid (Below w.heap.size w wz) := zH (below_over (below_over HB0.out HBb.out) (below_over HB'.out Bz));rw [<- hwz];clear hwz HB' HBb Bz XZ HX0 HI;go_wp2_with fail
    go_loopw [43] (fun iv wr => ∃ k : Nat, k <= 5 /\ iv = .int .i64 k /\ Hid (Below wz.heap.size wz wr)) (fun iv _ => 5 - (intOf iv).toNat)
    case atStart => exact ⟨0, by omega, rfl, zH (Below.refl _ _)⟩
    case round =>
      obtain ⟨k, hk, rfl, HBr⟩ := hrel;obtain ⟨wo, rfl⟩ : ∃ wo : World, wo = wr := ⟨_, rfl⟩;by_cases hlt : k < 5
      · obtain ⟨c, a0, a1⟩ : ∃ c : Int, wo.cell? ⟨w'.heap.size, k * 2, none⟩ = some (.int .i64 (-1)) /\ wo.cell? ⟨w'.heap.size, k * 2 + 1, none⟩ = some (.iface 31 (.int .i64 c)) := by
          have X := (HBr.out.block w'.heap.size hlz).trans HX.out;have h5 : k = 0 \/ k = 1 \/ k = 2 \/ k = 3 \/ k = 4 := by omega
          rcases h5 with rfl | rfl | rfl | rfl | rfl
          all_goals exact ⟨_, by rw [cZ X _]; rfl, by rw [cZ X _]; rfl⟩
        obtain ⟨w6, hw6⟩ : ∃ w6, w6 = wo.alloc (.cells #[.int .i64 (-1), .iface 31 (.int .i64 c)] 75) := ⟨_, rfl⟩;have B6 : Below wo.heap.size wo w6 := by rw [hw6]; exact below_new (Below.refl _ _) _
        have X6 : w6.heap[wo.heap.size]? = some (.cells #[.int .i64 (-1), .iface 31 (.int .i64 c)] 75 (0, 0)) := by rw [hw6]; exact heap_alloc_new wo _
        have HBn : Hid (Below wz.heap.size wz w6) := zH (below_over HBr.out B6);have HW6 := zH hw6;clear hw6 B6;go_upto_region 7 with fail
        rw [<- HW6.out];obtain ⟨x0, x1⟩ := cq2 X6;simp at x0 x1;clear X6 a0 a1;go_wp2_with fail
        go_roundw
        case rel => exact ⟨k + 1, by omega, by go_num, HBn⟩
        case measure => simp [intOf]; omega
      · go_wp2_with fail
        go_ret; exact ⟨rfl, below_over HBz.out HBr.out⟩
end Go.Proofs.YtddlmigofilejaaGreatDoor
