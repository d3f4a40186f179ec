/-
  Several texts in one.
-/
import Derived.Test.YtddlmigofilejaaGreatDoorK25
set_option maxRecDepth 100000
set_option maxHeartbeats 8000000
namespace Go.Proofs.YtddlmigofilejaaGreatDoor
open Go Go.RowKit Go.Shelf
open Go.Sort Go.Maps
open M
theorem openZ (Ai : Option Addr) (ci : Nat) (Ae : Option Addr) (ne ce kb : Nat) (w : World) : Calls Tryz.prog 180 #[.agg #[.string ⟨#[109]⟩, .slice Ai 1 ci, .slice none 0 0, .string ⟨#[112]⟩, .int .i64 1, .slice Ae ne ce, .map (some kb)], .string ⟨#[84]⟩] w fun e w' => e = .returned (.agg #[.int .i64 9, .string ⟨#[112]⟩, .int .i64 1, .string ⟨#[109]⟩, .string ⟨#[84]⟩, .slice none 0 0, .slice none 0 0]) /\ Below w.heap.size w w' := by
  obtain ⟨W2, hW2, B2, O0, O1, hl2⟩ := two_boxes w #[.string ⟨#[109]⟩, .slice Ai 1 ci, .slice none 0 0, .string ⟨#[112]⟩, .int .i64 1, .slice Ae ne ce, .map (some kb)] #[.int .i64 0, .string ⟨#[]⟩, .int .i64 0, .string ⟨#[]⟩, .string ⟨#[]⟩, .slice none 0 0, .slice none 0 0] 200 48;have HO1 := zH O1;have HW := zH hW2;have x0 := cZ O0 0;have x3 := cZ O0 3;have x4 := cZ O0 4;simp at x0 x3 x4;have X5 := HO1.out;have FIN := zH (setRow_below B2 (b := w.heap.size + 1) (by omega) #[.int .i64 9, .string ⟨#[112]⟩, .int .i64 1, .string ⟨#[109]⟩, .string ⟨#[84]⟩, .slice none 0 0, .slice none 0 0]);clear hW2 B2 O0 O1;go_enter Tryz.func180, Tryz.ntmps180
  go_upto_region 1 with fail
  rw [<- HW.out];clear HW;go_wp2_with (first | (((with_reducible refine wpList_putRow 48 (w.heap.size + 1) #[.int .i64 9, .string ⟨#[112]⟩, .int .i64 1, .string ⟨#[109]⟩, .string ⟨#[84]⟩, .slice none 0 0, .slice none 0 0] _ _ X5 ?_ ?_ ?_ ?_ ?_ ?_); exact tySize; rfl; exact tyOne; iterate 2 (focus (first | (go_simp; done) | rfl)))))
  exact ret_agg1 (fn := Tryz.f180) (vs := [.int .i64 9, .string ⟨#[112]⟩, .int .i64 1, .string ⟨#[109]⟩, .string ⟨#[84]⟩, .slice none 0 0, .slice none 0 0]) (b := w.heap.size + 1) rfl rfl Tryz.underlying48 (by kernel_rfl) (cell7 (setRow_heap W2 (w.heap.size + 1) _ _ _ _ HO1.out)) rfl ⟨rfl, FIN.out⟩
theorem nmayZ (Ai : Option Addr) (ci : Nat) (Ae : Option Addr) (ne ce kb : Nat) (w : World) (hI : RowIn imR w Ai [exI11]) (hn : ne <= 100) : Calls Tryz.prog 146 #[.agg #[.string ⟨#[109]⟩, .slice Ai 1 ci, .slice none 0 0, .string ⟨#[112]⟩, .int .i64 1, .slice Ae ne ce, .map (some kb)]] w fun e w' => e = .returned (.bool true) /\ Below w.heap.size w w' := by
  have HI := zH hI;have hni : (ne : Int) <= 100 := by omega
  obtain ⟨wb, hwb⟩ : ∃ wb, wb = w.alloc (.cells #[.string ⟨#[109]⟩, .slice Ai 1 ci, .slice none 0 0, .string ⟨#[112]⟩, .int .i64 1, .slice Ae ne ce, .map (some kb)] 200) := ⟨_, rfl⟩;have B0 : Below w.heap.size w wb := by rw [hwb]; exact below_new (Below.refl _ _) _
  have X0 : wb.heap[w.heap.size]? = some (.cells #[.string ⟨#[109]⟩, .slice Ai 1 ci, .slice none 0 0, .string ⟨#[112]⟩, .int .i64 1, .slice Ae ne ce, .map (some kb)] 200 (0, 0)) := by rw [hwb]; exact heap_alloc_new w _
  have HX0 := zH (fun wx (hb : Below wb.heap.size wb wx) => (hb.block w.heap.size (Array.getElem?_eq_some_iff.1 X0).1).trans X0);obtain ⟨x0, x1, x2⟩ := cq3 X0;simp at x0 x1 x2;have HB0 := zH B0;have HWB := zH hwb;clear hwb B0 X0 hI;go_enter Tryz.func146, Tryz.ntmps146
  go_upto_region 1 with fail
  rw [<- HWB.out];clear HWB;go_wp2_with fail
  refine (scheckZ Ai ci wb (HI.out.below HB0.out)).mono ?_; rintro e w2 ⟨rfl, hb2⟩
  have HB2 := zH hb2;clear hb2 x0 x1 x2;obtain ⟨x0, x1, x2, x3, x4, x5, x6⟩ := cq7 (HX0.out w2 HB2.out);simp at x0 x1 x2 x3 x4 x5 x6;go_wp2_with fail
  refine (openZ Ai ci Ae ne ce kb w2).mono ?_; rintro e w3 ⟨rfl, hb3⟩
  have HB3 := zH (below_over HB2.out hb3);clear hb3 x0 x1 x2 x3 x4 x5 x6;go_wp2_with fail
  refine (mayO w3).mono ?_; rintro e w4 ⟨rfl, hb4⟩
  have HB4 := zH (below_over HB3.out hb4);clear hb4;obtain ⟨x0, x1, x2, x3, x4, x5, x6⟩ := cq7 (HX0.out w4 HB4.out);simp at x0 x1 x2 x3 x4 x5 x6;go_wp2_with fail
  go_ret;exact ⟨rfl, below_over HB0.out HB4.out⟩
theorem nallZ (Ai : Option Addr) (ci : Nat) (Ae : Option Addr) (ne ce kb : Nat) (An : Option Addr) (cn : Nat) (As : Option Addr) (cs : Nat) (w : World) (hI : RowIn imR w Ai [exI11]) : Calls Tryz.prog 147 #[.agg #[.string ⟨#[109]⟩, .slice Ai 1 ci, .slice none 0 0, .string ⟨#[112]⟩, .int .i64 1, .slice Ae ne ce, .map (some kb)], .agg #[.int .i64 1, .string ⟨#[]⟩, .int .i64 0, .string ⟨#[]⟩, .string ⟨#[]⟩, .slice An 0 cn, .slice As 0 cs]] w fun e w' => ∃ (b c : Nat), e = .returned (.slice (some ⟨b, 0, none⟩) 1 c) /\ w'.heap[b]? = some (.cells #[.int .i64 1, .string ⟨#[]⟩, .int .i64 0, .string ⟨#[]⟩, .string ⟨#[]⟩, .slice An 0 cn, .slice As 0 cs] 48 (0, 0)) /\ w.heap.size <= b /\ Below w.heap.size w w' := by
  have HI := zH hI;obtain ⟨wb, hwb, B0, X0, Y0, hl⟩ := two_boxes w #[.string ⟨#[109]⟩, .slice Ai 1 ci, .slice none 0 0, .string ⟨#[112]⟩, .int .i64 1, .slice Ae ne ce, .map (some kb)] #[.int .i64 1, .string ⟨#[]⟩, .int .i64 0, .string ⟨#[]⟩, .string ⟨#[]⟩, .slice An 0 cn, .slice As 0 cs] 200 48;have HB0 := zH B0;have HX0 := zH (fun wx (hb : Below wb.heap.size wb wx) => (hb.block w.heap.size (by omega)).trans X0);have HY0 := zH (fun wx (hb : Below wb.heap.size wb wx) => (hb.block (w.heap.size + 1) (by omega)).trans Y0);have HWB := zH hwb;obtain ⟨x0, x1, x2⟩ := cq3 X0;simp at x0 x1 x2;obtain ⟨y0, y1, y2, y3, y4, y5, y6⟩ := cq7 Y0;simp at y0 y1 y2 y3 y4 y5 y6;clear B0 X0 Y0 hwb hl hI;go_enter Tryz.func147, Tryz.ntmps147
  go_upto_region 1 with fail
  rw [<- HWB.out];clear HWB;go_wp2_with fail
  refine (mentZ Ai ci An cn As cs wb (HI.out.below HB0.out)).mono ?_; rintro e w2 ⟨A, c, rfl, hb2⟩
  have HB2 := zH hb2;clear hb2 x0 x1 x2 y0 y1 y2 y3 y4 y5 y6;obtain ⟨x0, x1, x2⟩ := cq3 (HX0.out w2 HB2.out);simp at x0 x1 x2;obtain ⟨y0, y1, y2, y3, y4, y5, y6⟩ := cq7 (HY0.out w2 HB2.out);simp at y0 y1 y2 y3 y4 y5 y6;obtain ⟨w3, hw3⟩ : ∃ w3, w3 = w2.alloc (.cells #[.int .i64 1, .string ⟨#[]⟩, .int .i64 0, .string ⟨#[]⟩, .string ⟨#[]⟩, .slice An 0 cn, .slice As 0 cs] 48) := ⟨_, rfl⟩;have B3 : Below w2.heap.size w2 w3 := by rw [hw3]; exact below_new (Below.refl _ _) _
  have X3 : w3.heap[w2.heap.size]? = some (.cells #[.int .i64 1, .string ⟨#[]⟩, .int .i64 0, .string ⟨#[]⟩, .string ⟨#[]⟩, .slice An 0 cn, .slice As 0 cs] 48 (0, 0)) := by rw [hw3]; exact heap_alloc_new w2 _
  have HX3 := zH X3;have HB3 := zH (below_over HB2.out B3);have HW3 := zH hw3;have hle : w.heap.size <= w2.heap.size := (below_over HB0.out HB2.out).size;clear hw3 B3 X3;go_upto_region 3 with fail
  rw [<- HW3.out];clear HW3 y0 y1 y2 y3 y4 y5 y6 x0 x1 x2;obtain ⟨x0, x1, x2⟩ := cq3 (HX0.out w3 HB3.out);simp at x0 x1 x2;go_wp2_with fail
  go_loopw [6, 19] (fun s6 s wr => s6 = .slice (some ⟨w2.heap.size, 0, none⟩) 1 1 /\ s = .int .i64 0 /\ w3 = wr) (fun _ _ _ => 0)
  case atStart => exact ⟨rfl, rfl, rfl⟩
  case round =>
    obtain ⟨rfl, rfl, rfl⟩ := hrel;go_wp2_with fail
    go_ret;exact ⟨_, _, rfl, HX3.out, hle, below_over HB0.out HB3.out⟩
theorem failsZ (Ai : Option Addr) (ci : Nat) (Ae : Option Addr) (ne ce kb : Nat) (An : Option Addr) (cn : Nat) (As : Option Addr) (cs : Nat) (cd : Int) (w : World) : Calls Tryz.prog 149 #[.agg #[.string ⟨#[109]⟩, .slice Ai 1 ci, .slice none 0 0, .string ⟨#[112]⟩, .int .i64 1, .slice Ae ne ce, .map (some kb)], .agg #[.int .i64 1, .string ⟨#[]⟩, .int .i64 0, .string ⟨#[]⟩, .string ⟨#[]⟩, .slice An 0 cn, .slice As 0 cs], .int .i64 cd] w fun e w' => e = .returned (.bool false) /\ Below w.heap.size w w' := by
  obtain ⟨w0, hw0, B0, X0, Y0, hl⟩ := two_boxes w #[.string ⟨#[109]⟩, .slice Ai 1 ci, .slice none 0 0, .string ⟨#[112]⟩, .int .i64 1, .slice Ae ne ce, .map (some kb)] #[.int .i64 1, .string ⟨#[]⟩, .int .i64 0, .string ⟨#[]⟩, .string ⟨#[]⟩, .slice An 0 cn, .slice As 0 cs] 200 48;obtain ⟨wb, hwb⟩ : ∃ wb, wb = w0.alloc (.cells #[.int .i64 cd] 31) := ⟨_, rfl⟩;have B1 : Below w0.heap.size w0 wb := by rw [hwb]; exact below_new (Below.refl _ _) _
  have Y1 := (B1.block _ hl).trans Y0;have HB0 := zH (below_over B0 B1);have HWB := zH hwb;have HW0 := zH hw0;obtain ⟨y0, y1, y2, y3, y4, y5, y6⟩ := cq7 Y1;simp at y0 y1 y2 y3 y4 y5 y6;clear B0 X0 Y0 hwb hw0 hl B1 Y1;go_enter Tryz.func149, Tryz.ntmps149
  go_upto_region 1 with fail
  rw [<- HW0.out, <- HWB.out];clear HWB HW0;go_wp2_with fail
  refine (contZ An cn As cs _ wb).mono ?_; rintro e w2 ⟨rfl, hb2⟩
  have HB2 := zH (below_over HB0.out hb2);clear hb2;go_wp2_with fail
  go_ret;exact ⟨rfl, HB2.out⟩
theorem exp1Z (Ai : Option Addr) (ci : Nat) (Ae : Option Addr) (ne ce kb : Nat) (An : Option Addr) (cn : Nat) (As : Option Addr) (cs : Nat) (nb cb : Nat) (cd : Int) (w : World) (hn : w.heap[nb]? = some (.cells #[.string ⟨#[109]⟩, .slice Ai 1 ci, .slice none 0 0, .string ⟨#[112]⟩, .int .i64 1, .slice Ae ne ce, .map (some kb)] 200 (0, 0))) (hc : w.cell? ⟨cb, 0, none⟩ = some (.int .i64 cd)) :
    ∀ (w' : World), Below w.heap.size w w' -> Calls Tryz.prog 148 #[.agg #[.int .i64 1, .string ⟨#[]⟩, .int .i64 0, .string ⟨#[]⟩, .string ⟨#[]⟩, .slice An 0 cn, .slice As 0 cs], .pointer (some ⟨nb, 0, none⟩), .pointer (some ⟨cb, 0, none⟩)] w' fun e w'' => e = .returned (.bool false) /\ Below w'.heap.size w' w'' := by
  intro w' hb;obtain ⟨wb, hwb⟩ : ∃ wb, wb = w'.alloc (.cells #[.int .i64 1, .string ⟨#[]⟩, .int .i64 0, .string ⟨#[]⟩, .string ⟨#[]⟩, .slice An 0 cn, .slice As 0 cs] 48) := ⟨_, rfl⟩;have B0 : Below w'.heap.size w' wb := by rw [hwb]; exact below_new (Below.refl _ _) _
  have Y0 : wb.heap[w'.heap.size]? = some (.cells #[.int .i64 1, .string ⟨#[]⟩, .int .i64 0, .string ⟨#[]⟩, .string ⟨#[]⟩, .slice An 0 cn, .slice As 0 cs] 48 (0, 0)) := by rw [hwb]; exact heap_alloc_new w' _
  have hbb := below_over hb B0;have X0 := (hbb.block nb (Array.getElem?_eq_some_iff.1 hn).1).trans hn;have c0 := (hbb.cell (p := ⟨cb, 0, none⟩) (World.block_lt_of_cell? _ _ hc)).trans hc;obtain ⟨x0, x1, x2, x3, x4, x5, x6⟩ := cq7 X0;simp at x0 x1 x2 x3 x4 x5 x6;obtain ⟨y0, y1, y2, y3, y4, y5, y6⟩ := cq7 Y0;simp at y0 y1 y2 y3 y4 y5 y6;have HB0 := zH B0;have HWB := zH hwb;clear hwb B0 Y0 X0 hbb hb hn hc;go_enter Tryz.func148, Tryz.ntmps148
  go_upto_region 1 with fail
  rw [<- HWB.out];clear HWB;go_wp2_with fail
  refine (failsZ Ai ci Ae ne ce kb An cn As cs cd wb).mono ?_; rintro e w2 ⟨rfl, hb2⟩
  have HB2 := zH (below_over HB0.out hb2);clear hb2;go_wp2_with fail
  go_ret;exact ⟨rfl, HB2.out⟩
theorem ixFZ (Ai : Option Addr) (ci : Nat) (Ae : Option Addr) (ne ce kb : Nat) (An : Option Addr) (cn : Nat) (As : Option Addr) (cs : Nat) (nb cb b c : Nat) (cd : Int) (w : World) (hn : w.heap[nb]? = some (.cells #[.string ⟨#[109]⟩, .slice Ai 1 ci, .slice none 0 0, .string ⟨#[112]⟩, .int .i64 1, .slice Ae ne ce, .map (some kb)] 200 (0, 0))) (hc : w.cell? ⟨cb, 0, none⟩ = some (.int .i64 cd)) (hb : w.heap[b]? = some (.cells #[.int .i64 1, .string ⟨#[]⟩, .int .i64 0, .string ⟨#[]⟩, .string ⟨#[]⟩, .slice An 0 cn, .slice As 0 cs] 48 (0, 0))) :
    Calls Tryz.prog 185 #[.slice (some ⟨b, 0, none⟩) 1 c, .func (.func 148) #[] #[.pointer (some ⟨nb, 0, none⟩), .pointer (some ⟨cb, 0, none⟩)]] w fun e w' => e = .returned (.int .i64 (-1)) /\ Below w.heap.size w w' := by
  have EC := zH (exp1Z Ai ci Ae ne ce kb An cn As cs nb cb cd w hn hc);obtain ⟨y0, y1, y2, y3, y4, y5, y6⟩ := cq7 hb;simp at y0 y1 y2 y3 y4 y5 y6;clear hn hc hb;go_enter Tryz.func185, Tryz.ntmps185
  go_wp2_with fail
  go_loopw [8] (fun s wr => (s = .int .i64 0 /\ w = wr) \/ (s = .int .i64 1 /\ Hid (Below w.heap.size w wr))) (fun s _ => 1 - (intOf s).toNat)
  case atStart => exact .inl ⟨rfl, rfl⟩
  case round =>
    rcases hrel with ⟨rfl, rfl⟩ | ⟨rfl, HBr⟩
    · go_wp2_with fail
      refine (EC.out w (Below.refl _ _)).mono ?_; rintro e w4 ⟨rfl, hb4⟩
      have HB4 := zH hb4;clear hb4 y0 y1 y2 y3 y4 y5 y6;go_wp2_with fail
      go_roundw
      case rel => exact .inr ⟨by go_num, HB4⟩
      case measure => simp [intOf]
    · clear y0 y1 y2 y3 y4 y5 y6
      go_wp2_with fail
      go_ret;exact ⟨rfl, HBr.out⟩
theorem cfFZ (Ai : Option Addr) (ci : Nat) (Ae : Option Addr) (ne ce kb : Nat) (An : Option Addr) (cn : Nat) (As : Option Addr) (cs : Nat) (nb cb b c : Nat) (cd : Int) (w : World) (hn : w.heap[nb]? = some (.cells #[.string ⟨#[109]⟩, .slice Ai 1 ci, .slice none 0 0, .string ⟨#[112]⟩, .int .i64 1, .slice Ae ne ce, .map (some kb)] 200 (0, 0))) (hc : w.cell? ⟨cb, 0, none⟩ = some (.int .i64 cd)) (hb : w.heap[b]? = some (.cells #[.int .i64 1, .string ⟨#[]⟩, .int .i64 0, .string ⟨#[]⟩, .string ⟨#[]⟩, .slice An 0 cn, .slice As 0 cs] 48 (0, 0))) :
    Calls Tryz.prog 150 #[.slice (some ⟨b, 0, none⟩) 1 c, .func (.func 148) #[] #[.pointer (some ⟨nb, 0, none⟩), .pointer (some ⟨cb, 0, none⟩)]] w fun e w' => e = .returned (.bool false) /\ Below w.heap.size w w' := by
  have EC := zH (ixFZ Ai ci Ae ne ce kb An cn As cs nb cb b c cd w hn hc hb);clear hn hc hb;go_enter Tryz.func150, Tryz.ntmps150
  go_wp2_with fail
  refine EC.out.mono ?_; rintro e w2 ⟨rfl, hb2⟩
  have HB2 := zH hb2;clear hb2;go_wp2_with fail
  go_ret;exact ⟨rfl, HB2.out⟩
theorem int_at (An : Option Addr) (cn : Nat) (As : Option Addr) (cs : Nat) (w : World) : TyAt w [.int .i64 1, .string ⟨#[]⟩, .int .i64 0, .string ⟨#[]⟩, .string ⟨#[]⟩, .slice An 0 cn, .slice As 0 cs] (leafK 1) :=
 ty_made (t := leafK 1) (w := w) (An := An) (As := As) (cn := cn) (cs := cs) (by decide) (by decide) (by decide) (by decide) (by decide) (Nat.zero_le _) (fun i x h => by have h' : ([] : List ByteArray)[i]? = some x := h; simp at h') (fun i x h => by have h' : ([] : List Ty)[i]? = some x := h; simp at h')
theorem xpandZ (Ai : Option Addr) (ci : Nat) (Ae : Option Addr) (ne ce kb : Nat) (An : Option Addr) (cn : Nat) (As : Option Addr) (cs : Nat) (eb : Nat) (w : World) (he : w.heap[eb]? = some (.cells #[.string ⟨#[109]⟩, .slice Ai 1 ci, .slice none 0 0, .string ⟨#[112]⟩, .int .i64 1, .slice Ae ne ce, .map (some kb), .int .i64 0, .bool false] 205 (0, 0))) : Calls Tryz.prog 151 #[.pointer (some ⟨eb, 0, none⟩), .agg #[.int .i64 1, .string ⟨#[]⟩, .int .i64 0, .string ⟨#[]⟩, .string ⟨#[]⟩, .slice An 0 cn, .slice As 0 cs], .int .i64 1] w fun e w' => ∃ (A' : Option Addr) (c' : Nat), e = .returned (.agg #[.int .i64 1, .string ⟨#[]⟩, .int .i64 0, .string ⟨#[]⟩, .string ⟨#[]⟩, .slice An 0 cn, .slice A' 0 c']) /\ w'.heap[eb]? = some (.cells #[.string ⟨#[109]⟩, .slice Ai 1 ci, .slice none 0 0, .string ⟨#[112]⟩, .int .i64 1, .slice Ae ne ce, .map (some kb), .int .i64 1, .bool false] 205 (0, 0)) /\ Below eb w w' := by
 have hel : eb < w.heap.size := (Array.getElem?_eq_some_iff.1 he).1
 obtain ⟨W2, hW2, B2, O0, O1, hl2⟩ := two_boxes w #[.int .i64 1, .string ⟨#[]⟩, .int .i64 0, .string ⟨#[]⟩, .string ⟨#[]⟩, .slice An 0 cn, .slice As 0 cs] #[.int .i64 0, .string ⟨#[]⟩, .int .i64 0, .string ⟨#[]⟩, .string ⟨#[]⟩, .slice none 0 0, .slice none 0 0] 48 48
 have e2 : W2.heap[eb]? = some (.cells #[.string ⟨#[109]⟩, .slice Ai 1 ci, .slice none 0 0, .string ⟨#[112]⟩, .int .i64 1, .slice Ae ne ce, .map (some kb), .int .i64 0, .bool false] 205 (0, 0)) := (B2.block _ hel).trans he
 obtain ⟨W3, hW3⟩ : ∃ W3, W3 = W2.setCell ⟨eb, 7, none⟩ (.int .i64 1) := ⟨_, rfl⟩
 have e3 : W3.heap[eb]? = some (.cells #[.string ⟨#[109]⟩, .slice Ai 1 ci, .slice none 0 0, .string ⟨#[112]⟩, .int .i64 1, .slice Ae ne ce, .map (some kb), .int .i64 1, .bool false] 205 (0, 0)) := by rw [hW3]; exact Joins.block_setCell (i := 7) e2 (.int .i64 1)
 have ot3 : ∀ b, b ≠ eb -> W3.heap[b]? = W2.heap[b]? := fun b hb => by rw [hW3]; exact Below.heap_setCell _ _ _ _ hb
 have s3 : W3.heap.size = W2.heap.size := by rw [hW3]; simp
 obtain ⟨W4, hW4⟩ : ∃ W4, W4 = W3.setCell ⟨eb, 8, none⟩ (.bool false) := ⟨_, rfl⟩
 have e4 : W4.heap[eb]? = some (.cells #[.string ⟨#[109]⟩, .slice Ai 1 ci, .slice none 0 0, .string ⟨#[112]⟩, .int .i64 1, .slice Ae ne ce, .map (some kb), .int .i64 1, .bool false] 205 (0, 0)) := by rw [hW4]; exact Joins.block_setCell (i := 8) e3 (.bool false)
 have ot4 : ∀ b, b ≠ eb -> W4.heap[b]? = W3.heap[b]? := fun b hb => by rw [hW4]; exact Below.heap_setCell _ _ _ _ hb
 have s4 : W4.heap.size = W3.heap.size := by rw [hW4]; simp
 have HB4 : Hid (Below eb w W4) := zH (by rw [hW4, hW3]; exact ((B2.mono (show eb <= w.heap.size by omega)).setCell (p := ⟨eb, 7, none⟩) (Nat.le_refl _) _).setCell (p := ⟨eb, 8, none⟩) (Nat.le_refl _) _)
 have HO4 : Hid (W4.heap[w.heap.size]? = some (.cells #[.int .i64 1, .string ⟨#[]⟩, .int .i64 0, .string ⟨#[]⟩, .string ⟨#[]⟩, .slice An 0 cn, .slice As 0 cs] 48 (0, 0))) := zH (((ot4 _ (by omega)).trans (ot3 _ (by omega))).trans O0)
 have HC4 : Hid (W4.heap[w.heap.size + 1]? = some (.cells #[.int .i64 0, .string ⟨#[]⟩, .int .i64 0, .string ⟨#[]⟩, .string ⟨#[]⟩, .slice none 0 0, .slice none 0 0] 48 (0, 0))) := zH (((ot4 _ (by omega)).trans (ot3 _ (by omega))).trans O1)
 have CN := zH (cloneT_any W4 W4 As 0 cs [] rfl (by omega) (fun i x h => by simp at h) (Below.refl _ _))
 have HS4 : Hid (W4.heap.size = W2.heap.size) := zH (by omega)
 have HL := zH (show eb < w.heap.size /\ w.heap.size + 1 < W2.heap.size from ⟨hel, hl2⟩)
 have HE3 := zH e3
 have HE4 := zH e4
 have HW2 := zH hW2
 have HW3 := zH hW3
 have HW4 := zH hW4
 have y0 := cZ O0 0
 have m7 := cZ e2 7
 have g7 := Lib.frozen_of_heap e2 7
 simp at y0 m7
 have hwr : IntKind.i64.wrap (0 + 1) = 1 := by decide
 clear he hel hW2 B2 O0 O1 hl2 e2 hW3 e3 ot3 s3 hW4 e4 ot4 s4
 go_enter Tryz.func151, Tryz.ntmps151
 go_upto_region 1 with fail
 rw [<- HW2.out]
 clear HW2
 go_upto_region 4 with fail
 try simp only [hwr]
 rw [<- HW3.out]
 clear HW3 y0 m7 g7 hwr
 have z7 := cZ HE3.out 7
 have z8 := cZ HE3.out 8
 have f8 := Lib.frozen_of_heap HE3.out 8
 simp at z7 z8
 go_upto_region 5 with fail
 rw [<- HW4.out]
 clear HW4 z7 z8 f8 HE3
 have x8 := cZ HE4.out 8
 have x6 := cZ HO4.out 6
 simp at x8 x6
 go_wp2_with fail
 refine CN.out.mono ?_; rintro e w5 ⟨A', c', rfl, -, hb5, -⟩
 obtain ⟨hkl, hl2⟩ := HL.out
 have hs4 := HS4.out
 have O5 : w5.heap[w.heap.size]? = some (.cells #[.int .i64 1, .string ⟨#[]⟩, .int .i64 0, .string ⟨#[]⟩, .string ⟨#[]⟩, .slice An 0 cn, .slice As 0 cs] 48 (0, 0)) := (hb5.block _ (by omega)).trans HO4.out
 have y6 := cZ O5 6
 have g6 := Lib.frozen_of_heap O5 6
 simp at y6
 obtain ⟨W6, hW6⟩ : ∃ W6, W6 = w5.setCell ⟨w.heap.size, 6, none⟩ (.slice A' 0 c') := ⟨_, rfl⟩
 have ot6 : ∀ b, b ≠ w.heap.size -> W6.heap[b]? = w5.heap[b]? := fun b hb => by rw [hW6]; exact Below.heap_setCell _ _ _ _ hb
 have O6 : W6.heap[w.heap.size]? = some (.cells #[.int .i64 1, .string ⟨#[]⟩, .int .i64 0, .string ⟨#[]⟩, .string ⟨#[]⟩, .slice An 0 cn, .slice A' 0 c'] 48 (0, 0)) := by rw [hW6]; exact Joins.block_setCell (i := 6) O5 (.slice A' 0 c')
 have HO6 := zH O6
 have HC6 : Hid (W6.heap[w.heap.size + 1]? = some (.cells #[.int .i64 0, .string ⟨#[]⟩, .int .i64 0, .string ⟨#[]⟩, .string ⟨#[]⟩, .slice none 0 0, .slice none 0 0] 48 (0, 0))) := zH ((ot6 _ (by omega)).trans ((hb5.block _ (by omega)).trans HC4.out))
 have FIN : Hid ((W6.setRow (w.heap.size + 1) #[.int .i64 1, .string ⟨#[]⟩, .int .i64 0, .string ⟨#[]⟩, .string ⟨#[]⟩, .slice An 0 cn, .slice A' 0 c']).heap[eb]? = some (.cells #[.string ⟨#[109]⟩, .slice Ai 1 ci, .slice none 0 0, .string ⟨#[112]⟩, .int .i64 1, .slice Ae ne ce, .map (some kb), .int .i64 1, .bool false] 205 (0, 0)) /\ Below eb w (W6.setRow (w.heap.size + 1) #[.int .i64 1, .string ⟨#[]⟩, .int .i64 0, .string ⟨#[]⟩, .string ⟨#[]⟩, .slice An 0 cn, .slice A' 0 c'])) := zH (by
  have b6 : Below eb w W6 := by rw [hW6]; exact (HB4.out.trans (hb5.mono (by omega))).setCell (p := ⟨w.heap.size, 6, none⟩) (by show eb <= w.heap.size; omega) _
  refine ⟨(setRow_other _ _ _ _ (by omega)).trans ((ot6 _ (by omega)).trans ((hb5.block _ (by omega)).trans HE4.out)), ⟨b6.os, b6.tape, b6.output, by have := b6.size; simpa using this, fun j hj => (setRow_other _ _ _ _ (by omega)).trans (b6.block j hj)⟩⟩)
 have HW6 := zH hW6
 clear hW6 ot6 O6 O5 hb5 CN x8 x6 hkl hl2 hs4
 go_upto_region 8 with fail
 rw [<- HW6.out]
 clear HW6 y6 g6
 obtain ⟨y0, y1, y2, y3, y4, y5, y6⟩ := cq7 HO6.out
 simp at y0 y1 y2 y3 y4 y5 y6
 have X5 := HC6.out
 go_wp2_with fail
 go_loopw [59] (fun s wr => s = .int .i64 0 /\ W6 = wr) (fun _ _ => 0)
 case atStart => exact ⟨rfl, rfl⟩
 case round =>
  obtain ⟨rfl, rfl⟩ := hrel;go_wp2_with (first | (((with_reducible refine wpList_putRow 48 (w.heap.size + 1) #[.int .i64 1, .string ⟨#[]⟩, .int .i64 0, .string ⟨#[]⟩, .string ⟨#[]⟩, .slice An 0 cn, .slice A' 0 c'] _ _ X5 ?_ ?_ ?_ ?_ ?_ ?_); exact tySize; rfl; exact tyOne; iterate 2 (focus (first | (go_simp; done) | rfl)))))
  exact ret_agg1 (fn := Tryz.f151) (vs := [.int .i64 1, .string ⟨#[]⟩, .int .i64 0, .string ⟨#[]⟩, .string ⟨#[]⟩, .slice An 0 cn, .slice A' 0 c']) (b := w.heap.size + 1) rfl rfl Tryz.underlying48 (by kernel_rfl) (cell7 (setRow_heap W6 (w.heap.size + 1) _ _ _ _ HC6.out)) rfl ⟨A', c', rfl, FIN.out⟩
theorem expandZ (Ai : Option Addr) (ci : Nat) (Ae : Option Addr) (ne ce : Nat) (An : Option Addr) (cn : Nat) (As : Option Addr) (cs : Nat) (w : World) (hI : RowIn imR w Ai [exI11]) (hn : ne <= 100) : Calls Tryz.prog 103 #[.agg #[.string ⟨#[109]⟩, .slice Ai 1 ci, .slice none 0 0], .string ⟨#[112]⟩, .int .i64 1, .slice Ae ne ce, .agg #[.int .i64 1, .string ⟨#[]⟩, .int .i64 0, .string ⟨#[]⟩, .string ⟨#[]⟩, .slice An 0 cn, .slice As 0 cs]] w fun e w' => ∃ (Rn : Option Addr) (rn : Nat) (Rs : Option Addr) (rs : Nat), e = .returned (.tuple #[.agg #[.int .i64 1, .string ⟨#[]⟩, .int .i64 0, .string ⟨#[]⟩, .string ⟨#[]⟩, .slice Rn 0 rn, .slice Rs 0 rs], .nilIface]) /\ Below w.heap.size w w' := by
 have HI := zH hI
 have HN := zH hn
 obtain ⟨W2, hW2, B2, O0, O1, hl2⟩ := two_boxes w #[.string ⟨#[109]⟩, .slice Ai 1 ci, .slice none 0 0] #[.int .i64 1, .string ⟨#[]⟩, .int .i64 0, .string ⟨#[]⟩, .string ⟨#[]⟩, .slice An 0 cn, .slice As 0 cs] 113 48
 have s2 : W2.heap.size = w.heap.size + 1 + 1 := by rw [hW2]; simp
 obtain ⟨W3, hW3⟩ : ∃ W3, W3 = W2.alloc (.cells #[.int .i64 0, .string ⟨#[]⟩, .int .i64 0, .string ⟨#[]⟩, .string ⟨#[]⟩, .slice none 0 0, .slice none 0 0] 48) := ⟨_, rfl⟩
 have B3 : Below W2.heap.size W2 W3 := by rw [hW3]; exact below_new (Below.refl _ _) _
 have s3 : W3.heap.size = w.heap.size + 1 + 1 + 1 := by rw [hW3]; simp [s2]
 have O2 : W3.heap[w.heap.size + 1 + 1]? = some (.cells #[.int .i64 0, .string ⟨#[]⟩, .int .i64 0, .string ⟨#[]⟩, .string ⟨#[]⟩, .slice none 0 0, .slice none 0 0] 48 (0, 0)) := by rw [hW3, <- s2]; exact heap_alloc_new W2 _
 obtain ⟨W4, hW4⟩ : ∃ W4, W4 = W3.alloc (.map #[] 0) := ⟨_, rfl⟩
 have B4 : Below W3.heap.size W3 W4 := by rw [hW4]; exact below_new (Below.refl _ _) _
 have s4 : W4.heap.size = w.heap.size + 1 + 1 + 1 + 1 := by rw [hW4]; simp [s3]
 obtain ⟨W5, hW5⟩ : ∃ W5, W5 = W4.alloc (.cells #[.string ⟨#[109]⟩, .slice Ai 1 ci, .slice none 0 0, .string ⟨#[112]⟩, .int .i64 1, .slice Ae ne ce, .map (some (w.heap.size + 1 + 1 + 1))] 200) := ⟨_, rfl⟩
 have B5 : Below W4.heap.size W4 W5 := by rw [hW5]; exact below_new (Below.refl _ _) _
 have s5 : W5.heap.size = w.heap.size + 1 + 1 + 1 + 1 + 1 := by rw [hW5]; simp [s4]
 have N5 : W5.heap[w.heap.size + 1 + 1 + 1 + 1]? = some (.cells #[.string ⟨#[109]⟩, .slice Ai 1 ci, .slice none 0 0, .string ⟨#[112]⟩, .int .i64 1, .slice Ae ne ce, .map (some (w.heap.size + 1 + 1 + 1))] 200 (0, 0)) := by rw [hW5, <- s4]; exact heap_alloc_new W4 _
 have T5 : W5.heap[w.heap.size + 1]? = some (.cells #[.int .i64 1, .string ⟨#[]⟩, .int .i64 0, .string ⟨#[]⟩, .string ⟨#[]⟩, .slice An 0 cn, .slice As 0 cs] 48 (0, 0)) := (B5.block _ (by omega)).trans ((B4.block _ (by omega)).trans ((B3.block _ (by omega)).trans O1))
 have Z5 : W5.heap[w.heap.size + 1 + 1]? = some (.cells #[.int .i64 0, .string ⟨#[]⟩, .int .i64 0, .string ⟨#[]⟩, .string ⟨#[]⟩, .slice none 0 0, .slice none 0 0] 48 (0, 0)) := (B5.block _ (by omega)).trans ((B4.block _ (by omega)).trans O2)
 have HK : Hid (∀ wx, Below W5.heap.size W5 wx -> wx.heap[w.heap.size + 1 + 1 + 1 + 1]? = some (.cells #[.string ⟨#[109]⟩, .slice Ai 1 ci, .slice none 0 0, .string ⟨#[112]⟩, .int .i64 1, .slice Ae ne ce, .map (some (w.heap.size + 1 + 1 + 1))] 200 (0, 0)) /\ wx.heap[w.heap.size + 1]? = some (.cells #[.int .i64 1, .string ⟨#[]⟩, .int .i64 0, .string ⟨#[]⟩, .string ⟨#[]⟩, .slice An 0 cn, .slice As 0 cs] 48 (0, 0)) /\ wx.heap[w.heap.size + 1 + 1]? = some (.cells #[.int .i64 0, .string ⟨#[]⟩, .int .i64 0, .string ⟨#[]⟩, .string ⟨#[]⟩, .slice none 0 0, .slice none 0 0] 48 (0, 0)) /\ w.heap.size + 1 + 1 + 1 + 1 < wx.heap.size) := zH (fun wx hb => ⟨(hb.block _ (by omega)).trans N5, (hb.block _ (by omega)).trans T5, (hb.block _ (by omega)).trans Z5, by have := hb.size; omega⟩)
 have HB5 : Hid (Below w.heap.size w W5) := zH (below_over (below_over (below_over B2 B3) B4) B5)
 obtain ⟨m0, m1, m2⟩ := cq3 ((B3.block _ (by omega)).trans O0)
 simp at m0 m1 m2
 have HW2 := zH hW2
 have HW3 := zH hW3
 have HW4 := zH hW4
 have HW5 := zH hW5
 clear hW2 hW3 hW4 hW5 B2 B3 B4 B5 O0 O1 O2 N5 T5 Z5 s4 s5 hl2 hI hn
 go_enter Tryz.func103, Tryz.ntmps103
 go_upto_region 1 with fail
 rw [<- HW2.out, <- HW3.out]
 have hmm := @run_makeMap Tryz.prog
 go_upto_region 2 with fail
 clear hmm
 simp only [s2, s3, <- HW4.out, <- HW5.out]
 clear m0 m1 m2 HW2 HW3 HW4 HW5
 obtain ⟨N5, -, -, -⟩ := HK.out W5 (Below.refl _ _)
 obtain ⟨n0, n1, n2, n3, n4, n5, n6⟩ := cq7 N5
 simp at n0 n1 n2 n3 n4 n5 n6
 clear N5
 go_wp2_with fail
 refine (nmayZ Ai ci Ae ne ce (w.heap.size + 1 + 1 + 1) W5 (HI.out.below HB5.out) HN.out).mono ?_; rintro e w6 ⟨rfl, hb6⟩
 have HB6 := zH hb6
 obtain ⟨-, T6, -, -⟩ := HK.out w6 HB6.out
 clear hb6 n0 n1 n2 n3 n4 n5 n6
 obtain ⟨y0, y1, y2, y3, y4, y5, y6⟩ := cq7 T6
 simp at y0 y1 y2 y3 y4 y5 y6
 clear T6
 go_wp2_with fail
 refine (mayZ An cn As cs w6).mono ?_; rintro e w7 ⟨rfl, hb7⟩
 have HB7 := zH (below_over HB6.out hb7)
 obtain ⟨N7b, T7, -, -⟩ := HK.out w7 HB7.out
 clear hb7 y0 y1 y2 y3 y4 y5 y6
 obtain ⟨n0, n1, n2, n3, n4, n5, n6⟩ := cq7 N7b
 simp at n0 n1 n2 n3 n4 n5 n6
 obtain ⟨y0, y1, y2, y3, y4, y5, y6⟩ := cq7 T7
 simp at y0 y1 y2 y3 y4 y5 y6
 clear T7 N7b
 go_wp2_with fail
 refine (nallZ Ai ci Ae ne ce (w.heap.size + 1 + 1 + 1) An cn As cs w7 (HI.out.below (below_over HB5.out HB7.out))).mono ?_; rintro e w8 ⟨b8, c8, rfl, hx8, -, hb8⟩
 have HX8 := zH hx8
 have HL8 := zH (Array.getElem?_eq_some_iff.1 hx8).1
 have HB8 := zH (below_over HB7.out hb8)
 clear hb8 hx8 y0 y1 y2 y3 y4 y5 y6 n0 n1 n2 n3 n4 n5 n6
 go_upto_region 6 with fail
 go_loopw [39] (fun s39 wr => ∃ k : Nat, k <= 2 /\ s39 = .int .i64 k /\ Hid (Below w8.heap.size w8 wr)) (fun s39 _ => 2 - (intOf s39).toNat)
 case atStart => exact ⟨0, by omega, rfl, zH (Below.refl _ _)⟩
 case round =>
  obtain ⟨k, hk, rfl, HBo⟩ := hrel;obtain ⟨wo, rfl⟩ : ∃ wo : World, wo = wr := ⟨_, rfl⟩;by_cases hk0 : k = 0
  ·subst hk0
   clear hk;obtain ⟨wb, hwb⟩ : ∃ wb, wb = wo.alloc (.cells #[.int .i64 4] 31) := ⟨_, rfl⟩;have Bb : Below wo.heap.size wo wb := by rw [hwb]; exact below_new (Below.refl _ _) _
   have Cb : wb.heap[wo.heap.size]? = some (.cells #[.int .i64 4] 31 (0, 0)) := by rw [hwb]; exact heap_alloc_new wo _
   have HBb := zH (below_over HBo.out Bb);have CC := zH (cfFZ Ai ci Ae ne ce (w.heap.size + 1 + 1 + 1) An cn As cs (w.heap.size + 1 + 1 + 1 + 1) wo.heap.size b8 c8 4 wb (HK.out wb (below_over HB8.out HBb.out)).1 (by have := cZ Cb 0; simpa using this) ((HBb.out.block _ HL8.out).trans HX8.out));have hix : ∀ wz : World, (Instr.index 201 (.agg #[.int .i64 4, .int .i64 9]) (.int .i64 0)).run Tryz.prog wz = .ok (.int .i64 4) wz := fun _ => by kernel_rfl
   have HWb := zH hwb;clear hwb Bb Cb;go_upto_region 8 with fail
   clear hix;rw [<- HWb.out];clear HWb;go_wp2_with fail
   refine CC.out.mono ?_; rintro e w9 ⟨rfl, hb9⟩
   have HB9 := zH (below_over HBb.out hb9);clear CC hb9;go_wp2_with fail
   go_roundw
   case rel => exact ⟨1, by omega, by go_num, HB9⟩
   case measure => simp [intOf]
  by_cases hk1 : k = 1
  ·subst hk1
   clear hk hk0;obtain ⟨wb, hwb⟩ : ∃ wb, wb = wo.alloc (.cells #[.int .i64 9] 31) := ⟨_, rfl⟩;have Bb : Below wo.heap.size wo wb := by rw [hwb]; exact below_new (Below.refl _ _) _
   have Cb : wb.heap[wo.heap.size]? = some (.cells #[.int .i64 9] 31 (0, 0)) := by rw [hwb]; exact heap_alloc_new wo _
   have HBb := zH (below_over HBo.out Bb);have CC := zH (cfFZ Ai ci Ae ne ce (w.heap.size + 1 + 1 + 1) An cn As cs (w.heap.size + 1 + 1 + 1 + 1) wo.heap.size b8 c8 9 wb (HK.out wb (below_over HB8.out HBb.out)).1 (by have := cZ Cb 0; simpa using this) ((HBb.out.block _ HL8.out).trans HX8.out));have hix : ∀ wz : World, (Instr.index 201 (.agg #[.int .i64 4, .int .i64 9]) (.int .i64 1)).run Tryz.prog wz = .ok (.int .i64 9) wz := fun _ => by kernel_rfl
   have HWb := zH hwb;clear hwb Bb Cb;go_upto_region 8 with fail
   clear hix;rw [<- HWb.out];clear HWb;go_wp2_with fail
   refine CC.out.mono ?_; rintro e w9 ⟨rfl, hb9⟩
   have HB9 := zH (below_over HBb.out hb9);clear CC hb9;go_wp2_with fail
   go_roundw
   case rel => exact ⟨2, by omega, by go_num, HB9⟩
   case measure => simp [intOf]
  obtain rfl : k = 2 := by omega
  clear hk0 hk1 hk;have HB5o : Hid (Below W5.heap.size W5 wo) := zH (below_over HB8.out HBo.out);obtain ⟨No, To, -, hlo⟩ := HK.out wo HB5o.out;obtain ⟨we, hwe⟩ : ∃ we, we = wo.alloc (.cells #[.string ⟨#[109]⟩, .slice Ai 1 ci, .slice none 0 0, .string ⟨#[112]⟩, .int .i64 1, .slice Ae ne ce, .map (some (w.heap.size + 1 + 1 + 1)), .int .i64 0, .bool false] 205) := ⟨_, rfl⟩;have Be : Below wo.heap.size wo we := by rw [hwe]; exact below_new (Below.refl _ _) _
  have Ee : we.heap[wo.heap.size]? = some (.cells #[.string ⟨#[109]⟩, .slice Ai 1 ci, .slice none 0 0, .string ⟨#[112]⟩, .int .i64 1, .slice Ae ne ce, .map (some (w.heap.size + 1 + 1 + 1)), .int .i64 0, .bool false] 205 (0, 0)) := by rw [hwe]; exact heap_alloc_new wo _
  have se : we.heap.size = wo.heap.size + 1 := by rw [hwe]; simp
  have HSE := zH se;have HBe := zH Be;have HEe := zH Ee;have HWe := zH hwe;obtain ⟨n0, n1, n2, n3, n4, n5, n6⟩ := cq7 No;simp at n0 n1 n2 n3 n4 n5 n6;have Te := (Be.block _ (by omega)).trans To;obtain ⟨y0, y1, y2, y3, y4, y5, y6⟩ := cq7 Te;simp at y0 y1 y2 y3 y4 y5 y6;have HLO := zH hlo;clear No To Te hwe Be Ee se hlo;go_upto_region 13 with fail
  rw [<- HWe.out];clear HWe n0 n1 n2 n3 n4 n5 n6;go_wp2_with fail
  refine (xpandZ Ai ci Ae ne ce (w.heap.size + 1 + 1 + 1) An cn As cs wo.heap.size we HEe.out).mono ?_; rintro e w9 ⟨A', c', rfl, he9, hb9⟩
  have B9 : Hid (Below wo.heap.size wo w9) := zH (HBe.out.trans hb9);obtain ⟨w10, hw10⟩ : ∃ w10, w10 = w9.alloc (.cells #[.int .i64 1, .string ⟨#[]⟩, .int .i64 0, .string ⟨#[]⟩, .string ⟨#[]⟩, .slice An 0 cn, .slice A' 0 c'] 48) := ⟨_, rfl⟩;have B10 : Below w9.heap.size w9 w10 := by rw [hw10]; exact below_new (Below.refl _ _) _
  have Y10 : w10.heap[w9.heap.size]? = some (.cells #[.int .i64 1, .string ⟨#[]⟩, .int .i64 0, .string ⟨#[]⟩, .string ⟨#[]⟩, .slice An 0 cn, .slice A' 0 c'] 48 (0, 0)) := by rw [hw10]; exact heap_alloc_new w9 _
  have E10 := (B10.block _ (Array.getElem?_eq_some_iff.1 he9).1).trans he9;have x8 := cZ E10 8;simp at x8;obtain ⟨z0, z1, z2, z3, z4, z5, z6⟩ := cq7 Y10;simp at z0 z1 z2 z3 z4 z5 z6;have HB10 : Hid (Below W5.heap.size W5 w10) := zH (below_over HB5o.out (below_over B9.out B10));have HW10 := zH hw10;have CF := zH (fresh_any (leafK 1) (by decide) (by unfold leafK fitT fitL; exact ⟨⟨by decide, by decide, by decide, by decide, fun s h => by cases h⟩, trivial⟩) _ w10 (int_at An cn A' c' w10));clear hw10 B10 Y10 E10 he9 hb9 y0 y1 y2 y3 y4 y5 y6;go_upto_region 14 with fail
  rw [<- HW10.out];clear HW10;go_wp2_with fail
  refine CF.out.mono ?_; rintro e w11 ⟨l11, rfl, hT11, hb11⟩
  obtain ⟨Rn, rn, Rs, rs, rfl, -⟩ := hT11.parts;have HB11 := zH (below_over HB10.out hb11);obtain ⟨-, -, Z11, hl11⟩ := HK.out w11 HB11.out;have HZ11 := zH Z11;have FIN : Hid (Below w.heap.size w (w11.setRow (w.heap.size + 1 + 1) #[.int .i64 1, .string ⟨#[]⟩, .int .i64 0, .string ⟨#[]⟩, .string ⟨#[]⟩, .slice Rn 0 rn, .slice Rs 0 rs])) := zH (setRow_below (below_over HB5.out HB11.out) (by omega) _);clear hT11 hb11 CF z0 z1 z2 z3 z4 z5 z6 x8 hl11;go_wp2_with (first | (((with_reducible refine wpList_putRow 48 (w.heap.size + 1 + 1) #[.int .i64 1, .string ⟨#[]⟩, .int .i64 0, .string ⟨#[]⟩, .string ⟨#[]⟩, .slice Rn 0 rn, .slice Rs 0 rs] _ _ Z11 ?_ ?_ ?_ ?_ ?_ ?_); exact tySize; rfl; exact tyOne; iterate 2 (focus (first | (go_simp; done) | rfl)))))
  exact ret_agg (fn := Tryz.f103) (vs := [.int .i64 1, .string ⟨#[]⟩, .int .i64 0, .string ⟨#[]⟩, .string ⟨#[]⟩, .slice Rn 0 rn, .slice Rs 0 rs]) (b := w.heap.size + 1 + 1) rfl rfl rfl Tryz.underlying48 (by kernel_rfl) (cell7 (setRow_heap w11 (w.heap.size + 1 + 1) _ _ _ _ HZ11.out)) rfl ⟨Rn, rn, Rs, rs, rfl, FIN.out⟩
end Go.Proofs.YtddlmigofilejaaGreatDoor
