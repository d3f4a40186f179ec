/-
  Several texts in one.
-/
import Derived.Test.YtddlmigofilejaaGreatDoorK27
set_option maxRecDepth 100000
set_option maxHeartbeats 4000000
namespace Go.Proofs.YtddlmigofilejaaGreatDoor
open Go Go.RowKit Go.Shelf
open Go.Sort Go.Maps
open M
theorem fZ_small : smallB (⟨#[102]⟩ : ByteArray).data.toList = true := by decide +kernel
theorem mayNameZ (An : Option Addr) (cn : Nat) (As : Option Addr) (cs : Nat) (w : World) : Calls Tryz.prog 97 #[.agg #[.int .i64 1, .string ⟨#[109]⟩, .string ⟨#[102]⟩, .int .i64 1, .string ⟨#[]⟩, .int .i64 0, .string ⟨#[]⟩, .string ⟨#[]⟩, .slice An 0 cn, .slice As 0 cs]] w fun e w' => e = .returned (.bool true) /\ Below w.heap.size w w' := by
 obtain ⟨wb, hwb⟩ : ∃ wb, wb = w.alloc (.cells #[.int .i64 1, .string ⟨#[109]⟩, .string ⟨#[102]⟩, .int .i64 1, .string ⟨#[]⟩, .int .i64 0, .string ⟨#[]⟩, .string ⟨#[]⟩, .slice An 0 cn, .slice As 0 cs] 59) := ⟨_, rfl⟩
 have B0 : Below w.heap.size w wb := by rw [hwb]; exact below_new (Below.refl _ _) _
 have X0 : wb.heap[w.heap.size]? = some (.cells #[.int .i64 1, .string ⟨#[109]⟩, .string ⟨#[102]⟩, .int .i64 1, .string ⟨#[]⟩, .int .i64 0, .string ⟨#[]⟩, .string ⟨#[]⟩, .slice An 0 cn, .slice As 0 cs] 59 (0, 0)) := by rw [hwb]; exact heap_alloc_new w _
 have HX0 := zH (fun wx (hb : Below wb.heap.size wb wx) => (hb.block w.heap.size (Array.getElem?_eq_some_iff.1 X0).1).trans X0)
 obtain ⟨x0, x1, x2, x3, x4, x5, x6, x7, x8⟩ := cq9 X0
 have x9 := cZ X0 9
 simp at x0 x1 x2 x3 x4 x5 x6 x7 x8 x9
 have HB0 := zH B0
 have HWB := zH hwb
 clear hwb B0 X0
 go_enter Tryz.func97, Tryz.ntmps97
 go_upto_region 1 with fail
 rw [<- HWB.out]
 clear HWB
 go_wp2_with fail
 refine (csmall_b _ wb (by decide)).mono ?_; rintro e w2 ⟨rfl, hb2⟩
 have HB2 := zH (hb2)
 clear hb2
 rw [fZ_small]
 go_wp2_with fail
 go_ret
 exact ⟨rfl, below_over HB0.out HB2.out⟩
theorem mayNotZ (An : Option Addr) (cn : Nat) (As : Option Addr) (cs : Nat) (w : World) : Calls Tryz.prog 59 #[.agg #[.int .i64 1, .string ⟨#[109]⟩, .string ⟨#[102]⟩, .int .i64 1, .string ⟨#[]⟩, .int .i64 0, .string ⟨#[]⟩, .string ⟨#[]⟩, .slice An 0 cn, .slice As 0 cs]] w fun e w' => e = .returned (.bool false) /\ Below w.heap.size w w' := by
 obtain ⟨wb, hwb⟩ : ∃ wb, wb = w.alloc (.cells #[.int .i64 1, .string ⟨#[109]⟩, .string ⟨#[102]⟩, .int .i64 1, .string ⟨#[]⟩, .int .i64 0, .string ⟨#[]⟩, .string ⟨#[]⟩, .slice An 0 cn, .slice As 0 cs] 59) := ⟨_, rfl⟩
 have B0 : Below w.heap.size w wb := by rw [hwb]; exact below_new (Below.refl _ _) _
 have X0 : wb.heap[w.heap.size]? = some (.cells #[.int .i64 1, .string ⟨#[109]⟩, .string ⟨#[102]⟩, .int .i64 1, .string ⟨#[]⟩, .int .i64 0, .string ⟨#[]⟩, .string ⟨#[]⟩, .slice An 0 cn, .slice As 0 cs] 59 (0, 0)) := by rw [hwb]; exact heap_alloc_new w _
 have HX0 := zH (fun wx (hb : Below wb.heap.size wb wx) => (hb.block w.heap.size (Array.getElem?_eq_some_iff.1 X0).1).trans X0)
 obtain ⟨x0, x1, x2, x3, x4, x5, x6, x7, x8⟩ := cq9 X0
 have x9 := cZ X0 9
 simp at x0 x1 x2 x3 x4 x5 x6 x7 x8 x9
 have HB0 := zH B0
 have HWB := zH hwb
 clear hwb B0 X0
 go_enter Tryz.func59, Tryz.ntmps59
 go_upto_region 1 with fail
 rw [<- HWB.out]
 clear HWB
 go_wp2_with fail
 refine (mayNameZ An cn As cs wb).mono ?_; rintro e w2 ⟨rfl, hb2⟩
 have HB2 := zH (hb2)
 clear hb2
 clear x0 x1 x2 x3 x4 x5 x6 x7 x8 x9
 obtain ⟨x0, x1, x2, x3, x4, x5, x6, x7, x8⟩ := cq9 (HX0.out w2 HB2.out)
 have x9 := cZ (HX0.out w2 HB2.out) 9
 simp at x0 x1 x2 x3 x4 x5 x6 x7 x8 x9
 go_wp2_with fail
 refine (csmall_b _ w2 (by decide)).mono ?_; rintro e w3 ⟨rfl, hb3⟩
 have HB3 := zH (below_over HB2.out hb3)
 clear hb3
 rw [m_small]
 clear x0 x1 x2 x3 x4 x5 x6 x7 x8 x9
 obtain ⟨x0, x1, x2, x3, x4, x5, x6, x7, x8⟩ := cq9 (HX0.out w3 HB3.out)
 have x9 := cZ (HX0.out w3 HB3.out) 9
 simp at x0 x1 x2 x3 x4 x5 x6 x7 x8 x9
 go_wp2_with fail
 refine (mayZ An cn As cs w3).mono ?_; rintro e w4 ⟨rfl, hb4⟩
 have HB4 := zH (below_over HB3.out hb4)
 clear hb4
 clear x0 x1 x2 x3 x4 x5 x6 x7 x8 x9
 go_wp2_with fail
 go_ret
 exact ⟨rfl, below_over HB0.out HB4.out⟩
theorem ixLZ (An : Option Addr) (cn : Nat) (As : Option Addr) (cs : Nat) (lg lo cl : Nat) (w : World) (l0 : w.cell? ⟨lg, lo, none⟩ = some (.int .i64 1)) (l1 : w.cell? ⟨lg, lo + 1, none⟩ = some (.string ⟨#[109]⟩)) (l2 : w.cell? ⟨lg, lo + 2, none⟩ = some (.string ⟨#[102]⟩)) (l3 : w.cell? ⟨lg, lo + 3, none⟩ = some (.int .i64 1)) (l4 : w.cell? ⟨lg, lo + 4, none⟩ = some (.string ⟨#[]⟩)) (l5 : w.cell? ⟨lg, lo + 5, none⟩ = some (.int .i64 0)) (l6 : w.cell? ⟨lg, lo + 6, none⟩ = some (.string ⟨#[]⟩)) (l7 : w.cell? ⟨lg, lo + 7, none⟩ = some (.string ⟨#[]⟩)) (l8 : w.cell? ⟨lg, lo + 8, none⟩ = some (.slice An 0 cn)) (l9 : w.cell? ⟨lg, lo + 9, none⟩ = some (.slice As 0 cs)) : Calls Tryz.prog 96 #[.slice (some ⟨lg, lo, none⟩) 1 cl, .func (.func 59) #[] #[]] w fun e w' => e = .returned (.int .i64 (-1)) /\ Below w.heap.size w w' := by
 go_enter Tryz.func96, Tryz.ntmps96
 go_wp2_with fail
 go_loopw [8] (fun s wr => (s = .int .i64 0 /\ w = wr) \/ (s = .int .i64 1 /\ Hid (Below w.heap.size w wr))) (fun s _ => 1 - (intOf s).toNat)
 case atStart => exact .inl ⟨rfl, rfl⟩
 case round =>
  rcases hrel with ⟨rfl, rfl⟩ | ⟨rfl, HBr⟩
  ·go_wp2_with fail
   refine (mayNotZ An cn As cs w).mono ?_; rintro e w4 ⟨rfl, hb4⟩
   have HB4 := zH hb4;clear hb4 l0 l1 l2 l3 l4 l5 l6 l7 l8 l9;go_wp2_with fail
   go_roundw
   case rel => exact .inr ⟨by go_num, HB4⟩
   case measure => simp [intOf]
  ·clear l0 l1 l2 l3 l4 l5 l6 l7 l8 l9
   go_wp2_with fail
   go_ret;exact ⟨rfl, HBr.out⟩
theorem cfLZ (An : Option Addr) (cn : Nat) (As : Option Addr) (cs : Nat) (lg lo cl : Nat) (w : World) (l0 : w.cell? ⟨lg, lo, none⟩ = some (.int .i64 1)) (l1 : w.cell? ⟨lg, lo + 1, none⟩ = some (.string ⟨#[109]⟩)) (l2 : w.cell? ⟨lg, lo + 2, none⟩ = some (.string ⟨#[102]⟩)) (l3 : w.cell? ⟨lg, lo + 3, none⟩ = some (.int .i64 1)) (l4 : w.cell? ⟨lg, lo + 4, none⟩ = some (.string ⟨#[]⟩)) (l5 : w.cell? ⟨lg, lo + 5, none⟩ = some (.int .i64 0)) (l6 : w.cell? ⟨lg, lo + 6, none⟩ = some (.string ⟨#[]⟩)) (l7 : w.cell? ⟨lg, lo + 7, none⟩ = some (.string ⟨#[]⟩)) (l8 : w.cell? ⟨lg, lo + 8, none⟩ = some (.slice An 0 cn)) (l9 : w.cell? ⟨lg, lo + 9, none⟩ = some (.slice As 0 cs)) : Calls Tryz.prog 58 #[.slice (some ⟨lg, lo, none⟩) 1 cl, .func (.func 59) #[] #[]] w fun e w' => e = .returned (.bool false) /\ Below w.heap.size w w' := by
 have IX := zH (ixLZ An cn As cs lg lo cl w l0 l1 l2 l3 l4 l5 l6 l7 l8 l9)
 clear l0 l1 l2 l3 l4 l5 l6 l7 l8 l9
 go_enter Tryz.func58, Tryz.ntmps58
 go_wp2_with fail
 refine IX.out.mono ?_; rintro e w2 ⟨rfl, hb2⟩
 have HB2 := zH hb2
 clear hb2
 go_wp2_with fail
 go_ret
 exact ⟨rfl, HB2.out⟩
theorem umayZ (Ai : Option Addr) (ci : Nat) (An : Option Addr) (cn : Nat) (As : Option Addr) (cs : Nat) (lg lo cl : Nat) (w : World) (hI : RowIn imR w Ai [exI11]) (l0 : w.cell? ⟨lg, lo, none⟩ = some (.int .i64 1)) (l1 : w.cell? ⟨lg, lo + 1, none⟩ = some (.string ⟨#[109]⟩)) (l2 : w.cell? ⟨lg, lo + 2, none⟩ = some (.string ⟨#[102]⟩)) (l3 : w.cell? ⟨lg, lo + 3, none⟩ = some (.int .i64 1)) (l4 : w.cell? ⟨lg, lo + 4, none⟩ = some (.string ⟨#[]⟩)) (l5 : w.cell? ⟨lg, lo + 5, none⟩ = some (.int .i64 0)) (l6 : w.cell? ⟨lg, lo + 6, none⟩ = some (.string ⟨#[]⟩)) (l7 : w.cell? ⟨lg, lo + 7, none⟩ = some (.string ⟨#[]⟩)) (l8 : w.cell? ⟨lg, lo + 8, none⟩ = some (.slice An 0 cn)) (l9 : w.cell? ⟨lg, lo + 9, none⟩ = some (.slice As 0 cs)) : Calls Tryz.prog 29 #[.agg #[.slice Ai 1 ci, .slice (some ⟨lg, lo, none⟩) 1 cl]] w fun e w' => e = .returned (.bool true) /\ Below w.heap.size w w' := by
 obtain ⟨wb, hwb⟩ : ∃ wb, wb = w.alloc (.cells #[.slice Ai 1 ci, .slice (some ⟨lg, lo, none⟩) 1 cl] 26) := ⟨_, rfl⟩
 have B0 : Below w.heap.size w wb := by rw [hwb]; exact below_new (Below.refl _ _) _
 have X0 : wb.heap[w.heap.size]? = some (.cells #[.slice Ai 1 ci, .slice (some ⟨lg, lo, none⟩) 1 cl] 26 (0, 0)) := by rw [hwb]; exact heap_alloc_new w _
 have HX0 := zH (fun wx (hb : Below wb.heap.size wb wx) => (hb.block w.heap.size (Array.getElem?_eq_some_iff.1 X0).1).trans X0)
 obtain ⟨x0, x1⟩ := cq2 X0
 simp at x0 x1
 have HB0 := zH B0
 have HWB := zH hwb
 have IMC : Hid (∀ wx, Below w.heap.size w wx -> Calls Tryz.prog 57 #[.slice Ai 1 ci] wx fun e w' => e = .returned (.bool true) /\ Below wx.heap.size wx w') := zH (fun wx hb => by
  have h := cmayI_any Ai ci 1 [exI11] wx rfl (by decide) (hI.below hb);rw [exMZ_may] at h;exact h)
 have CFC := zH (fun wx (hb : Below w.heap.size w wx) => cfLZ An cn As cs lg lo cl wx ((hb.cell (p := ⟨lg, lo, none⟩) (World.block_lt_of_cell? _ _ l0)).trans l0) ((hb.cell (p := ⟨lg, lo + 1, none⟩) (World.block_lt_of_cell? _ _ l1)).trans l1) ((hb.cell (p := ⟨lg, lo + 2, none⟩) (World.block_lt_of_cell? _ _ l2)).trans l2) ((hb.cell (p := ⟨lg, lo + 3, none⟩) (World.block_lt_of_cell? _ _ l3)).trans l3) ((hb.cell (p := ⟨lg, lo + 4, none⟩) (World.block_lt_of_cell? _ _ l4)).trans l4) ((hb.cell (p := ⟨lg, lo + 5, none⟩) (World.block_lt_of_cell? _ _ l5)).trans l5) ((hb.cell (p := ⟨lg, lo + 6, none⟩) (World.block_lt_of_cell? _ _ l6)).trans l6) ((hb.cell (p := ⟨lg, lo + 7, none⟩) (World.block_lt_of_cell? _ _ l7)).trans l7) ((hb.cell (p := ⟨lg, lo + 8, none⟩) (World.block_lt_of_cell? _ _ l8)).trans l8) ((hb.cell (p := ⟨lg, lo + 9, none⟩) (World.block_lt_of_cell? _ _ l9)).trans l9))
 clear hI l0 l1 l2 l3 l4 l5 l6 l7 l8 l9
 clear hwb B0 X0
 go_enter Tryz.func29, Tryz.ntmps29
 go_upto_region 1 with fail
 rw [<- HWB.out]
 clear HWB
 go_wp2_with fail
 refine (IMC.out wb HB0.out).mono ?_; rintro e w2 ⟨rfl, hb2⟩
 have HB2 := zH (hb2)
 clear hb2
 clear x0 x1
 obtain ⟨x0, x1⟩ := cq2 (HX0.out w2 HB2.out)
 simp at x0 x1
 go_wp2_with fail
 refine (CFC.out w2 (below_over HB0.out HB2.out)).mono ?_; rintro e w3 ⟨rfl, hb3⟩
 have HB3 := zH (below_over HB2.out hb3)
 clear hb3
 clear x0 x1
 go_wp2_with fail
 go_ret
 exact ⟨rfl, below_over HB0.out HB3.out⟩
theorem comesZ (Ai : Option Addr) (ci : Nat) (Ae : Option Addr) (ne ce : Nat) (An : Option Addr) (cn : Nat) (As : Option Addr) (cs : Nat) (w : World) (hI : RowIn imR w Ai [exI11]) (hn : ne <= 100) : Calls Tryz.prog 63 #[.agg #[.int .i64 1, .string ⟨#[]⟩, .int .i64 0, .string ⟨#[]⟩, .string ⟨#[]⟩, .slice An 0 cn, .slice As 0 cs], .slice Ai 1 ci, .slice Ae ne ce] w fun e w' => ∃ (Rn : Option Addr) (rn : Nat) (Rs : Option Addr) (rs : Nat), e = .returned (.tuple #[.agg #[.int .i64 1, .string ⟨#[]⟩, .int .i64 0, .string ⟨#[]⟩, .string ⟨#[]⟩, .slice Rn 0 rn, .slice Rs 0 rs], .nilIface]) /\ Below w.heap.size w w' := by
 obtain ⟨W2, hW2, B2, O0, O1, hl2⟩ := two_boxes w #[.int .i64 1, .string ⟨#[]⟩, .int .i64 0, .string ⟨#[]⟩, .string ⟨#[]⟩, .slice An 0 cn, .slice As 0 cs] #[.int .i64 0, .string ⟨#[]⟩, .int .i64 0, .string ⟨#[]⟩, .string ⟨#[]⟩, .slice none 0 0, .slice none 0 0] 48 48
 have EX := zH (expandZ Ai ci Ae ne ce An cn As cs W2 (hI.below B2) hn)
 obtain ⟨x0, x1, x2, x3, x4, x5, x6⟩ := cq7 O0
 simp at x0 x1 x2 x3 x4 x5 x6
 have HB2 := zH B2
 have HO1 := zH O1
 have HW := zH hW2
 clear hI hn hW2 B2 O0 O1
 go_enter Tryz.func63, Tryz.ntmps63
 go_upto_region 1 with fail
 rw [<- HW.out]
 clear HW
 go_wp2_with fail
 refine EX.out.mono ?_; rintro e w3 ⟨Rn, rn, Rs, rs, rfl, hb3⟩
 have X5 := (hb3.block _ hl2).trans HO1.out
 have HX5 := zH X5
 have FIN : Hid (Below w.heap.size w (w3.setRow (w.heap.size + 1) #[.int .i64 1, .string ⟨#[]⟩, .int .i64 0, .string ⟨#[]⟩, .string ⟨#[]⟩, .slice Rn 0 rn, .slice Rs 0 rs])) := zH (setRow_below (below_over HB2.out hb3) (by omega) _)
 clear hb3 EX x0 x1 x2 x3 x4 x5 x6
 go_wp2_with (first | (((with_reducible refine wpList_putRow 48 (w.heap.size + 1) #[.int .i64 1, .string ⟨#[]⟩, .int .i64 0, .string ⟨#[]⟩, .string ⟨#[]⟩, .slice Rn 0 rn, .slice Rs 0 rs] _ _ X5 ?_ ?_ ?_ ?_ ?_ ?_); exact tySize; rfl; exact tyOne; iterate 2 (focus (first | (go_simp; done) | rfl)))))
 exact ret_agg (fn := Tryz.f63) (vs := [.int .i64 1, .string ⟨#[]⟩, .int .i64 0, .string ⟨#[]⟩, .string ⟨#[]⟩, .slice Rn 0 rn, .slice Rs 0 rs]) (b := w.heap.size + 1) rfl rfl rfl Tryz.underlying48 (by kernel_rfl) (cell7 (setRow_heap w3 (w.heap.size + 1) _ _ _ _ HX5.out)) rfl ⟨Rn, rn, Rs, rs, rfl, FIN.out⟩
theorem namedZ (vb : Nat) (An : Option Addr) (cn : Nat) (As : Option Addr) (cs : Nat) (w : World) (hv : w.heap[vb]? = some (.cells #[.string ⟨#[102]⟩, .int .i64 1, .string ⟨#[]⟩, .int .i64 0, .string ⟨#[]⟩, .string ⟨#[]⟩, .slice none 0 0, .slice none 0 0] 50 (0, 0))) : Calls Tryz.prog 65 #[.agg #[.string ⟨#[112]⟩, .int .i64 1, .string ⟨#[109]⟩, .slice none 0 0, .slice (some ⟨vb, 0, none⟩) 1 1], .agg #[.int .i64 1, .string ⟨#[109]⟩, .string ⟨#[102]⟩, .int .i64 1, .string ⟨#[]⟩, .int .i64 0, .string ⟨#[]⟩, .string ⟨#[]⟩, .slice An 0 cn, .slice As 0 cs]] w fun e w' => e = .returned (.tuple #[.agg #[.int .i64 1, .string ⟨#[]⟩, .int .i64 0, .string ⟨#[]⟩, .string ⟨#[]⟩, .slice none 0 0, .slice none 0 0], .bool true]) /\ Below w.heap.size w w' := by
 obtain ⟨W2, hW2, B2, O0, O1, hl2⟩ := two_boxes w #[.string ⟨#[112]⟩, .int .i64 1, .string ⟨#[109]⟩, .slice none 0 0, .slice (some ⟨vb, 0, none⟩) 1 1] #[.int .i64 1, .string ⟨#[109]⟩, .string ⟨#[102]⟩, .int .i64 1, .string ⟨#[]⟩, .int .i64 0, .string ⟨#[]⟩, .string ⟨#[]⟩, .slice An 0 cn, .slice As 0 cs] 53 59
 have s2 : W2.heap.size = w.heap.size + 1 + 1 := by rw [hW2]; simp
 obtain ⟨W3, hW3⟩ : ∃ W3, W3 = W2.alloc (.cells #[.int .i64 0, .string ⟨#[]⟩, .int .i64 0, .string ⟨#[]⟩, .string ⟨#[]⟩, .slice none 0 0, .slice none 0 0] 48) := ⟨_, rfl⟩
 have B3 : Below W2.heap.size W2 W3 := by rw [hW3]; exact below_new (Below.refl _ _) _
 have O2 : W3.heap[w.heap.size + 1 + 1]? = some (.cells #[.int .i64 0, .string ⟨#[]⟩, .int .i64 0, .string ⟨#[]⟩, .string ⟨#[]⟩, .slice none 0 0, .slice none 0 0] 48 (0, 0)) := by rw [hW3, <- s2]; exact heap_alloc_new W2 _
 have X1 := (B3.block _ (by omega)).trans O0
 have X2 := (B3.block _ (by omega)).trans O1
 have x4 := cZ X1 4
 have y0 := cZ X2 0
 have y2 := cZ X2 2
 simp at x4 y0 y2
 have hl3 := (Array.getElem?_eq_some_iff.1 O2).1
 have HB3 := zH (below_over B2 B3)
 have V3 := (HB3.out.block vb (Array.getElem?_eq_some_iff.1 hv).1).trans hv
 obtain ⟨h0, h1, h2, h3, h4, h5, h6, h7⟩ := cq8 V3
 simp at h0 h1 h2 h3 h4 h5 h6 h7
 have IX := zH (lkC vb 0 1 W3 h0 h1 h2 h3 h4 h5 h6 h7)
 have HO2 := zH O2
 have HW2 := zH hW2
 have HW3 := zH hW3
 clear hW2 hW3 B2 B3 O0 O1 O2 X1 X2 hv V3 h0 h1 h2 h3 h4 h5 h6 h7
 go_enter Tryz.func65, Tryz.ntmps65
 go_upto_region 1 with fail
 rw [<- HW2.out, <- HW3.out]
 try simp only [s2]
 clear HW2 HW3
 go_wp2_with fail
 refine IX.out.mono ?_; rintro e w2 ⟨rfl, hb2⟩
 have X5 := (hb2.block _ hl3).trans HO2.out
 have HX5 := zH X5
 have FIN : Hid (Below w.heap.size w (w2.setRow (w.heap.size + 1 + 1) #[.int .i64 1, .string ⟨#[]⟩, .int .i64 0, .string ⟨#[]⟩, .string ⟨#[]⟩, .slice none 0 0, .slice none 0 0])) := zH (setRow_below (below_over HB3.out hb2) (by omega) _)
 clear hb2 IX x4 y0 y2
 go_wp2_with (first | (((with_reducible refine wpList_putRow 48 (w.heap.size + 1 + 1) #[.int .i64 1, .string ⟨#[]⟩, .int .i64 0, .string ⟨#[]⟩, .string ⟨#[]⟩, .slice none 0 0, .slice none 0 0] _ _ X5 ?_ ?_ ?_ ?_ ?_ ?_); exact tySize; rfl; exact tyOne; iterate 2 (focus (first | (go_simp; done) | rfl)))))
 exact ret_agg (fn := Tryz.f65) (vs := [.int .i64 1, .string ⟨#[]⟩, .int .i64 0, .string ⟨#[]⟩, .string ⟨#[]⟩, .slice none 0 0, .slice none 0 0]) (b := w.heap.size + 1 + 1) rfl rfl rfl Tryz.underlying48 (by kernel_rfl) (cell7 (setRow_heap w2 (w.heap.size + 1 + 1) _ _ _ _ HX5.out)) rfl ⟨rfl, FIN.out⟩
theorem namedZ0 (An : Option Addr) (cn : Nat) (As : Option Addr) (cs : Nat) (w : World)  : Calls Tryz.prog 65 #[.agg #[.string ⟨#[]⟩, .int .i64 0, .string ⟨#[]⟩, .slice none 0 0, .slice none 0 0], .agg #[.int .i64 1, .string ⟨#[109]⟩, .string ⟨#[102]⟩, .int .i64 1, .string ⟨#[]⟩, .int .i64 0, .string ⟨#[]⟩, .string ⟨#[]⟩, .slice An 0 cn, .slice As 0 cs]] w fun e w' => e = .returned (.tuple #[.agg #[.int .i64 0, .string ⟨#[]⟩, .int .i64 0, .string ⟨#[]⟩, .string ⟨#[]⟩, .slice none 0 0, .slice none 0 0], .bool false]) /\ Below w.heap.size w w' := by
 obtain ⟨W2, hW2, B2, O0, O1, hl2⟩ := two_boxes w #[.string ⟨#[]⟩, .int .i64 0, .string ⟨#[]⟩, .slice none 0 0, .slice none 0 0] #[.int .i64 1, .string ⟨#[109]⟩, .string ⟨#[102]⟩, .int .i64 1, .string ⟨#[]⟩, .int .i64 0, .string ⟨#[]⟩, .string ⟨#[]⟩, .slice An 0 cn, .slice As 0 cs] 53 59
 have s2 : W2.heap.size = w.heap.size + 1 + 1 := by rw [hW2]; simp
 obtain ⟨W3, hW3⟩ : ∃ W3, W3 = W2.alloc (.cells #[.int .i64 0, .string ⟨#[]⟩, .int .i64 0, .string ⟨#[]⟩, .string ⟨#[]⟩, .slice none 0 0, .slice none 0 0] 48) := ⟨_, rfl⟩
 have B3 : Below W2.heap.size W2 W3 := by rw [hW3]; exact below_new (Below.refl _ _) _
 have O2 : W3.heap[w.heap.size + 1 + 1]? = some (.cells #[.int .i64 0, .string ⟨#[]⟩, .int .i64 0, .string ⟨#[]⟩, .string ⟨#[]⟩, .slice none 0 0, .slice none 0 0] 48 (0, 0)) := by rw [hW3, <- s2]; exact heap_alloc_new W2 _
 have X1 := (B3.block _ (by omega)).trans O0
 have X2 := (B3.block _ (by omega)).trans O1
 have x4 := cZ X1 4
 have y0 := cZ X2 0
 have y2 := cZ X2 2
 simp at x4 y0 y2
 have hl3 := (Array.getElem?_eq_some_iff.1 O2).1
 have HB3 := zH (below_over B2 B3)
 have IX := zH (lkC0 W3)
 have HO2 := zH O2
 have HW2 := zH hW2
 have HW3 := zH hW3
 clear hW2 hW3 B2 B3 O0 O1 O2 X1 X2 
 go_enter Tryz.func65, Tryz.ntmps65
 go_upto_region 1 with fail
 rw [<- HW2.out, <- HW3.out]
 try simp only [s2]
 clear HW2 HW3
 go_wp2_with fail
 refine IX.out.mono ?_; rintro e w2 ⟨rfl, hb2⟩
 have X5 := (hb2.block _ hl3).trans HO2.out
 have HX5 := zH X5
 have FIN : Hid (Below w.heap.size w (w2.setRow (w.heap.size + 1 + 1) #[.int .i64 0, .string ⟨#[]⟩, .int .i64 0, .string ⟨#[]⟩, .string ⟨#[]⟩, .slice none 0 0, .slice none 0 0])) := zH (setRow_below (below_over HB3.out hb2) (by omega) _)
 clear hb2 IX x4 y0 y2
 go_wp2_with (first | (((with_reducible refine wpList_putRow 48 (w.heap.size + 1 + 1) #[.int .i64 0, .string ⟨#[]⟩, .int .i64 0, .string ⟨#[]⟩, .string ⟨#[]⟩, .slice none 0 0, .slice none 0 0] _ _ X5 ?_ ?_ ?_ ?_ ?_ ?_); exact tySize; rfl; exact tyOne; iterate 2 (focus (first | (go_simp; done) | rfl)))))
 exact ret_agg (fn := Tryz.f65) (vs := [.int .i64 0, .string ⟨#[]⟩, .int .i64 0, .string ⟨#[]⟩, .string ⟨#[]⟩, .slice none 0 0, .slice none 0 0]) (b := w.heap.size + 1 + 1) rfl rfl rfl Tryz.underlying48 (by kernel_rfl) (cell7 (setRow_heap w2 (w.heap.size + 1 + 1) _ _ _ _ HX5.out)) rfl ⟨rfl, FIN.out⟩
theorem fitsZ (An : Option Addr) (cn : Nat) (As : Option Addr) (cs : Nat) (Rn : Option Addr) (rn : Nat) (Rs : Option Addr) (rs : Nat) (w : World) : Calls Tryz.prog 66 #[.agg #[.int .i64 1, .string ⟨#[109]⟩, .string ⟨#[102]⟩, .int .i64 1, .string ⟨#[]⟩, .int .i64 0, .string ⟨#[]⟩, .string ⟨#[]⟩, .slice An 0 cn, .slice As 0 cs], .agg #[.int .i64 1, .string ⟨#[]⟩, .int .i64 0, .string ⟨#[]⟩, .string ⟨#[]⟩, .slice none 0 0, .slice none 0 0], .agg #[.int .i64 1, .string ⟨#[]⟩, .int .i64 0, .string ⟨#[]⟩, .string ⟨#[]⟩, .slice Rn 0 rn, .slice Rs 0 rs]] w fun e w' => e = .returned (.bool true) /\ Below w.heap.size w w' := by
 obtain ⟨W2, hW2, B2, O0, O1, hl2⟩ := two_boxes w #[.int .i64 1, .string ⟨#[109]⟩, .string ⟨#[102]⟩, .int .i64 1, .string ⟨#[]⟩, .int .i64 0, .string ⟨#[]⟩, .string ⟨#[]⟩, .slice An 0 cn, .slice As 0 cs] #[.int .i64 1, .string ⟨#[]⟩, .int .i64 0, .string ⟨#[]⟩, .string ⟨#[]⟩, .slice none 0 0, .slice none 0 0] 59 48
 have s2 : W2.heap.size = w.heap.size + 1 + 1 := by rw [hW2]; simp
 obtain ⟨W3, hW3⟩ : ∃ W3, W3 = W2.alloc (.cells #[.int .i64 1, .string ⟨#[]⟩, .int .i64 0, .string ⟨#[]⟩, .string ⟨#[]⟩, .slice Rn 0 rn, .slice Rs 0 rs] 48) := ⟨_, rfl⟩
 have B3 : Below W2.heap.size W2 W3 := by rw [hW3]; exact below_new (Below.refl _ _) _
 have O2 : W3.heap[w.heap.size + 1 + 1]? = some (.cells #[.int .i64 1, .string ⟨#[]⟩, .int .i64 0, .string ⟨#[]⟩, .string ⟨#[]⟩, .slice Rn 0 rn, .slice Rs 0 rs] 48 (0, 0)) := by rw [hW3, <- s2]; exact heap_alloc_new W2 _
 have X1 := (B3.block _ (by omega)).trans O0
 have X2 := (B3.block _ (by omega)).trans O1
 have a0 := cZ X1 0
 simp at a0
 obtain ⟨x0, x1, x2, x3, x4, x5, x6⟩ := cq7 X2
 simp at x0 x1 x2 x3 x4 x5 x6
 obtain ⟨y0, y1, y2, y3, y4, y5, y6⟩ := cq7 O2
 simp at y0 y1 y2 y3 y4 y5 y6
 have HB3 := zH (below_over B2 B3)
 have HW2 := zH hW2
 have HW3 := zH hW3
 clear hW2 hW3 B2 B3 O0 O1 O2 X1 X2 hl2
 go_enter Tryz.func66, Tryz.ntmps66
 go_upto_region 1 with fail
 rw [<- HW2.out, <- HW3.out]
 try simp only [s2]
 clear HW2 HW3
 go_wp2_with fail
 refine (subZ none 0 none 0 Rn rn Rs rs W3).mono ?_; rintro e w4 ⟨rfl, hb4⟩
 have HB4 := zH (below_over HB3.out hb4)
 clear hb4
 go_wp2_with fail
 go_ret
 exact ⟨rfl, HB4.out⟩
theorem lineZ (Ai : Option Addr) (ci : Nat) (eb vb : Nat) (An : Option Addr) (cn : Nat) (As : Option Addr) (cs : Nat) (w : World) (hI : RowIn imR w Ai [exI11]) (he : w.heap[eb]? = some (.cells #[.string ⟨#[112]⟩, .int .i64 1, .string ⟨#[109]⟩, .slice none 0 0, .slice (some ⟨vb, 0, none⟩) 1 1] 53 (0, 0))) (hv : w.heap[vb]? = some (.cells #[.string ⟨#[102]⟩, .int .i64 1, .string ⟨#[]⟩, .int .i64 0, .string ⟨#[]⟩, .string ⟨#[]⟩, .slice none 0 0, .slice none 0 0] 50 (0, 0))) : Calls Tryz.prog 32 #[.agg #[.int .i64 1, .string ⟨#[109]⟩, .string ⟨#[102]⟩, .int .i64 1, .string ⟨#[]⟩, .int .i64 0, .string ⟨#[]⟩, .string ⟨#[]⟩, .slice An 0 cn, .slice As 0 cs], .slice Ai 1 ci, .slice (some ⟨eb, 0, none⟩) 1 1] w fun e w' => e = .returned (.nilIface) /\ Below w.heap.size w w' := by
 obtain ⟨W1, hW1⟩ : ∃ W1, W1 = w.alloc (.cells #[.int .i64 1, .string ⟨#[109]⟩, .string ⟨#[102]⟩, .int .i64 1, .string ⟨#[]⟩, .int .i64 0, .string ⟨#[]⟩, .string ⟨#[]⟩, .slice An 0 cn, .slice As 0 cs] 59) := ⟨_, rfl⟩
 have B1 : Below w.heap.size w W1 := by rw [hW1]; exact below_new (Below.refl _ _) _
 have O1 : W1.heap[w.heap.size]? = some (.cells #[.int .i64 1, .string ⟨#[109]⟩, .string ⟨#[102]⟩, .int .i64 1, .string ⟨#[]⟩, .int .i64 0, .string ⟨#[]⟩, .string ⟨#[]⟩, .slice An 0 cn, .slice As 0 cs] 59 (0, 0)) := by rw [hW1]; exact heap_alloc_new w _
 have HI := zH hI
 have IX : Hid (Calls Tryz.prog 62 #[.slice Ai 1 ci, .string ⟨#[109]⟩] W1 fun e w' => e = .returned (.tuple #[.agg #[.string ⟨#[112]⟩, .int .i64 1, .string ⟨#[109]⟩, .string ⟨#[109]⟩], .bool true]) /\ Below W1.heap.size W1 w') := zH (by
  obtain ⟨g, o, lv, rfl, hg, hcc, rfl, -⟩ := (hI.below B1) 0 exI11 rfl;exact lkA g o ci W1 (hcc 0 _ rfl) (hcc 1 _ rfl) (hcc 2 _ rfl) (hcc 3 _ rfl))
 have HL := zH (fun wx (hb : Below W1.heap.size W1 wx) => (hb.block w.heap.size (Array.getElem?_eq_some_iff.1 O1).1).trans O1)
 have c1 := cZ O1 1
 simp at c1
 have HB1 := zH B1
 have HW1 := zH hW1
 have HE := zH (fun wx (hb : Below W1.heap.size W1 wx) => ((below_over B1 hb).block eb (Array.getElem?_eq_some_iff.1 he).1).trans he)
 have HV := zH (fun wx (hb : Below W1.heap.size W1 wx) => ((below_over B1 hb).block vb (Array.getElem?_eq_some_iff.1 hv).1).trans hv)
 clear he hv
 clear hI hW1 B1 O1
 go_enter Tryz.func32, Tryz.ntmps32
 go_upto_region 1 with fail
 rw [<- HW1.out]
 clear HW1
 go_wp2_with fail
 refine IX.out.mono ?_; rintro e w2 ⟨rfl, hb2⟩
 obtain ⟨wi, hwi⟩ : ∃ wi, wi = w2.alloc (.cells #[.string ⟨#[112]⟩, .int .i64 1, .string ⟨#[109]⟩, .string ⟨#[109]⟩] 57) := ⟨_, rfl⟩
 have Bi : Below w2.heap.size w2 wi := by rw [hwi]; exact below_new (Below.refl _ _) _
 have Oi : wi.heap[w2.heap.size]? = some (.cells #[.string ⟨#[112]⟩, .int .i64 1, .string ⟨#[109]⟩, .string ⟨#[109]⟩] 57 (0, 0)) := by rw [hwi]; exact heap_alloc_new w2 _
 have HBI : Hid (Below W1.heap.size W1 wi) := zH (below_over hb2 Bi)
 have HOI := zH (fun wx (hb : Below wi.heap.size wi wx) => (hb.block w2.heap.size (Array.getElem?_eq_some_iff.1 Oi).1).trans Oi)
 have HWI := zH hwi
 clear hb2 IX c1 hwi Bi Oi
 go_upto_region 2 with fail
 rw [<- HWI.out]
 clear HWI
 obtain ⟨y0, y1, y2, y3, y4, y5, y6, y7, y8⟩ := cq9 (HL.out wi HBI.out)
 have y9 := cZ (HL.out wi HBI.out) 9
 simp at y0 y1 y2 y3 y4 y5 y6 y7 y8 y9
 go_wp2_with fail
 refine (comesZ Ai ci (some ⟨eb, 0, none⟩) 1 1 An cn As cs wi (HI.out.below (below_over HB1.out HBI.out)) (by decide)).mono ?_; rintro e w3 ⟨Rn, rn, Rs, rs, rfl, hb3⟩
 obtain ⟨w4, hw4⟩ : ∃ w4, w4 = w3.alloc (.cells #[.int .i64 1, .string ⟨#[]⟩, .int .i64 0, .string ⟨#[]⟩, .string ⟨#[]⟩, .slice Rn 0 rn, .slice Rs 0 rs] 48) := ⟨_, rfl⟩
 have B4 : Below w3.heap.size w3 w4 := by rw [hw4]; exact below_new (Below.refl _ _) _
 have O4 : w4.heap[w3.heap.size]? = some (.cells #[.int .i64 1, .string ⟨#[]⟩, .int .i64 0, .string ⟨#[]⟩, .string ⟨#[]⟩, .slice Rn 0 rn, .slice Rs 0 rs] 48 (0, 0)) := by rw [hw4]; exact heap_alloc_new w3 _
 have HI4 : Hid (Below wi.heap.size wi w4) := zH (below_over hb3 B4)
 have HB4 : Hid (Below W1.heap.size W1 w4) := zH (below_over HBI.out HI4.out)
 have HO4 := zH (fun wx (hb : Below w4.heap.size w4 wx) => (hb.block w3.heap.size (Array.getElem?_eq_some_iff.1 O4).1).trans O4)
 have HW4 := zH hw4
 clear hb3 hw4 B4 O4 y0 y1 y2 y3 y4 y5 y6 y7 y8 y9
 go_upto_region 5 with fail
 rw [<- HW4.out]
 clear HW4
 go_wp2_with fail
 refine (isNil_any 4 w4).mono ?_; rintro e w5 ⟨rfl, rfl⟩
 obtain ⟨x0, x1, x2, x3⟩ := cq4 (HOI.out w5 HI4.out)
 simp at x0 x1 x2 x3
 go_wp2_with fail
 refine (lkB vb eb 0 1 w5 (by have := cZ (HE.out w5 HB4.out) 0; simpa using this) (by have := cZ (HE.out w5 HB4.out) 1; simpa using this) (by have := cZ (HE.out w5 HB4.out) 2; simpa using this) (by have := cZ (HE.out w5 HB4.out) 3; simpa using this) (by have := cZ (HE.out w5 HB4.out) 4; simpa using this)).mono ?_; rintro e w6 ⟨rfl, hb6⟩
 obtain ⟨w7, hw7⟩ : ∃ w7, w7 = w6.alloc (.cells #[.string ⟨#[112]⟩, .int .i64 1, .string ⟨#[109]⟩, .slice none 0 0, .slice (some ⟨vb, 0, none⟩) 1 1] 53) := ⟨_, rfl⟩
 have B7 : Below w6.heap.size w6 w7 := by rw [hw7]; exact below_new (Below.refl _ _) _
 have O7 : w7.heap[w6.heap.size]? = some (.cells #[.string ⟨#[112]⟩, .int .i64 1, .string ⟨#[109]⟩, .slice none 0 0, .slice (some ⟨vb, 0, none⟩) 1 1] 53 (0, 0)) := by rw [hw7]; exact heap_alloc_new w6 _
 have HB57 : Hid (Below w5.heap.size w5 w7) := zH (below_over hb6 B7)
 have HB7 : Hid (Below W1.heap.size W1 w7) := zH (below_over HB4.out HB57.out)
 have HW7 := zH hw7
 obtain ⟨z0, z1, z2, z3, z4⟩ := cq5 O7
 simp at z0 z1 z2 z3 z4
 obtain ⟨y0, y1, y2, y3, y4, y5, y6, y7, y8⟩ := cq9 (HL.out w7 HB7.out)
 have y9 := cZ (HL.out w7 HB7.out) 9
 simp at y0 y1 y2 y3 y4 y5 y6 y7 y8 y9
 clear O7 hb6 hw7 B7 x0 x1 x2 x3
 go_upto_region 8 with fail
 rw [<- HW7.out]
 clear HW7
 go_wp2_with fail
 refine (namedZ vb An cn As cs w7 (HV.out w7 HB7.out)).mono ?_; rintro e w8 ⟨rfl, hb8⟩
 obtain ⟨w9, hw9⟩ : ∃ w9, w9 = w8.alloc (.cells #[.int .i64 1, .string ⟨#[]⟩, .int .i64 0, .string ⟨#[]⟩, .string ⟨#[]⟩, .slice none 0 0, .slice none 0 0] 48) := ⟨_, rfl⟩
 have B9 : Below w8.heap.size w8 w9 := by rw [hw9]; exact below_new (Below.refl _ _) _
 have O9 : w9.heap[w8.heap.size]? = some (.cells #[.int .i64 1, .string ⟨#[]⟩, .int .i64 0, .string ⟨#[]⟩, .string ⟨#[]⟩, .slice none 0 0, .slice none 0 0] 48 (0, 0)) := by rw [hw9]; exact heap_alloc_new w8 _
 have HB59 : Hid (Below w5.heap.size w5 w9) := zH (below_over HB57.out (below_over hb8 B9))
 have HB9 : Hid (Below W1.heap.size W1 w9) := zH (below_over HB4.out HB59.out)
 have HW9 := zH hw9
 have HO9 := zH O9
 clear hb8 hw9 B9 O9 y0 y1 y2 y3 y4 y5 y6 y7 y8 y9 z0 z1 z2 z3 z4
 go_upto_region 9 with fail
 rw [<- HW9.out]
 clear HW9
 obtain ⟨y0, y1, y2, y3, y4, y5, y6, y7, y8⟩ := cq9 (HL.out w9 HB9.out)
 have y9 := cZ (HL.out w9 HB9.out) 9
 simp at y0 y1 y2 y3 y4 y5 y6 y7 y8 y9
 obtain ⟨x0, x1, x2, x3, x4, x5, x6⟩ := cq7 HO9.out
 simp at x0 x1 x2 x3 x4 x5 x6
 obtain ⟨z0, z1, z2, z3, z4, z5, z6⟩ := cq7 (HO4.out w9 HB59.out)
 simp at z0 z1 z2 z3 z4 z5 z6
 go_wp2_with fail
 refine (fitsZ An cn As cs Rn rn Rs rs w9).mono ?_; rintro e w10 ⟨rfl, hb10⟩
 have HB10 := zH (below_over HB9.out hb10)
 clear hb10 y0 y1 y2 y3 y4 y5 y6 y7 y8 y9 x0 z0 x1 z1 x2 z2 x3 z3 x4 z4 x5 z5 x6 z6
 go_wp2_with fail
 go_ret
 exact ⟨rfl, below_over HB1.out HB10.out⟩
theorem lineZ0 (Ai : Option Addr) (ci : Nat) (An : Option Addr) (cn : Nat) (As : Option Addr) (cs : Nat) (w : World) (hI : RowIn imR w Ai [exI11]) : Calls Tryz.prog 32 #[.agg #[.int .i64 1, .string ⟨#[109]⟩, .string ⟨#[102]⟩, .int .i64 1, .string ⟨#[]⟩, .int .i64 0, .string ⟨#[]⟩, .string ⟨#[]⟩, .slice An 0 cn, .slice As 0 cs], .slice Ai 1 ci, .slice none 0 0] w fun e w' => e = .returned (.iface 31 (.int .i64 9)) /\ Below w.heap.size w w' := by
 obtain ⟨W1, hW1⟩ : ∃ W1, W1 = w.alloc (.cells #[.int .i64 1, .string ⟨#[109]⟩, .string ⟨#[102]⟩, .int .i64 1, .string ⟨#[]⟩, .int .i64 0, .string ⟨#[]⟩, .string ⟨#[]⟩, .slice An 0 cn, .slice As 0 cs] 59) := ⟨_, rfl⟩
 have B1 : Below w.heap.size w W1 := by rw [hW1]; exact below_new (Below.refl _ _) _
 have O1 : W1.heap[w.heap.size]? = some (.cells #[.int .i64 1, .string ⟨#[109]⟩, .string ⟨#[102]⟩, .int .i64 1, .string ⟨#[]⟩, .int .i64 0, .string ⟨#[]⟩, .string ⟨#[]⟩, .slice An 0 cn, .slice As 0 cs] 59 (0, 0)) := by rw [hW1]; exact heap_alloc_new w _
 have HI := zH hI
 have IX : Hid (Calls Tryz.prog 62 #[.slice Ai 1 ci, .string ⟨#[109]⟩] W1 fun e w' => e = .returned (.tuple #[.agg #[.string ⟨#[112]⟩, .int .i64 1, .string ⟨#[109]⟩, .string ⟨#[109]⟩], .bool true]) /\ Below W1.heap.size W1 w') := zH (by
  obtain ⟨g, o, lv, rfl, hg, hcc, rfl, -⟩ := (hI.below B1) 0 exI11 rfl;exact lkA g o ci W1 (hcc 0 _ rfl) (hcc 1 _ rfl) (hcc 2 _ rfl) (hcc 3 _ rfl))
 have HL := zH (fun wx (hb : Below W1.heap.size W1 wx) => (hb.block w.heap.size (Array.getElem?_eq_some_iff.1 O1).1).trans O1)
 have c1 := cZ O1 1
 simp at c1
 have HB1 := zH B1
 have HW1 := zH hW1
 clear hI hW1 B1 O1
 go_enter Tryz.func32, Tryz.ntmps32
 go_upto_region 1 with fail
 rw [<- HW1.out]
 clear HW1
 go_wp2_with fail
 refine IX.out.mono ?_; rintro e w2 ⟨rfl, hb2⟩
 obtain ⟨wi, hwi⟩ : ∃ wi, wi = w2.alloc (.cells #[.string ⟨#[112]⟩, .int .i64 1, .string ⟨#[109]⟩, .string ⟨#[109]⟩] 57) := ⟨_, rfl⟩
 have Bi : Below w2.heap.size w2 wi := by rw [hwi]; exact below_new (Below.refl _ _) _
 have Oi : wi.heap[w2.heap.size]? = some (.cells #[.string ⟨#[112]⟩, .int .i64 1, .string ⟨#[109]⟩, .string ⟨#[109]⟩] 57 (0, 0)) := by rw [hwi]; exact heap_alloc_new w2 _
 have HBI : Hid (Below W1.heap.size W1 wi) := zH (below_over hb2 Bi)
 have HOI := zH (fun wx (hb : Below wi.heap.size wi wx) => (hb.block w2.heap.size (Array.getElem?_eq_some_iff.1 Oi).1).trans Oi)
 have HWI := zH hwi
 clear hb2 IX c1 hwi Bi Oi
 go_upto_region 2 with fail
 rw [<- HWI.out]
 clear HWI
 obtain ⟨y0, y1, y2, y3, y4, y5, y6, y7, y8⟩ := cq9 (HL.out wi HBI.out)
 have y9 := cZ (HL.out wi HBI.out) 9
 simp at y0 y1 y2 y3 y4 y5 y6 y7 y8 y9
 go_wp2_with fail
 refine (comesZ Ai ci none 0 0 An cn As cs wi (HI.out.below (below_over HB1.out HBI.out)) (by decide)).mono ?_; rintro e w3 ⟨Rn, rn, Rs, rs, rfl, hb3⟩
 obtain ⟨w4, hw4⟩ : ∃ w4, w4 = w3.alloc (.cells #[.int .i64 1, .string ⟨#[]⟩, .int .i64 0, .string ⟨#[]⟩, .string ⟨#[]⟩, .slice Rn 0 rn, .slice Rs 0 rs] 48) := ⟨_, rfl⟩
 have B4 : Below w3.heap.size w3 w4 := by rw [hw4]; exact below_new (Below.refl _ _) _
 have O4 : w4.heap[w3.heap.size]? = some (.cells #[.int .i64 1, .string ⟨#[]⟩, .int .i64 0, .string ⟨#[]⟩, .string ⟨#[]⟩, .slice Rn 0 rn, .slice Rs 0 rs] 48 (0, 0)) := by rw [hw4]; exact heap_alloc_new w3 _
 have HI4 : Hid (Below wi.heap.size wi w4) := zH (below_over hb3 B4)
 have HB4 : Hid (Below W1.heap.size W1 w4) := zH (below_over HBI.out HI4.out)
 have HO4 := zH (fun wx (hb : Below w4.heap.size w4 wx) => (hb.block w3.heap.size (Array.getElem?_eq_some_iff.1 O4).1).trans O4)
 have HW4 := zH hw4
 clear hb3 hw4 B4 O4 y0 y1 y2 y3 y4 y5 y6 y7 y8 y9
 go_upto_region 5 with fail
 rw [<- HW4.out]
 clear HW4
 go_wp2_with fail
 refine (isNil_any 4 w4).mono ?_; rintro e w5 ⟨rfl, rfl⟩
 obtain ⟨x0, x1, x2, x3⟩ := cq4 (HOI.out w5 HI4.out)
 simp at x0 x1 x2 x3
 go_wp2_with fail
 refine (lkB0 w5).mono ?_; rintro e w6 ⟨rfl, hb6⟩
 obtain ⟨w7, hw7⟩ : ∃ w7, w7 = w6.alloc (.cells #[.string ⟨#[]⟩, .int .i64 0, .string ⟨#[]⟩, .slice none 0 0, .slice none 0 0] 53) := ⟨_, rfl⟩
 have B7 : Below w6.heap.size w6 w7 := by rw [hw7]; exact below_new (Below.refl _ _) _
 have O7 : w7.heap[w6.heap.size]? = some (.cells #[.string ⟨#[]⟩, .int .i64 0, .string ⟨#[]⟩, .slice none 0 0, .slice none 0 0] 53 (0, 0)) := by rw [hw7]; exact heap_alloc_new w6 _
 have HB57 : Hid (Below w5.heap.size w5 w7) := zH (below_over hb6 B7)
 have HB7 : Hid (Below W1.heap.size W1 w7) := zH (below_over HB4.out HB57.out)
 have HW7 := zH hw7
 obtain ⟨z0, z1, z2, z3, z4⟩ := cq5 O7
 simp at z0 z1 z2 z3 z4
 obtain ⟨y0, y1, y2, y3, y4, y5, y6, y7, y8⟩ := cq9 (HL.out w7 HB7.out)
 have y9 := cZ (HL.out w7 HB7.out) 9
 simp at y0 y1 y2 y3 y4 y5 y6 y7 y8 y9
 clear O7 hb6 hw7 B7 x0 x1 x2 x3
 go_upto_region 8 with fail
 rw [<- HW7.out]
 clear HW7
 go_wp2_with fail
 refine (namedZ0 An cn As cs w7).mono ?_; rintro e w8 ⟨rfl, hb8⟩
 obtain ⟨w9, hw9⟩ : ∃ w9, w9 = w8.alloc (.cells #[.int .i64 0, .string ⟨#[]⟩, .int .i64 0, .string ⟨#[]⟩, .string ⟨#[]⟩, .slice none 0 0, .slice none 0 0] 48) := ⟨_, rfl⟩
 have B9 : Below w8.heap.size w8 w9 := by rw [hw9]; exact below_new (Below.refl _ _) _
 have O9 : w9.heap[w8.heap.size]? = some (.cells #[.int .i64 0, .string ⟨#[]⟩, .int .i64 0, .string ⟨#[]⟩, .string ⟨#[]⟩, .slice none 0 0, .slice none 0 0] 48 (0, 0)) := by rw [hw9]; exact heap_alloc_new w8 _
 have HB59 : Hid (Below w5.heap.size w5 w9) := zH (below_over HB57.out (below_over hb8 B9))
 have HB9 : Hid (Below W1.heap.size W1 w9) := zH (below_over HB4.out HB59.out)
 have HW9 := zH hw9
 have HO9 := zH O9
 clear hb8 hw9 B9 O9 y0 y1 y2 y3 y4 y5 y6 y7 y8 y9 z0 z1 z2 z3 z4
 go_upto_region 9 with fail
 rw [<- HW9.out]
 clear HW9
 go_wp2_with fail
 go_ret
 exact ⟨rfl, below_over HB1.out HB9.out⟩
end Go.Proofs.YtddlmigofilejaaGreatDoor
namespace Go.Proofs.YtddlmigofilejaaGreatDoor
open Go Go.ChangeShapes Go.WideShapes Go.ChangeAt Go.RowKit Go.Joins Go.Deep
open M
def lnE (w : World) (l : List Value) (d : Ln) : Prop := (d.mod.size <= 9223372036854775807 /\ d.name.size <= 9223372036854775807) /\ ∃ l7 : List Value, l = .int .i64 d.kind :: .string d.mod :: .string d.name :: l7 /\ TyAt w l7 d.typ
def lnR : Reads Ln := ⟨10, 59, lnE, fun _ _ _ _ _ _ ⟨hs, l7, e, h⟩ hz hb => ⟨hs, l7, e, h.move hz hb⟩, fun _ _ _ _ ⟨hs, l7, e, h⟩ hb => ⟨hs, l7, e, h.keep hb⟩, fun _ _ _ _ ⟨hs, l7, e, h⟩ => ⟨hs, l7, e, h.free⟩, fun _ l x ⟨_, l7, e, h⟩ => by rw [e]; simp [h.len]⟩
def UsAt (w : World) (l : List Value) (u : Us) : Prop :=
  ∃ (Ai : Option Addr) (ci : Nat) (Al : Option Addr) (cl : Nat), l = [.slice Ai u.imps.length ci, .slice Al u.lines.length cl] /\ u.imps.length <= 9223372036854775807 /\ u.lines.length <= 9223372036854775807 /\ RowIn imR w Ai u.imps /\ RowIn lnR w Al u.lines
theorem UsAt.below {w w' : World} {l : List Value} {u : Us} (h : UsAt w l u) (hb : Below w.heap.size w w') : UsAt w' l u := by
  obtain ⟨Ai, ci, Al, cl, e, h1, h2, h4, h5⟩ := h;exact ⟨Ai, ci, Al, cl, e, h1, h2, h4.below hb, h5.below hb⟩
theorem UsAt.move {S S' : Nat -> Prop} {w w' : World} {l : List Value} {u : Us} (h : UsAt (strike S w) l u) (hz : w.heap.size <= w'.heap.size) (hb : ∀ b, b < w.heap.size -> ¬ S b -> ¬ S' b /\ w'.heap[b]? = w.heap[b]?) : UsAt (strike S' w') l u := by
  obtain ⟨Ai, ci, Al, cl, e, h1, h2, h4, h5⟩ := h;exact ⟨Ai, ci, Al, cl, e, h1, h2, h4.move hz hb, h5.move hz hb⟩
theorem UsAt.free {S : Nat -> Prop} {w : World} {l : List Value} {u : Us} (h : UsAt (strike S w) l u) : UsAt w l u := by
  obtain ⟨Ai, ci, Al, cl, e, h1, h2, h4, h5⟩ := h;exact ⟨Ai, ci, Al, cl, e, h1, h2, h4.free, h5.free⟩
def CapU (l : List Value) (u : Us) : Prop := ∀ Ai ci Al cl, l = [.slice Ai u.imps.length ci, .slice Al u.lines.length cl] -> u.imps.length <= ci /\ u.lines.length <= cl
theorem CapU.of {u : Us} {Ai Al : Option Addr} {ci cl ni nl : Nat} (h1 : u.imps.length <= ci) (h2 : u.lines.length <= cl) (hi : ni = u.imps.length) (hl : nl = u.lines.length) : CapU [.slice Ai ni ci, .slice Al nl cl] u := by
  subst hi hl;intro A c A' c' e;simp at e;obtain ⟨⟨-, rfl⟩, -, rfl⟩ := e;exact ⟨h1, h2⟩
theorem RowIn.ln {w : World} {A : Option Addr} {xs : List Ln} (h : RowIn lnR w A xs) {i : Nat} {x : Ln} (hx : xs[i]? = some x) : ∃ (g o : Nat) (v0 v1 v2 v3 v4 v5 v6 : Value), A = some ⟨g, o, none⟩ /\ g < w.heap.size /\
    w.cell? ⟨g, o + i * 10, none⟩ = some (.int .i64 x.kind) /\ w.cell? ⟨g, o + i * 10 + 1, none⟩ = some (.string x.mod) /\ w.cell? ⟨g, o + i * 10 + 2, none⟩ = some (.string x.name) /\ w.cell? ⟨g, o + i * 10 + 3, none⟩ = some v0 /\ w.cell? ⟨g, o + i * 10 + 3 + 1, none⟩ = some v1 /\ w.cell? ⟨g, o + i * 10 + 3 + 2, none⟩ = some v2 /\
    w.cell? ⟨g, o + i * 10 + 3 + 3, none⟩ = some v3 /\ w.cell? ⟨g, o + i * 10 + 3 + 4, none⟩ = some v4 /\ w.cell? ⟨g, o + i * 10 + 3 + 5, none⟩ = some v5 /\ w.cell? ⟨g, o + i * 10 + 3 + 6, none⟩ = some v6 /\ TyAt w [v0, v1, v2, v3, v4, v5, v6] x.typ /\ x.mod.size <= 9223372036854775807 /\ x.name.size <= 9223372036854775807 := by
  obtain ⟨g, o, l, hA, hg, hc, ⟨hs, hs2⟩, l7, rfl, hT⟩ := h i x hx;obtain ⟨v0, v1, v2, v3, v4, v5, v6, rfl⟩ := list7 l7 hT.len;exact ⟨g, o, v0, v1, v2, v3, v4, v5, v6, hA, hg, hc 0 _ rfl, hc 1 _ rfl, hc 2 _ rfl, hc 3 _ rfl, hc 4 _ rfl, hc 5 _ rfl, hc 6 _ rfl, hc 7 _ rfl, hc 8 _ rfl, hc 9 _ rfl, hT, hs, hs2⟩
section
variable {H : Type} {enc : TypeId × Value -> H} {w : World} {base : Nat} {sp : Nat -> Bool} {held : Bool}
end
end Go.Proofs.YtddlmigofilejaaGreatDoor
namespace Go.Proofs.YtddlmigofilejaaGreatDoor
open Go.RowKit
open M
def restL (S : Toks) (l : List Im) (i : Nat) (xs : List Ln) : Res Us := endU S l (linesR S (61 - xs.length) i xs)
theorem imp11_yes {S : Toks} {i i5 b5 : Nat} {xs : List Im} {x : Im} (hn : xs.length < 20) (hk : keyS S i kImport = true) (h : badR b5 i5 (.ok x i5 0) = impR S (i + 1)) :
    restU S (impsR S (21 - xs.length) i xs) = badR b5 i5 (restU S (impsR S (21 - (xs ++ [x]).length) i5 (xs ++ [x]))) /\ (b5 = 0 -> i < i5) := by
  have e0 : ∀ f, impsR S (f + 1) i xs = if keyS S i kImport = false then .ok xs i 0 else if 20 <= xs.length then .err 3 i else match impR S (i + 1) with
      | .err b j => .err b j
      | .ok x j _ => impsR S f j (xs ++ [x]) := fun f => rfl
  have e1 : (xs ++ [x]).length = xs.length + 1 := by simp
  rw [show 21 - xs.length = (20 - xs.length) + 1 by omega, e0, if_neg (by rw [hk]; decide), if_neg (by omega), <- h, e1, show 21 - (xs.length + 1) = 20 - xs.length by omega];by_cases hb : b5 = 0
  · subst hb
    have h6 := impR_ok h.symm;rw [badR_0, badR_0];exact ⟨rfl, fun _ => by omega⟩
  · rw [badR_ne _ _ hb, badR_ne _ _ hb]
    exact ⟨rfl, fun e => absurd e hb⟩
theorem imp11_many {S : Toks} {i : Nat} {xs : List Im} (hn : xs.length = 20) (hk : keyS S i kImport = true) : restU S (impsR S (21 - xs.length) i xs) = .err 3 i := by
  rw [hn]
  have e0 : impsR S (0 + 1) i xs = if keyS S i kImport = false then .ok xs i 0 else if 20 <= xs.length then .err 3 i else match impR S (i + 1) with
      | .err b j => .err b j
      | .ok x j _ => impsR S 0 j (xs ++ [x]) := rfl
  rw [show 21 - 20 = 0 + 1 by omega, e0, if_neg (by rw [hk]; decide), if_pos (by omega)];rfl
theorem imp11_no {S : Toks} {i b : Nat} {xs : List Im} (hn : xs.length <= 20) (h : (decide (b = 0) && keyS S i kImport) = false) : badR b i (restU S (impsR S (21 - xs.length) i xs)) = badR b i (restL S xs i []) := by
  by_cases hb : b = 0
  · subst hb
    rw [badR_0, badR_0, show 21 - xs.length = (20 - xs.length) + 1 by omega];unfold impsR
    rw [if_pos (by simpa using h)];rfl
  · rw [badR_ne _ _ hb, badR_ne _ _ hb]
theorem lineR_ok {S : Toks} {k : Int} {i j c : Nat} {x : Ln} (h : lineR S k i = .ok x j c) : i + 4 < j /\ c = 0 := by
  have key : ∀ {k : Int} {m s : ByteArray}, typL k m s (atR S (i + 4)) = .ok x j c -> i + 4 < j /\ c = 0 := fun {k m s} h => by
    cases e : atR S (i + 4) with
    | err b k => rw [e] at h; cases h
    | ok t j' c' =>
      rw [e] at h;cases h
      exact ⟨atR_le e, rfl⟩
  unfold lineR at h
  split at h
  · cases h
  split at h
  · cases h
  split at h
  · split at h
    · cases h
    split at h
    · cases h
    exact key h
  · split at h
    · cases h
    split at h
    · cases h
    exact key h
theorem line11_yes {S : Toks} {l : List Im} {i i5 b5 : Nat} {xs : List Ln} {x : Ln} (hn : xs.length < 60) (hk : lineK S i ≠ 0) (h : badR b5 i5 (.ok x i5 0) = lineR S (lineK S i) (i + 1)) :
    restL S l i xs = badR b5 i5 (restL S l i5 (xs ++ [x])) /\ (b5 = 0 -> i < i5) := by
  have e0 : ∀ f, linesR S (f + 1) i xs = if lineK S i = 0 then .ok xs i 0 else if 60 <= xs.length then .err 3 i else match lineR S (lineK S i) (i + 1) with
      | .err b j => .err b j
      | .ok x j _ => linesR S f j (xs ++ [x]) := fun f => rfl
  have e1 : (xs ++ [x]).length = xs.length + 1 := by simp
  unfold restL
  rw [show 61 - xs.length = (60 - xs.length) + 1 by omega, e0, if_neg hk, if_neg (by omega), <- h, e1, show 61 - (xs.length + 1) = 60 - xs.length by omega];by_cases hb : b5 = 0
  · subst hb
    have h6 := (lineR_ok h.symm).1;rw [badR_0, badR_0];exact ⟨rfl, fun _ => by omega⟩
  · rw [badR_ne _ _ hb, badR_ne _ _ hb]
    exact ⟨rfl, fun e => absurd e hb⟩
theorem line11_many {S : Toks} {l : List Im} {i : Nat} {xs : List Ln} (hn : xs.length = 60) (hk : lineK S i ≠ 0) : restL S l i xs = .err 3 i := by
  unfold restL
  rw [hn]
  have e0 : linesR S (0 + 1) i xs = if lineK S i = 0 then .ok xs i 0 else if 60 <= xs.length then .err 3 i else match lineR S (lineK S i) (i + 1) with
      | .err b j => .err b j
      | .ok x j _ => linesR S 0 j (xs ++ [x]) := rfl
  rw [show 61 - 60 = 0 + 1 by omega, e0, if_neg hk, if_pos (by omega)];rfl
def stopL (S : Toks) (l : List Im) (i : Nat) (xs : List Ln) : Res Us := if i < S.n then .err 2 i else .ok ⟨l, xs⟩ i 0
theorem line11_no {S : Toks} {l : List Im} {i b : Nat} {xs : List Ln} (hn : xs.length <= 60) (h : b = 0 -> lineK S i = 0) : badR b i (restL S l i xs) = badR b i (stopL S l i xs) := by
  by_cases hb : b = 0
  · subst hb
    rw [badR_0, badR_0];unfold restL stopL
    rw [show 61 - xs.length = (60 - xs.length) + 1 by omega];unfold linesR
    rw [if_pos (h rfl)];rfl
  · rw [badR_ne _ _ hb, badR_ne _ _ hb]
theorem lineK_use {S : Toks} {i : Nat} (h : keyS S i kUse = true) : lineK S i = 1 := by unfold lineK; rw [if_pos h]
theorem lineK_is {S : Toks} {i : Nat} (h1 : keyS S i kUse = false) (h : keyS S i kIs = true) : lineK S i = 2 := by unfold lineK; rw [if_neg (by rw [h1]; decide), if_pos h]
theorem lineK_no {S : Toks} {i : Nat} (h1 : keyS S i kUse = false) (h : keyS S i kIs = false) : lineK S i = 0 := by unfold lineK; rw [if_neg (by rw [h1]; decide), if_neg (by rw [h]; decide)]
theorem key_one {S : Toks} {i : Nat} (h : keyS S i kIs = true) : keyS S i kUse = false := by
  unfold keyS at h ⊢
  simp only [Bool.and_eq_true, beq_iff_eq] at h;rw [h.2];have : (kIs == kUse) = false := by decide
  rw [this]; simp
def sgL (k : Int) : List UInt8 := if k = 1 then [58] else [61]
def nmL (S : Toks) (k : Int) (i : Nat) : Bool := if k = 1 then S.small i else S.great i
theorem lineR_step (S : Toks) {k : Int} (hk : k = 1 \/ k = 2) (j : Nat) : lineR S k j =
    if S.small j = false then .err 2 j else if S.sign (j + 1) [46] = false then .err 2 (j + 1) else if nmL S k (j + 2) = false then .err 2 (j + 2) else if S.sign (j + 3) (sgL k) = false then .err 2 (j + 3) else typL k (S.T j) (S.T (j + 2)) (atR S (j + 4)) := by
  unfold lineR nmL sgL
  rcases hk with rfl | rfl
  · rw [if_pos rfl, if_pos rfl, if_pos rfl]
  · have e : ¬ (2 : Int) = 1 := by decide
    simp only [if_neg e]
end Go.Proofs.YtddlmigofilejaaGreatDoor
namespace Go.Proofs.YtddlmigofilejaaGreatDoor
open Go Go.RowKit
open M
def kindL (S : Toks) (i : Nat) : Int := if keyS S i kIs = true then 2 else 1
def oneL (S : Toks) (i n : Nat) : Res Ln := if lineK S i = 0 then .err 2 i else if 60 <= n then .err 3 i else lineR S (lineK S i) (i + 1)
theorem kindL_eq {S : Toks} {i : Nat} (h : lineK S i ≠ 0) : kindL S i = lineK S i := by
  unfold kindL
  by_cases h1 : keyS S i kIs = true
  · rw [if_pos h1, lineK_is (key_one h1) h1]
  · rw [if_neg h1]
    by_cases h2 : keyS S i kUse = true
    · rw [lineK_use h2]
    · exact absurd (lineK_no (by simpa using h2) (by simpa using h1)) h
theorem lineK_or (S : Toks) (i : Nat) : (keyS S i kIs || keyS S i kUse) = (lineK S i != 0) := by
  unfold lineK
  cases keyS S i kIs <;> cases keyS S i kUse <;> decide
theorem oneL_state {S : Toks} {i n b1 : Nat} (h : mustB (mustB 0 (lineK S i != 0) 2) (decide ((n : Int) < 60)) 3 = b1) : badR b1 (upI b1 i) (lineR S (kindL S i) (upI b1 i)) = oneL S i n := by
  by_cases hk : lineK S i = 0
  · have e : (lineK S i != 0) = false := by rw [hk]; rfl
    rw [e, mustB_no, mustB_bad _ _ (by decide)] at h;subst h;rw [badR_ne _ _ (by decide), upI_ne _ (by decide)];unfold oneL
    rw [if_pos hk]
  · have e : (lineK S i != 0) = true := by simp [hk]
    rw [e, mustB_yes] at h;unfold oneL
    rw [if_neg hk];by_cases hn : n < 60
    · rw [show decide ((n : Int) < 60) = true by simp; omega, mustB_yes] at h
      subst h;rw [badR_0, upI_0, if_neg (by omega), kindL_eq hk]
    · rw [show decide ((n : Int) < 60) = false by simp; omega, mustB_no] at h
      subst h;rw [badR_ne _ _ (by decide), upI_ne _ (by decide), if_pos (by omega)]
theorem line_words {S : Toks} {k : Int} (hk : k = 1 \/ k = 2) {b1 j i2 b2 i3 b3 i4 b4 i5 b5 : Nat} {m s : ByteArray}
    (h1 : NameOut S (S.small j) j b1 m i2 b2) (e3 : i3 = psI b2 (S.sign i2 [46]) i2) (f3 : b3 = psB b2 (S.sign i2 [46])) (h3 : NameOut S (nmL S k i3) i3 b3 s i4 b4)
    (e5 : i5 = psI b4 (S.sign i4 (sgL k)) i4) (f5 : b5 = psB b4 (S.sign i4 (sgL k))) : badR b5 i5 (typL k m s (atR S i5)) = badR b1 j (lineR S k j) := by
  rw [lineR_step S hk, e5, f5, sign_res (S.sign i4 (sgL k)) b4 i4 (fun j => typL k m s (atR S j))];rw [nameOut_res h3 (fun s j => if S.sign j (sgL k) = false then Res.err 2 j else typL k m s (atR S (j + 1))), e3, f3];rw [sign_res (S.sign i2 [46]) b2 i2 (fun j => if nmL S k j = false then Res.err 2 j else if S.sign (j + 1) (sgL k) = false then .err 2 (j + 1) else typL k m (S.T j) (atR S (j + 1 + 1)))];rw [nameOut_res h1 (fun m j => if S.sign j [46] = false then Res.err 2 j else if nmL S k (j + 1) = false then Res.err 2 (j + 1) else if S.sign (j + 1 + 1) (sgL k) = false then .err 2 (j + 1 + 1) else typL k m (S.T (j + 1)) (atR S (j + 1 + 1 + 1)))]
theorem line_typ {S : Toks} {k : Int} {m s : ByteArray} {t : Ty} {i b i' b' : Nat} (h : badR b' i' (.ok t i' 0) = badR b i (cutR (atR S i))) : badR b' i' (.ok (⟨k, m, s, t⟩ : Ln) i' 0) = badR b i (typL k m s (atR S i)) := by
  by_cases hb : b = 0
  · subst hb
    rw [badR_0] at h ⊢;cases e : atR S i with
    | err b2 j =>
      rw [e] at h;by_cases hb' : b' = 0
      · subst hb'; rw [badR_0] at h; cases h
      · rw [badR_ne _ _ hb'] at h ⊢
        cases h; rfl
    | ok t2 j c =>
      rw [e] at h;by_cases hb' : b' = 0
      · subst hb'; rw [badR_0] at h ⊢; cases h; rfl
      · rw [badR_ne _ _ hb'] at h; cases h
  · rw [badR_ne _ _ hb] at h ⊢
    by_cases hb' : b' = 0
    · subst hb'; rw [badR_0] at h; cases h
    · rw [badR_ne _ _ hb'] at h ⊢
      cases h; rfl
theorem key_in {S : Toks} {i : Nat} {l : List UInt8} (h : keyS S i l = true) : i < S.n := by
  unfold keyS at h
  simp only [Bool.and_eq_true, decide_eq_true_eq] at h;exact h.1.1
theorem lineK_far {S : Toks} {i : Nat} (h : S.n <= i) : lineK S i = 0 := by
  refine lineK_no ?_ ?_
  · cases e : keyS S i kUse with
    | false => rfl
    | true => have := key_in e; omega
  · cases e : keyS S i kIs with
    | false => rfl
    | true => have := key_in e; omega
theorem restL_no {S : Toks} {l : List Im} {i b : Nat} {xs : List Ln} (hn : xs.length <= 60 \/ b ≠ 0) (h : (decide (b = 0) && decide (i < S.n)) = false) : badR b i (restL S l i xs) = badR b i (.ok ⟨l, xs⟩ i 0) := by
  by_cases hb : b = 0
  · subst hb
    have hi : S.n <= i := by simpa using h
    rw [line11_no (by omega) (fun _ => lineK_far hi)];unfold stopL
    rw [if_neg (by omega)]
  · rw [badR_ne _ _ hb, badR_ne _ _ hb]
theorem restL_yes {S : Toks} {l : List Im} {i i5 b5 : Nat} {xs : List Ln} {x : Ln} (hn : xs.length <= 60) (hi : i < S.n) (h : badR b5 i5 (.ok x i5 0) = oneL S i xs.length) :
    restL S l i xs = badR b5 i5 (restL S l i5 (xs ++ [x])) /\ (b5 = 0 -> xs.length < 60 /\ i + 1 < i5) := by
  by_cases hk : lineK S i = 0
  · have e := line11_no (S := S) (l := l) (b := 0) hn (fun _ => hk)
    rw [badR_0, badR_0] at e;unfold stopL at e
    rw [if_pos hi] at e;unfold oneL at h
    rw [if_pos hk] at h;by_cases hb : b5 = 0
    · subst hb; rw [badR_0] at h; cases h
    · rw [badR_ne _ _ hb] at h ⊢
      cases h
      exact ⟨e, fun h => absurd h hb⟩
  by_cases h60 : 60 <= xs.length
  · unfold oneL at h
    rw [if_neg hk, if_pos h60] at h;rw [line11_many (by omega) hk];by_cases hb : b5 = 0
    · subst hb; rw [badR_0] at h; cases h
    · rw [badR_ne _ _ hb] at h ⊢
      cases h
      exact ⟨rfl, fun h => absurd h hb⟩
  have h' : badR b5 i5 (.ok x i5 0) = lineR S (lineK S i) (i + 1) := by
    rw [h]; unfold oneL; rw [if_neg hk, if_neg h60]
  obtain ⟨e, -⟩ := line11_yes (l := l) (xs := xs) (by omega) hk h';refine ⟨e, fun hb => ?_⟩;subst hb;rw [badR_0] at h';have := (lineR_ok h'.symm).1
  exact ⟨by omega, by omega⟩
theorem uses_chain {S : Toks} {l : List Im} {i b : Nat} (h : badR b i (.ok l i 0) = impsR S 21 0 []) : badR b i (restL S l i []) = usesR S := by
  unfold usesR
  rw [<- h];by_cases hb : b = 0
  · subst hb; rfl
  · rw [badR_ne _ _ hb, badR_ne _ _ hb]; rfl
end Go.Proofs.YtddlmigofilejaaGreatDoor
