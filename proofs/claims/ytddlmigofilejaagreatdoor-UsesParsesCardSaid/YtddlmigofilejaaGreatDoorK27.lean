/-
  Several texts in one.
-/
import Derived.Test.YtddlmigofilejaaGreatDoorK26
set_option maxRecDepth 100000
set_option maxHeartbeats 4000000
namespace Go.Proofs.YtddlmigofilejaaGreatDoor
open Go Go.RowKit Go.Shelf
open Go.Sort Go.Maps
open M
theorem clA (pb : Nat) (w : World) (hp : w.heap[pb]? = some (.cells #[.string ⟨#[109]⟩] 9 (0, 0))) : Calls Tryz.prog 102 #[.agg #[.string ⟨#[112]⟩, .int .i64 1, .string ⟨#[109]⟩, .string ⟨#[109]⟩], .pointer (some ⟨pb, 0, none⟩)] w fun e w' => e = .returned (.bool true) /\ Below w.heap.size w w' := by
 obtain ⟨wb, hwb⟩ : ∃ wb, wb = w.alloc (.cells #[.string ⟨#[112]⟩, .int .i64 1, .string ⟨#[109]⟩, .string ⟨#[109]⟩] 57) := ⟨_, rfl⟩
 have B0 : Below w.heap.size w wb := by rw [hwb]; exact below_new (Below.refl _ _) _
 have Y0 : wb.heap[w.heap.size]? = some (.cells #[.string ⟨#[112]⟩, .int .i64 1, .string ⟨#[109]⟩, .string ⟨#[109]⟩] 57 (0, 0)) := by rw [hwb]; exact heap_alloc_new w _
 have X0 := (B0.block pb (Array.getElem?_eq_some_iff.1 hp).1).trans hp
 have x0 := cZ X0 0
 simp at x0
 obtain ⟨y0, y1, y2, y3⟩ := cq4 Y0
 simp at y0 y1 y2 y3
 have HB0 := zH B0
 have HWB := zH hwb
 clear hwb B0 Y0 X0 hp
 go_enter Tryz.func102, Tryz.ntmps102
 go_upto_region 1 with fail
 rw [<- HWB.out]
 clear HWB
 go_wp2_with fail
 go_ret
 exact ⟨rfl, HB0.out⟩
theorem ixA (pb g o c : Nat) (w : World) (hp : w.heap[pb]? = some (.cells #[.string ⟨#[109]⟩] 9 (0, 0))) (h0 : w.cell? ⟨g, o, none⟩ = some (.string ⟨#[112]⟩)) (h1 : w.cell? ⟨g, o + 1, none⟩ = some (.int .i64 1)) (h2 : w.cell? ⟨g, o + 2, none⟩ = some (.string ⟨#[109]⟩)) (h3 : w.cell? ⟨g, o + 3, none⟩ = some (.string ⟨#[109]⟩)) : Calls Tryz.prog 100 #[.slice (some ⟨g, o, none⟩) 1 c, .func (.func 102) #[] #[.pointer (some ⟨pb, 0, none⟩)]] w fun e w' => e = .returned (.int .i64 0) /\ Below w.heap.size w w' := by
 have EC := zH (clA pb w hp)
 clear hp
 go_enter Tryz.func100, Tryz.ntmps100
 go_wp2_with fail
 go_loopw [8] (fun s wr => s = .int .i64 0 /\ w = wr) (fun _ _ => 0)
 case atStart => exact ⟨rfl, rfl⟩
 case round =>
  obtain ⟨rfl, rfl⟩ := hrel;go_wp2_with fail
  refine EC.out.mono ?_; rintro e w4 ⟨rfl, hb4⟩
  have HB4 := zH hb4;clear hb4 h0 h1 h2 h3;go_wp2_with fail
  go_ret;exact ⟨rfl, HB4.out⟩
theorem fiA (pb g o c : Nat) (w : World) (hp : w.heap[pb]? = some (.cells #[.string ⟨#[109]⟩] 9 (0, 0))) (h0 : w.cell? ⟨g, o, none⟩ = some (.string ⟨#[112]⟩)) (h1 : w.cell? ⟨g, o + 1, none⟩ = some (.int .i64 1)) (h2 : w.cell? ⟨g, o + 2, none⟩ = some (.string ⟨#[109]⟩)) (h3 : w.cell? ⟨g, o + 3, none⟩ = some (.string ⟨#[109]⟩)) : Calls Tryz.prog 101 #[.slice (some ⟨g, o, none⟩) 1 c, .func (.func 102) #[] #[.pointer (some ⟨pb, 0, none⟩)]] w fun e w' => e = .returned (.tuple #[.agg #[.string ⟨#[112]⟩, .int .i64 1, .string ⟨#[109]⟩, .string ⟨#[109]⟩], .bool true]) /\ Below w.heap.size w w' := by
 obtain ⟨W2, hW2⟩ : ∃ W2, W2 = w.alloc (.cells #[.string ⟨#[]⟩, .int .i64 0, .string ⟨#[]⟩, .string ⟨#[]⟩] 57) := ⟨_, rfl⟩
 have B2 : Below w.heap.size w W2 := by rw [hW2]; exact below_new (Below.refl _ _) _
 have O1 : W2.heap[w.heap.size]? = some (.cells #[.string ⟨#[]⟩, .int .i64 0, .string ⟨#[]⟩, .string ⟨#[]⟩] 57 (0, 0)) := by rw [hW2]; exact heap_alloc_new w _
 replace h0 := (B2.cell (p := ⟨g, o, none⟩) (World.block_lt_of_cell? _ _ h0)).trans h0
 replace h1 := (B2.cell (p := ⟨g, o + 1, none⟩) (World.block_lt_of_cell? _ _ h1)).trans h1
 replace h2 := (B2.cell (p := ⟨g, o + 2, none⟩) (World.block_lt_of_cell? _ _ h2)).trans h2
 replace h3 := (B2.cell (p := ⟨g, o + 3, none⟩) (World.block_lt_of_cell? _ _ h3)).trans h3
 have IX := zH (ixA pb g o c W2 ((B2.block pb (Array.getElem?_eq_some_iff.1 hp).1).trans hp) h0 h1 h2 h3)
 have HB2 := zH B2
 have HO1 := zH O1
 have hl2 := (Array.getElem?_eq_some_iff.1 O1).1
 have HW := zH hW2
 have H0 := zH h0
 have H1 := zH h1
 have H2 := zH h2
 have H3 := zH h3
 clear hp hW2 B2 O1 h0 h1 h2 h3
 go_enter Tryz.func101, Tryz.ntmps101
 go_upto_region 1 with fail
 rw [<- HW.out]
 clear HW
 go_wp2_with fail
 refine IX.out.mono ?_; rintro e w2 ⟨rfl, hb2⟩
 have h0 := (hb2.cell (p := ⟨g, o, none⟩) (World.block_lt_of_cell? _ _ H0.out)).trans H0.out
 have h1 := (hb2.cell (p := ⟨g, o + 1, none⟩) (World.block_lt_of_cell? _ _ H1.out)).trans H1.out
 have h2 := (hb2.cell (p := ⟨g, o + 2, none⟩) (World.block_lt_of_cell? _ _ H2.out)).trans H2.out
 have h3 := (hb2.cell (p := ⟨g, o + 3, none⟩) (World.block_lt_of_cell? _ _ H3.out)).trans H3.out
 have X5 := (hb2.block _ hl2).trans HO1.out
 have HX5 := zH X5
 have FIN : Hid (Below w.heap.size w (w2.setRow w.heap.size #[.string ⟨#[112]⟩, .int .i64 1, .string ⟨#[109]⟩, .string ⟨#[109]⟩])) := zH (setRow_below (below_over HB2.out hb2) (Nat.le_refl _) _)
 clear hb2 IX
 go_wp2_with (first | ((with_reducible refine wpList_putRow 57 (w.heap.size) #[.string ⟨#[112]⟩, .int .i64 1, .string ⟨#[109]⟩, .string ⟨#[109]⟩] _ _ X5 ?_ ?_ ?_ ?_ ?_ ?_); exact impSizeI; rfl; exact impOneI; iterate 2 (focus (first | (go_simp; done) | rfl))))
 exact ret_agg (fn := Tryz.f101) (vs := [.string ⟨#[112]⟩, .int .i64 1, .string ⟨#[109]⟩, .string ⟨#[109]⟩]) (b := w.heap.size) rfl rfl rfl Tryz.underlying57 (by kernel_rfl) (cell4I (setRow_heap w2 w.heap.size _ _ _ _ HX5.out)) rfl ⟨rfl, FIN.out⟩
theorem lkA (g o c : Nat) (w : World) (h0 : w.cell? ⟨g, o, none⟩ = some (.string ⟨#[112]⟩)) (h1 : w.cell? ⟨g, o + 1, none⟩ = some (.int .i64 1)) (h2 : w.cell? ⟨g, o + 2, none⟩ = some (.string ⟨#[109]⟩)) (h3 : w.cell? ⟨g, o + 3, none⟩ = some (.string ⟨#[109]⟩)) : Calls Tryz.prog 62 #[.slice (some ⟨g, o, none⟩) 1 c, .string ⟨#[109]⟩] w fun e w' => e = .returned (.tuple #[.agg #[.string ⟨#[112]⟩, .int .i64 1, .string ⟨#[109]⟩, .string ⟨#[109]⟩], .bool true]) /\ Below w.heap.size w w' := by
 obtain ⟨W2, hW2, B2, O0, O1, hl2⟩ := two_boxes w #[.string ⟨#[109]⟩] #[.string ⟨#[]⟩, .int .i64 0, .string ⟨#[]⟩, .string ⟨#[]⟩] 9 57
 replace h0 := (B2.cell (p := ⟨g, o, none⟩) (World.block_lt_of_cell? _ _ h0)).trans h0
 replace h1 := (B2.cell (p := ⟨g, o + 1, none⟩) (World.block_lt_of_cell? _ _ h1)).trans h1
 replace h2 := (B2.cell (p := ⟨g, o + 2, none⟩) (World.block_lt_of_cell? _ _ h2)).trans h2
 replace h3 := (B2.cell (p := ⟨g, o + 3, none⟩) (World.block_lt_of_cell? _ _ h3)).trans h3
 have IX := zH (fiA w.heap.size g o c W2 O0 h0 h1 h2 h3)
 have HB2 := zH B2
 have HO1 := zH O1
 have HW := zH hW2
 clear hW2 B2 O0 O1 h0 h1 h2 h3
 go_enter Tryz.func62, Tryz.ntmps62
 go_upto_region 1 with fail
 rw [<- HW.out]
 clear HW
 go_wp2_with fail
 refine IX.out.mono ?_; rintro e w2 ⟨rfl, hb2⟩
 have X5 := (hb2.block _ hl2).trans HO1.out
 have HX5 := zH X5
 have FIN : Hid (Below w.heap.size w (w2.setRow (w.heap.size + 1) #[.string ⟨#[112]⟩, .int .i64 1, .string ⟨#[109]⟩, .string ⟨#[109]⟩])) := zH (setRow_below (below_over HB2.out hb2) (by omega) _)
 clear hb2 IX
 go_wp2_with (first | ((with_reducible refine wpList_putRow 57 (w.heap.size + 1) #[.string ⟨#[112]⟩, .int .i64 1, .string ⟨#[109]⟩, .string ⟨#[109]⟩] _ _ X5 ?_ ?_ ?_ ?_ ?_ ?_); exact impSizeI; rfl; exact impOneI; iterate 2 (focus (first | (go_simp; done) | rfl))))
 exact ret_agg (fn := Tryz.f62) (vs := [.string ⟨#[112]⟩, .int .i64 1, .string ⟨#[109]⟩, .string ⟨#[109]⟩]) (b := w.heap.size + 1) rfl rfl rfl Tryz.underlying57 (by kernel_rfl) (cell4I (setRow_heap w2 (w.heap.size + 1) _ _ _ _ HX5.out)) rfl ⟨rfl, FIN.out⟩
theorem clB (vb : Nat) (pb : Nat) (w : World) (hp : w.heap[pb]? = some (.cells #[.string ⟨#[112]⟩, .int .i64 1, .string ⟨#[109]⟩, .string ⟨#[109]⟩] 57 (0, 0))) : Calls Tryz.prog 105 #[.agg #[.string ⟨#[112]⟩, .int .i64 1, .string ⟨#[109]⟩, .slice none 0 0, .slice (some ⟨vb, 0, none⟩) 1 1], .pointer (some ⟨pb, 0, none⟩)] w fun e w' => e = .returned (.bool true) /\ Below w.heap.size w w' := by
 obtain ⟨wb, hwb⟩ : ∃ wb, wb = w.alloc (.cells #[.string ⟨#[112]⟩, .int .i64 1, .string ⟨#[109]⟩, .slice none 0 0, .slice (some ⟨vb, 0, none⟩) 1 1] 53) := ⟨_, rfl⟩
 have B0 : Below w.heap.size w wb := by rw [hwb]; exact below_new (Below.refl _ _) _
 have Y0 : wb.heap[w.heap.size]? = some (.cells #[.string ⟨#[112]⟩, .int .i64 1, .string ⟨#[109]⟩, .slice none 0 0, .slice (some ⟨vb, 0, none⟩) 1 1] 53 (0, 0)) := by rw [hwb]; exact heap_alloc_new w _
 have X0 := (B0.block pb (Array.getElem?_eq_some_iff.1 hp).1).trans hp
 obtain ⟨x0, x1, x2, x3⟩ := cq4 X0
 simp at x0 x1 x2 x3
 obtain ⟨y0, y1, y2, y3, y4⟩ := cq5 Y0
 simp at y0 y1 y2 y3 y4
 have HB0 := zH B0
 have HWB := zH hwb
 clear hwb B0 Y0 X0 hp
 go_enter Tryz.func105, Tryz.ntmps105
 go_upto_region 1 with fail
 rw [<- HWB.out]
 clear HWB
 go_wp2_with fail
 go_ret
 exact ⟨rfl, HB0.out⟩
theorem ixB (vb : Nat) (pb g o c : Nat) (w : World) (hp : w.heap[pb]? = some (.cells #[.string ⟨#[112]⟩, .int .i64 1, .string ⟨#[109]⟩, .string ⟨#[109]⟩] 57 (0, 0))) (h0 : w.cell? ⟨g, o, none⟩ = some (.string ⟨#[112]⟩)) (h1 : w.cell? ⟨g, o + 1, none⟩ = some (.int .i64 1)) (h2 : w.cell? ⟨g, o + 2, none⟩ = some (.string ⟨#[109]⟩)) (h3 : w.cell? ⟨g, o + 3, none⟩ = some (.slice none 0 0)) (h4 : w.cell? ⟨g, o + 4, none⟩ = some (.slice (some ⟨vb, 0, none⟩) 1 1)) : Calls Tryz.prog 153 #[.slice (some ⟨g, o, none⟩) 1 c, .func (.func 105) #[] #[.pointer (some ⟨pb, 0, none⟩)]] w fun e w' => e = .returned (.int .i64 0) /\ Below w.heap.size w w' := by
 have EC := zH (clB vb pb w hp)
 clear hp
 go_enter Tryz.func153, Tryz.ntmps153
 go_wp2_with fail
 go_loopw [8] (fun s wr => s = .int .i64 0 /\ w = wr) (fun _ _ => 0)
 case atStart => exact ⟨rfl, rfl⟩
 case round =>
  obtain ⟨rfl, rfl⟩ := hrel;go_wp2_with fail
  refine EC.out.mono ?_; rintro e w4 ⟨rfl, hb4⟩
  have HB4 := zH hb4;clear hb4 h0 h1 h2 h3 h4;go_wp2_with fail
  go_ret;exact ⟨rfl, HB4.out⟩
theorem fiB (vb : Nat) (pb g o c : Nat) (w : World) (hp : w.heap[pb]? = some (.cells #[.string ⟨#[112]⟩, .int .i64 1, .string ⟨#[109]⟩, .string ⟨#[109]⟩] 57 (0, 0))) (h0 : w.cell? ⟨g, o, none⟩ = some (.string ⟨#[112]⟩)) (h1 : w.cell? ⟨g, o + 1, none⟩ = some (.int .i64 1)) (h2 : w.cell? ⟨g, o + 2, none⟩ = some (.string ⟨#[109]⟩)) (h3 : w.cell? ⟨g, o + 3, none⟩ = some (.slice none 0 0)) (h4 : w.cell? ⟨g, o + 4, none⟩ = some (.slice (some ⟨vb, 0, none⟩) 1 1)) : Calls Tryz.prog 104 #[.slice (some ⟨g, o, none⟩) 1 c, .func (.func 105) #[] #[.pointer (some ⟨pb, 0, none⟩)]] w fun e w' => e = .returned (.tuple #[.agg #[.string ⟨#[112]⟩, .int .i64 1, .string ⟨#[109]⟩, .slice none 0 0, .slice (some ⟨vb, 0, none⟩) 1 1], .bool true]) /\ Below w.heap.size w w' := by
 obtain ⟨W2, hW2⟩ : ∃ W2, W2 = w.alloc (.cells #[.string ⟨#[]⟩, .int .i64 0, .string ⟨#[]⟩, .slice none 0 0, .slice none 0 0] 53) := ⟨_, rfl⟩
 have B2 : Below w.heap.size w W2 := by rw [hW2]; exact below_new (Below.refl _ _) _
 have O1 : W2.heap[w.heap.size]? = some (.cells #[.string ⟨#[]⟩, .int .i64 0, .string ⟨#[]⟩, .slice none 0 0, .slice none 0 0] 53 (0, 0)) := by rw [hW2]; exact heap_alloc_new w _
 replace h0 := (B2.cell (p := ⟨g, o, none⟩) (World.block_lt_of_cell? _ _ h0)).trans h0
 replace h1 := (B2.cell (p := ⟨g, o + 1, none⟩) (World.block_lt_of_cell? _ _ h1)).trans h1
 replace h2 := (B2.cell (p := ⟨g, o + 2, none⟩) (World.block_lt_of_cell? _ _ h2)).trans h2
 replace h3 := (B2.cell (p := ⟨g, o + 3, none⟩) (World.block_lt_of_cell? _ _ h3)).trans h3
 replace h4 := (B2.cell (p := ⟨g, o + 4, none⟩) (World.block_lt_of_cell? _ _ h4)).trans h4
 have IX := zH (ixB vb pb g o c W2 ((B2.block pb (Array.getElem?_eq_some_iff.1 hp).1).trans hp) h0 h1 h2 h3 h4)
 have HB2 := zH B2
 have HO1 := zH O1
 have hl2 := (Array.getElem?_eq_some_iff.1 O1).1
 have HW := zH hW2
 have H0 := zH h0
 have H1 := zH h1
 have H2 := zH h2
 have H3 := zH h3
 have H4 := zH h4
 clear hp hW2 B2 O1 h0 h1 h2 h3 h4
 go_enter Tryz.func104, Tryz.ntmps104
 go_upto_region 1 with fail
 rw [<- HW.out]
 clear HW
 go_wp2_with fail
 refine IX.out.mono ?_; rintro e w2 ⟨rfl, hb2⟩
 have h0 := (hb2.cell (p := ⟨g, o, none⟩) (World.block_lt_of_cell? _ _ H0.out)).trans H0.out
 have h1 := (hb2.cell (p := ⟨g, o + 1, none⟩) (World.block_lt_of_cell? _ _ H1.out)).trans H1.out
 have h2 := (hb2.cell (p := ⟨g, o + 2, none⟩) (World.block_lt_of_cell? _ _ H2.out)).trans H2.out
 have h3 := (hb2.cell (p := ⟨g, o + 3, none⟩) (World.block_lt_of_cell? _ _ H3.out)).trans H3.out
 have h4 := (hb2.cell (p := ⟨g, o + 4, none⟩) (World.block_lt_of_cell? _ _ H4.out)).trans H4.out
 have X5 := (hb2.block _ hl2).trans HO1.out
 have HX5 := zH X5
 have FIN : Hid (Below w.heap.size w (w2.setRow w.heap.size #[.string ⟨#[112]⟩, .int .i64 1, .string ⟨#[109]⟩, .slice none 0 0, .slice (some ⟨vb, 0, none⟩) 1 1])) := zH (setRow_below (below_over HB2.out hb2) (Nat.le_refl _) _)
 clear hb2 IX
 go_wp2_with (first | ((with_reducible refine wpList_putRow 53 (w.heap.size) #[.string ⟨#[112]⟩, .int .i64 1, .string ⟨#[109]⟩, .slice none 0 0, .slice (some ⟨vb, 0, none⟩) 1 1] _ _ X5 ?_ ?_ ?_ ?_ ?_ ?_); exact ifSize; rfl; exact ifOne; iterate 2 (focus (first | (go_simp; done) | rfl))))
 exact ret_agg (fn := Tryz.f104) (vs := [.string ⟨#[112]⟩, .int .i64 1, .string ⟨#[109]⟩, .slice none 0 0, .slice (some ⟨vb, 0, none⟩) 1 1]) (b := w.heap.size) rfl rfl rfl Tryz.underlying53 (by kernel_rfl) (cell5 (setRow_heap w2 w.heap.size _ _ _ _ HX5.out)) rfl ⟨rfl, FIN.out⟩
theorem lkB (vb : Nat) (g o c : Nat) (w : World) (h0 : w.cell? ⟨g, o, none⟩ = some (.string ⟨#[112]⟩)) (h1 : w.cell? ⟨g, o + 1, none⟩ = some (.int .i64 1)) (h2 : w.cell? ⟨g, o + 2, none⟩ = some (.string ⟨#[109]⟩)) (h3 : w.cell? ⟨g, o + 3, none⟩ = some (.slice none 0 0)) (h4 : w.cell? ⟨g, o + 4, none⟩ = some (.slice (some ⟨vb, 0, none⟩) 1 1)) : Calls Tryz.prog 64 #[.slice (some ⟨g, o, none⟩) 1 c, .agg #[.string ⟨#[112]⟩, .int .i64 1, .string ⟨#[109]⟩, .string ⟨#[109]⟩]] w fun e w' => e = .returned (.tuple #[.agg #[.string ⟨#[112]⟩, .int .i64 1, .string ⟨#[109]⟩, .slice none 0 0, .slice (some ⟨vb, 0, none⟩) 1 1], .bool true]) /\ Below w.heap.size w w' := by
 obtain ⟨W2, hW2, B2, O0, O1, hl2⟩ := two_boxes w #[.string ⟨#[112]⟩, .int .i64 1, .string ⟨#[109]⟩, .string ⟨#[109]⟩] #[.string ⟨#[]⟩, .int .i64 0, .string ⟨#[]⟩, .slice none 0 0, .slice none 0 0] 57 53
 replace h0 := (B2.cell (p := ⟨g, o, none⟩) (World.block_lt_of_cell? _ _ h0)).trans h0
 replace h1 := (B2.cell (p := ⟨g, o + 1, none⟩) (World.block_lt_of_cell? _ _ h1)).trans h1
 replace h2 := (B2.cell (p := ⟨g, o + 2, none⟩) (World.block_lt_of_cell? _ _ h2)).trans h2
 replace h3 := (B2.cell (p := ⟨g, o + 3, none⟩) (World.block_lt_of_cell? _ _ h3)).trans h3
 replace h4 := (B2.cell (p := ⟨g, o + 4, none⟩) (World.block_lt_of_cell? _ _ h4)).trans h4
 have IX := zH (fiB vb w.heap.size g o c W2 O0 h0 h1 h2 h3 h4)
 have HB2 := zH B2
 have HO1 := zH O1
 have HW := zH hW2
 clear hW2 B2 O0 O1 h0 h1 h2 h3 h4
 go_enter Tryz.func64, Tryz.ntmps64
 go_upto_region 1 with fail
 rw [<- HW.out]
 clear HW
 go_wp2_with fail
 refine IX.out.mono ?_; rintro e w2 ⟨rfl, hb2⟩
 have X5 := (hb2.block _ hl2).trans HO1.out
 have HX5 := zH X5
 have FIN : Hid (Below w.heap.size w (w2.setRow (w.heap.size + 1) #[.string ⟨#[112]⟩, .int .i64 1, .string ⟨#[109]⟩, .slice none 0 0, .slice (some ⟨vb, 0, none⟩) 1 1])) := zH (setRow_below (below_over HB2.out hb2) (by omega) _)
 clear hb2 IX
 go_wp2_with (first | ((with_reducible refine wpList_putRow 53 (w.heap.size + 1) #[.string ⟨#[112]⟩, .int .i64 1, .string ⟨#[109]⟩, .slice none 0 0, .slice (some ⟨vb, 0, none⟩) 1 1] _ _ X5 ?_ ?_ ?_ ?_ ?_ ?_); exact ifSize; rfl; exact ifOne; iterate 2 (focus (first | (go_simp; done) | rfl))))
 exact ret_agg (fn := Tryz.f64) (vs := [.string ⟨#[112]⟩, .int .i64 1, .string ⟨#[109]⟩, .slice none 0 0, .slice (some ⟨vb, 0, none⟩) 1 1]) (b := w.heap.size + 1) rfl rfl rfl Tryz.underlying53 (by kernel_rfl) (cell5 (setRow_heap w2 (w.heap.size + 1) _ _ _ _ HX5.out)) rfl ⟨rfl, FIN.out⟩
theorem clC (pb : Nat) (w : World) (hp : w.heap[pb]? = some (.cells #[.string ⟨#[102]⟩] 9 (0, 0))) : Calls Tryz.prog 155 #[.agg #[.string ⟨#[102]⟩, .int .i64 1, .string ⟨#[]⟩, .int .i64 0, .string ⟨#[]⟩, .string ⟨#[]⟩, .slice none 0 0, .slice none 0 0], .pointer (some ⟨pb, 0, none⟩)] w fun e w' => e = .returned (.bool true) /\ Below w.heap.size w w' := by
 obtain ⟨wb, hwb⟩ : ∃ wb, wb = w.alloc (.cells #[.string ⟨#[102]⟩, .int .i64 1, .string ⟨#[]⟩, .int .i64 0, .string ⟨#[]⟩, .string ⟨#[]⟩, .slice none 0 0, .slice none 0 0] 50) := ⟨_, rfl⟩
 have B0 : Below w.heap.size w wb := by rw [hwb]; exact below_new (Below.refl _ _) _
 have Y0 : wb.heap[w.heap.size]? = some (.cells #[.string ⟨#[102]⟩, .int .i64 1, .string ⟨#[]⟩, .int .i64 0, .string ⟨#[]⟩, .string ⟨#[]⟩, .slice none 0 0, .slice none 0 0] 50 (0, 0)) := by rw [hwb]; exact heap_alloc_new w _
 have X0 := (B0.block pb (Array.getElem?_eq_some_iff.1 hp).1).trans hp
 have x0 := cZ X0 0
 simp at x0
 obtain ⟨y0, y1, y2, y3, y4, y5, y6, y7⟩ := cq8 Y0
 simp at y0 y1 y2 y3 y4 y5 y6 y7
 have HB0 := zH B0
 have HWB := zH hwb
 clear hwb B0 Y0 X0 hp
 go_enter Tryz.func155, Tryz.ntmps155
 go_upto_region 1 with fail
 rw [<- HWB.out]
 clear HWB
 go_wp2_with fail
 go_ret
 exact ⟨rfl, HB0.out⟩
theorem ixC (pb g o c : Nat) (w : World) (hp : w.heap[pb]? = some (.cells #[.string ⟨#[102]⟩] 9 (0, 0))) (h0 : w.cell? ⟨g, o, none⟩ = some (.string ⟨#[102]⟩)) (h1 : w.cell? ⟨g, o + 1, none⟩ = some (.int .i64 1)) (h2 : w.cell? ⟨g, o + 2, none⟩ = some (.string ⟨#[]⟩)) (h3 : w.cell? ⟨g, o + 3, none⟩ = some (.int .i64 0)) (h4 : w.cell? ⟨g, o + 4, none⟩ = some (.string ⟨#[]⟩)) (h5 : w.cell? ⟨g, o + 5, none⟩ = some (.string ⟨#[]⟩)) (h6 : w.cell? ⟨g, o + 6, none⟩ = some (.slice none 0 0)) (h7 : w.cell? ⟨g, o + 7, none⟩ = some (.slice none 0 0)) : Calls Tryz.prog 188 #[.slice (some ⟨g, o, none⟩) 1 c, .func (.func 155) #[] #[.pointer (some ⟨pb, 0, none⟩)]] w fun e w' => e = .returned (.int .i64 0) /\ Below w.heap.size w w' := by
 have EC := zH (clC pb w hp)
 clear hp
 go_enter Tryz.func188, Tryz.ntmps188
 go_wp2_with fail
 go_loopw [8] (fun s wr => s = .int .i64 0 /\ w = wr) (fun _ _ => 0)
 case atStart => exact ⟨rfl, rfl⟩
 case round =>
  obtain ⟨rfl, rfl⟩ := hrel;go_wp2_with fail
  refine EC.out.mono ?_; rintro e w4 ⟨rfl, hb4⟩
  have HB4 := zH hb4;clear hb4 h0 h1 h2 h3 h4 h5 h6 h7;go_wp2_with fail
  go_ret;exact ⟨rfl, HB4.out⟩
theorem fiC (pb g o c : Nat) (w : World) (hp : w.heap[pb]? = some (.cells #[.string ⟨#[102]⟩] 9 (0, 0))) (h0 : w.cell? ⟨g, o, none⟩ = some (.string ⟨#[102]⟩)) (h1 : w.cell? ⟨g, o + 1, none⟩ = some (.int .i64 1)) (h2 : w.cell? ⟨g, o + 2, none⟩ = some (.string ⟨#[]⟩)) (h3 : w.cell? ⟨g, o + 3, none⟩ = some (.int .i64 0)) (h4 : w.cell? ⟨g, o + 4, none⟩ = some (.string ⟨#[]⟩)) (h5 : w.cell? ⟨g, o + 5, none⟩ = some (.string ⟨#[]⟩)) (h6 : w.cell? ⟨g, o + 6, none⟩ = some (.slice none 0 0)) (h7 : w.cell? ⟨g, o + 7, none⟩ = some (.slice none 0 0)) : Calls Tryz.prog 154 #[.slice (some ⟨g, o, none⟩) 1 c, .func (.func 155) #[] #[.pointer (some ⟨pb, 0, none⟩)]] w fun e w' => e = .returned (.tuple #[.agg #[.string ⟨#[102]⟩, .int .i64 1, .string ⟨#[]⟩, .int .i64 0, .string ⟨#[]⟩, .string ⟨#[]⟩, .slice none 0 0, .slice none 0 0], .bool true]) /\ Below w.heap.size w w' := by
 obtain ⟨W2, hW2⟩ : ∃ W2, W2 = w.alloc (.cells #[.string ⟨#[]⟩, .int .i64 0, .string ⟨#[]⟩, .int .i64 0, .string ⟨#[]⟩, .string ⟨#[]⟩, .slice none 0 0, .slice none 0 0] 50) := ⟨_, rfl⟩
 have B2 : Below w.heap.size w W2 := by rw [hW2]; exact below_new (Below.refl _ _) _
 have O1 : W2.heap[w.heap.size]? = some (.cells #[.string ⟨#[]⟩, .int .i64 0, .string ⟨#[]⟩, .int .i64 0, .string ⟨#[]⟩, .string ⟨#[]⟩, .slice none 0 0, .slice none 0 0] 50 (0, 0)) := by rw [hW2]; exact heap_alloc_new w _
 replace h0 := (B2.cell (p := ⟨g, o, none⟩) (World.block_lt_of_cell? _ _ h0)).trans h0
 replace h1 := (B2.cell (p := ⟨g, o + 1, none⟩) (World.block_lt_of_cell? _ _ h1)).trans h1
 replace h2 := (B2.cell (p := ⟨g, o + 2, none⟩) (World.block_lt_of_cell? _ _ h2)).trans h2
 replace h3 := (B2.cell (p := ⟨g, o + 3, none⟩) (World.block_lt_of_cell? _ _ h3)).trans h3
 replace h4 := (B2.cell (p := ⟨g, o + 4, none⟩) (World.block_lt_of_cell? _ _ h4)).trans h4
 replace h5 := (B2.cell (p := ⟨g, o + 5, none⟩) (World.block_lt_of_cell? _ _ h5)).trans h5
 replace h6 := (B2.cell (p := ⟨g, o + 6, none⟩) (World.block_lt_of_cell? _ _ h6)).trans h6
 replace h7 := (B2.cell (p := ⟨g, o + 7, none⟩) (World.block_lt_of_cell? _ _ h7)).trans h7
 have IX := zH (ixC pb g o c W2 ((B2.block pb (Array.getElem?_eq_some_iff.1 hp).1).trans hp) h0 h1 h2 h3 h4 h5 h6 h7)
 have HB2 := zH B2
 have HO1 := zH O1
 have hl2 := (Array.getElem?_eq_some_iff.1 O1).1
 have HW := zH hW2
 have H0 := zH h0
 have H1 := zH h1
 have H2 := zH h2
 have H3 := zH h3
 have H4 := zH h4
 have H5 := zH h5
 have H6 := zH h6
 have H7 := zH h7
 clear hp hW2 B2 O1 h0 h1 h2 h3 h4 h5 h6 h7
 go_enter Tryz.func154, Tryz.ntmps154
 go_upto_region 1 with fail
 rw [<- HW.out]
 clear HW
 go_wp2_with fail
 refine IX.out.mono ?_; rintro e w2 ⟨rfl, hb2⟩
 have h0 := (hb2.cell (p := ⟨g, o, none⟩) (World.block_lt_of_cell? _ _ H0.out)).trans H0.out
 have h1 := (hb2.cell (p := ⟨g, o + 1, none⟩) (World.block_lt_of_cell? _ _ H1.out)).trans H1.out
 have h2 := (hb2.cell (p := ⟨g, o + 2, none⟩) (World.block_lt_of_cell? _ _ H2.out)).trans H2.out
 have h3 := (hb2.cell (p := ⟨g, o + 3, none⟩) (World.block_lt_of_cell? _ _ H3.out)).trans H3.out
 have h4 := (hb2.cell (p := ⟨g, o + 4, none⟩) (World.block_lt_of_cell? _ _ H4.out)).trans H4.out
 have h5 := (hb2.cell (p := ⟨g, o + 5, none⟩) (World.block_lt_of_cell? _ _ H5.out)).trans H5.out
 have h6 := (hb2.cell (p := ⟨g, o + 6, none⟩) (World.block_lt_of_cell? _ _ H6.out)).trans H6.out
 have h7 := (hb2.cell (p := ⟨g, o + 7, none⟩) (World.block_lt_of_cell? _ _ H7.out)).trans H7.out
 have X5 := (hb2.block _ hl2).trans HO1.out
 have HX5 := zH X5
 have FIN : Hid (Below w.heap.size w (w2.setRow w.heap.size #[.string ⟨#[102]⟩, .int .i64 1, .string ⟨#[]⟩, .int .i64 0, .string ⟨#[]⟩, .string ⟨#[]⟩, .slice none 0 0, .slice none 0 0])) := zH (setRow_below (below_over HB2.out hb2) (Nat.le_refl _) _)
 clear hb2 IX
 go_wp2_with (first | ((with_reducible refine wpList_putRow 50 (w.heap.size) #[.string ⟨#[102]⟩, .int .i64 1, .string ⟨#[]⟩, .int .i64 0, .string ⟨#[]⟩, .string ⟨#[]⟩, .slice none 0 0, .slice none 0 0] _ _ X5 ?_ ?_ ?_ ?_ ?_ ?_); exact nmSizeI; rfl; exact nmOneI; iterate 2 (focus (first | (go_simp; done) | rfl))))
 exact ret_agg (fn := Tryz.f154) (vs := [.string ⟨#[102]⟩, .int .i64 1, .string ⟨#[]⟩, .int .i64 0, .string ⟨#[]⟩, .string ⟨#[]⟩, .slice none 0 0, .slice none 0 0]) (b := w.heap.size) rfl rfl rfl Tryz.underlying50 (by kernel_rfl) (cell8I (setRow_heap w2 w.heap.size _ _ _ _ HX5.out)) rfl ⟨rfl, FIN.out⟩
theorem lkC (g o c : Nat) (w : World) (h0 : w.cell? ⟨g, o, none⟩ = some (.string ⟨#[102]⟩)) (h1 : w.cell? ⟨g, o + 1, none⟩ = some (.int .i64 1)) (h2 : w.cell? ⟨g, o + 2, none⟩ = some (.string ⟨#[]⟩)) (h3 : w.cell? ⟨g, o + 3, none⟩ = some (.int .i64 0)) (h4 : w.cell? ⟨g, o + 4, none⟩ = some (.string ⟨#[]⟩)) (h5 : w.cell? ⟨g, o + 5, none⟩ = some (.string ⟨#[]⟩)) (h6 : w.cell? ⟨g, o + 6, none⟩ = some (.slice none 0 0)) (h7 : w.cell? ⟨g, o + 7, none⟩ = some (.slice none 0 0)) : Calls Tryz.prog 106 #[.slice (some ⟨g, o, none⟩) 1 c, .string ⟨#[102]⟩] w fun e w' => e = .returned (.tuple #[.agg #[.int .i64 1, .string ⟨#[]⟩, .int .i64 0, .string ⟨#[]⟩, .string ⟨#[]⟩, .slice none 0 0, .slice none 0 0], .bool true]) /\ Below w.heap.size w w' := by
 obtain ⟨W2, hW2, B2, O0, O1, hl2⟩ := two_boxes w #[.string ⟨#[102]⟩] #[.int .i64 0, .string ⟨#[]⟩, .int .i64 0, .string ⟨#[]⟩, .string ⟨#[]⟩, .slice none 0 0, .slice none 0 0] 9 48
 replace h0 := (B2.cell (p := ⟨g, o, none⟩) (World.block_lt_of_cell? _ _ h0)).trans h0
 replace h1 := (B2.cell (p := ⟨g, o + 1, none⟩) (World.block_lt_of_cell? _ _ h1)).trans h1
 replace h2 := (B2.cell (p := ⟨g, o + 2, none⟩) (World.block_lt_of_cell? _ _ h2)).trans h2
 replace h3 := (B2.cell (p := ⟨g, o + 3, none⟩) (World.block_lt_of_cell? _ _ h3)).trans h3
 replace h4 := (B2.cell (p := ⟨g, o + 4, none⟩) (World.block_lt_of_cell? _ _ h4)).trans h4
 replace h5 := (B2.cell (p := ⟨g, o + 5, none⟩) (World.block_lt_of_cell? _ _ h5)).trans h5
 replace h6 := (B2.cell (p := ⟨g, o + 6, none⟩) (World.block_lt_of_cell? _ _ h6)).trans h6
 replace h7 := (B2.cell (p := ⟨g, o + 7, none⟩) (World.block_lt_of_cell? _ _ h7)).trans h7
 have IX := zH (fiC w.heap.size g o c W2 O0 h0 h1 h2 h3 h4 h5 h6 h7)
 have HB2 := zH B2
 have HO1 := zH O1
 have HW := zH hW2
 clear hW2 B2 O0 O1 h0 h1 h2 h3 h4 h5 h6 h7
 go_enter Tryz.func106, Tryz.ntmps106
 go_upto_region 1 with fail
 rw [<- HW.out]
 clear HW
 go_wp2_with fail
 refine IX.out.mono ?_; rintro e w2 ⟨rfl, hb2⟩
 obtain ⟨w3, hw3⟩ : ∃ w3, w3 = w2.alloc (.cells #[.string ⟨#[102]⟩, .int .i64 1, .string ⟨#[]⟩, .int .i64 0, .string ⟨#[]⟩, .string ⟨#[]⟩, .slice none 0 0, .slice none 0 0] 50) := ⟨_, rfl⟩
 have B3 : Below w2.heap.size w2 w3 := by rw [hw3]; exact below_new (Below.refl _ _) _
 have Z3 : w3.heap[w2.heap.size]? = some (.cells #[.string ⟨#[102]⟩, .int .i64 1, .string ⟨#[]⟩, .int .i64 0, .string ⟨#[]⟩, .string ⟨#[]⟩, .slice none 0 0, .slice none 0 0] 50 (0, 0)) := by rw [hw3]; exact heap_alloc_new w2 _
 have X5 := ((below_over hb2 B3).block _ hl2).trans HO1.out
 have HX5 := zH X5
 have FIN : Hid (Below w.heap.size w (w3.setRow (w.heap.size + 1) #[.int .i64 1, .string ⟨#[]⟩, .int .i64 0, .string ⟨#[]⟩, .string ⟨#[]⟩, .slice none 0 0, .slice none 0 0])) := zH (setRow_below (below_over HB2.out (below_over hb2 B3)) (by omega) _)
 have HW3 := zH hw3
 obtain ⟨z0, z1, z2, z3, z4, z5, z6, z7⟩ := cq8 Z3
 simp at z0 z1 z2 z3 z4 z5 z6 z7
 clear hb2 IX hw3 B3 Z3
 go_upto_region 2 with fail
 rw [<- HW3.out]
 clear HW3
 go_wp2_with (first | ((with_reducible refine wpList_putRow 48 (w.heap.size + 1) #[.int .i64 1, .string ⟨#[]⟩, .int .i64 0, .string ⟨#[]⟩, .string ⟨#[]⟩, .slice none 0 0, .slice none 0 0] _ _ X5 ?_ ?_ ?_ ?_ ?_ ?_); exact tySize; rfl; exact tyOne; iterate 2 (focus (first | (go_simp; done) | rfl))))
 exact ret_agg (fn := Tryz.f106) (vs := [.int .i64 1, .string ⟨#[]⟩, .int .i64 0, .string ⟨#[]⟩, .string ⟨#[]⟩, .slice none 0 0, .slice none 0 0]) (b := w.heap.size + 1) rfl rfl rfl Tryz.underlying48 (by kernel_rfl) (cell7 (setRow_heap w3 (w.heap.size + 1) _ _ _ _ HX5.out)) rfl ⟨rfl, FIN.out⟩
theorem ixB0  (f : Value) (w : World) : Calls Tryz.prog 153 #[.slice none 0 0, f] w fun e w' => e = .returned (.int .i64 (-1)) /\ Below w.heap.size w w' := by
 go_enter Tryz.func153, Tryz.ntmps153
 go_wp2_with fail
 go_loopw [8] (fun s wr => s = .int .i64 0 /\ w = wr) (fun _ _ => 0)
 case atStart => exact ⟨rfl, rfl⟩
 case round =>
  obtain ⟨rfl, rfl⟩ := hrel;go_wp2_with fail
  go_ret;exact ⟨rfl, Below.refl _ _⟩
theorem fiB0 (K : FuncId) (p : Value) (w : World) : Calls Tryz.prog 104 #[.slice none 0 0, .func (.func K) #[] #[p]] w fun e w' => e = .returned (.tuple #[.agg #[.string ⟨#[]⟩, .int .i64 0, .string ⟨#[]⟩, .slice none 0 0, .slice none 0 0], .bool false]) /\ Below w.heap.size w w' := by
 obtain ⟨W2, hW2⟩ : ∃ W2, W2 = w.alloc (.cells #[.string ⟨#[]⟩, .int .i64 0, .string ⟨#[]⟩, .slice none 0 0, .slice none 0 0] 53) := ⟨_, rfl⟩
 have B2 : Below w.heap.size w W2 := by rw [hW2]; exact below_new (Below.refl _ _) _
 have O1 : W2.heap[w.heap.size]? = some (.cells #[.string ⟨#[]⟩, .int .i64 0, .string ⟨#[]⟩, .slice none 0 0, .slice none 0 0] 53 (0, 0)) := by rw [hW2]; exact heap_alloc_new w _
 have IX := zH (ixB0 (.func (.func K) #[] #[p]) W2)
 have HB2 := zH B2
 have HO1 := zH O1
 have hl2 := (Array.getElem?_eq_some_iff.1 O1).1
 have HW := zH hW2
 clear hW2 B2 O1
 go_enter Tryz.func104, Tryz.ntmps104
 go_upto_region 1 with fail
 rw [<- HW.out]
 clear HW
 go_wp2_with fail
 refine IX.out.mono ?_; rintro e w2 ⟨rfl, hb2⟩
 obtain ⟨w3, hw3⟩ : ∃ w3, w3 = w2.alloc (.cells #[.string ⟨#[]⟩, .int .i64 0, .string ⟨#[]⟩, .slice none 0 0, .slice none 0 0] 53) := ⟨_, rfl⟩
 have B3 : Below w2.heap.size w2 w3 := by rw [hw3]; exact below_new (Below.refl _ _) _
 have Z3 : w3.heap[w2.heap.size]? = some (.cells #[.string ⟨#[]⟩, .int .i64 0, .string ⟨#[]⟩, .slice none 0 0, .slice none 0 0] 53 (0, 0)) := by rw [hw3]; exact heap_alloc_new w2 _
 have X5 := ((below_over hb2 B3).block _ hl2).trans HO1.out
 have HX5 := zH X5
 have FIN : Hid (Below w.heap.size w (w3.setRow w.heap.size #[.string ⟨#[]⟩, .int .i64 0, .string ⟨#[]⟩, .slice none 0 0, .slice none 0 0])) := zH (setRow_below (below_over HB2.out (below_over hb2 B3)) (Nat.le_refl _) _)
 have HW3 := zH hw3
 obtain ⟨z0, z1, z2, z3, z4⟩ := cq5 Z3
 simp at z0 z1 z2 z3 z4
 clear hb2 IX hw3 B3 Z3
 go_upto_region 4 with fail
 rw [<- HW3.out]
 clear HW3
 go_wp2_with (first | ((with_reducible refine wpList_putRow 53 (w.heap.size) #[.string ⟨#[]⟩, .int .i64 0, .string ⟨#[]⟩, .slice none 0 0, .slice none 0 0] _ _ X5 ?_ ?_ ?_ ?_ ?_ ?_); exact ifSize; rfl; exact ifOne; iterate 2 (focus (first | (go_simp; done) | rfl))))
 exact ret_agg (fn := Tryz.f104) (vs := [.string ⟨#[]⟩, .int .i64 0, .string ⟨#[]⟩, .slice none 0 0, .slice none 0 0]) (b := w.heap.size) rfl rfl rfl Tryz.underlying53 (by kernel_rfl) (cell5 (setRow_heap w3 w.heap.size _ _ _ _ HX5.out)) rfl ⟨rfl, FIN.out⟩
theorem lkB0 (w : World) : Calls Tryz.prog 64 #[.slice none 0 0, .agg #[.string ⟨#[112]⟩, .int .i64 1, .string ⟨#[109]⟩, .string ⟨#[109]⟩]] w fun e w' => e = .returned (.tuple #[.agg #[.string ⟨#[]⟩, .int .i64 0, .string ⟨#[]⟩, .slice none 0 0, .slice none 0 0], .bool false]) /\ Below w.heap.size w w' := by
 obtain ⟨W2, hW2, B2, O0, O1, hl2⟩ := two_boxes w #[.string ⟨#[112]⟩, .int .i64 1, .string ⟨#[109]⟩, .string ⟨#[109]⟩] #[.string ⟨#[]⟩, .int .i64 0, .string ⟨#[]⟩, .slice none 0 0, .slice none 0 0] 57 53
 have IX := zH (fun K p => fiB0 K p W2)
 have HB2 := zH B2
 have HO1 := zH O1
 have HW := zH hW2
 clear hW2 B2 O0 O1
 go_enter Tryz.func64, Tryz.ntmps64
 go_upto_region 1 with fail
 rw [<- HW.out]
 clear HW
 go_wp2_with fail
 refine (IX.out _ _).mono ?_; rintro e w2 ⟨rfl, hb2⟩
 have X5 := (hb2.block _ hl2).trans HO1.out
 have HX5 := zH X5
 have FIN : Hid (Below w.heap.size w (w2.setRow (w.heap.size + 1) #[.string ⟨#[]⟩, .int .i64 0, .string ⟨#[]⟩, .slice none 0 0, .slice none 0 0])) := zH (setRow_below (below_over HB2.out hb2) (by omega) _)
 clear hb2 IX
 go_wp2_with (first | ((with_reducible refine wpList_putRow 53 (w.heap.size + 1) #[.string ⟨#[]⟩, .int .i64 0, .string ⟨#[]⟩, .slice none 0 0, .slice none 0 0] _ _ X5 ?_ ?_ ?_ ?_ ?_ ?_); exact ifSize; rfl; exact ifOne; iterate 2 (focus (first | (go_simp; done) | rfl))))
 exact ret_agg (fn := Tryz.f64) (vs := [.string ⟨#[]⟩, .int .i64 0, .string ⟨#[]⟩, .slice none 0 0, .slice none 0 0]) (b := w.heap.size + 1) rfl rfl rfl Tryz.underlying53 (by kernel_rfl) (cell5 (setRow_heap w2 (w.heap.size + 1) _ _ _ _ HX5.out)) rfl ⟨rfl, FIN.out⟩
theorem ixC0  (f : Value) (w : World) : Calls Tryz.prog 188 #[.slice none 0 0, f] w fun e w' => e = .returned (.int .i64 (-1)) /\ Below w.heap.size w w' := by
 go_enter Tryz.func188, Tryz.ntmps188
 go_wp2_with fail
 go_loopw [8] (fun s wr => s = .int .i64 0 /\ w = wr) (fun _ _ => 0)
 case atStart => exact ⟨rfl, rfl⟩
 case round =>
  obtain ⟨rfl, rfl⟩ := hrel;go_wp2_with fail
  go_ret;exact ⟨rfl, Below.refl _ _⟩
theorem fiC0 (K : FuncId) (p : Value) (w : World) : Calls Tryz.prog 154 #[.slice none 0 0, .func (.func K) #[] #[p]] w fun e w' => e = .returned (.tuple #[.agg #[.string ⟨#[]⟩, .int .i64 0, .string ⟨#[]⟩, .int .i64 0, .string ⟨#[]⟩, .string ⟨#[]⟩, .slice none 0 0, .slice none 0 0], .bool false]) /\ Below w.heap.size w w' := by
 obtain ⟨W2, hW2⟩ : ∃ W2, W2 = w.alloc (.cells #[.string ⟨#[]⟩, .int .i64 0, .string ⟨#[]⟩, .int .i64 0, .string ⟨#[]⟩, .string ⟨#[]⟩, .slice none 0 0, .slice none 0 0] 50) := ⟨_, rfl⟩
 have B2 : Below w.heap.size w W2 := by rw [hW2]; exact below_new (Below.refl _ _) _
 have O1 : W2.heap[w.heap.size]? = some (.cells #[.string ⟨#[]⟩, .int .i64 0, .string ⟨#[]⟩, .int .i64 0, .string ⟨#[]⟩, .string ⟨#[]⟩, .slice none 0 0, .slice none 0 0] 50 (0, 0)) := by rw [hW2]; exact heap_alloc_new w _
 have IX := zH (ixC0 (.func (.func K) #[] #[p]) W2)
 have HB2 := zH B2
 have HO1 := zH O1
 have hl2 := (Array.getElem?_eq_some_iff.1 O1).1
 have HW := zH hW2
 clear hW2 B2 O1
 go_enter Tryz.func154, Tryz.ntmps154
 go_upto_region 1 with fail
 rw [<- HW.out]
 clear HW
 go_wp2_with fail
 refine IX.out.mono ?_; rintro e w2 ⟨rfl, hb2⟩
 obtain ⟨w3, hw3⟩ : ∃ w3, w3 = w2.alloc (.cells #[.string ⟨#[]⟩, .int .i64 0, .string ⟨#[]⟩, .int .i64 0, .string ⟨#[]⟩, .string ⟨#[]⟩, .slice none 0 0, .slice none 0 0] 50) := ⟨_, rfl⟩
 have B3 : Below w2.heap.size w2 w3 := by rw [hw3]; exact below_new (Below.refl _ _) _
 have Z3 : w3.heap[w2.heap.size]? = some (.cells #[.string ⟨#[]⟩, .int .i64 0, .string ⟨#[]⟩, .int .i64 0, .string ⟨#[]⟩, .string ⟨#[]⟩, .slice none 0 0, .slice none 0 0] 50 (0, 0)) := by rw [hw3]; exact heap_alloc_new w2 _
 have X5 := ((below_over hb2 B3).block _ hl2).trans HO1.out
 have HX5 := zH X5
 have FIN : Hid (Below w.heap.size w (w3.setRow w.heap.size #[.string ⟨#[]⟩, .int .i64 0, .string ⟨#[]⟩, .int .i64 0, .string ⟨#[]⟩, .string ⟨#[]⟩, .slice none 0 0, .slice none 0 0])) := zH (setRow_below (below_over HB2.out (below_over hb2 B3)) (Nat.le_refl _) _)
 have HW3 := zH hw3
 obtain ⟨z0, z1, z2, z3, z4, z5, z6, z7⟩ := cq8 Z3
 simp at z0 z1 z2 z3 z4 z5 z6 z7
 clear hb2 IX hw3 B3 Z3
 go_upto_region 4 with fail
 rw [<- HW3.out]
 clear HW3
 go_wp2_with (first | ((with_reducible refine wpList_putRow 50 (w.heap.size) #[.string ⟨#[]⟩, .int .i64 0, .string ⟨#[]⟩, .int .i64 0, .string ⟨#[]⟩, .string ⟨#[]⟩, .slice none 0 0, .slice none 0 0] _ _ X5 ?_ ?_ ?_ ?_ ?_ ?_); exact nmSizeI; rfl; exact nmOneI; iterate 2 (focus (first | (go_simp; done) | rfl))))
 exact ret_agg (fn := Tryz.f154) (vs := [.string ⟨#[]⟩, .int .i64 0, .string ⟨#[]⟩, .int .i64 0, .string ⟨#[]⟩, .string ⟨#[]⟩, .slice none 0 0, .slice none 0 0]) (b := w.heap.size) rfl rfl rfl Tryz.underlying50 (by kernel_rfl) (cell8I (setRow_heap w3 w.heap.size _ _ _ _ HX5.out)) rfl ⟨rfl, FIN.out⟩
theorem lkC0 (w : World) : Calls Tryz.prog 106 #[.slice none 0 0, .string ⟨#[102]⟩] w fun e w' => e = .returned (.tuple #[.agg #[.int .i64 0, .string ⟨#[]⟩, .int .i64 0, .string ⟨#[]⟩, .string ⟨#[]⟩, .slice none 0 0, .slice none 0 0], .bool false]) /\ Below w.heap.size w w' := by
 obtain ⟨W2, hW2, B2, O0, O1, hl2⟩ := two_boxes w #[.string ⟨#[102]⟩] #[.int .i64 0, .string ⟨#[]⟩, .int .i64 0, .string ⟨#[]⟩, .string ⟨#[]⟩, .slice none 0 0, .slice none 0 0] 9 48
 have IX := zH (fiC0 155 (.pointer (some ⟨w.heap.size, 0, none⟩)) W2)
 have HB2 := zH B2
 have HO1 := zH O1
 have HW := zH hW2
 clear hW2 B2 O0 O1 
 go_enter Tryz.func106, Tryz.ntmps106
 go_upto_region 1 with fail
 rw [<- HW.out]
 clear HW
 go_wp2_with fail
 refine IX.out.mono ?_; rintro e w2 ⟨rfl, hb2⟩
 obtain ⟨w3, hw3⟩ : ∃ w3, w3 = w2.alloc (.cells #[.string ⟨#[]⟩, .int .i64 0, .string ⟨#[]⟩, .int .i64 0, .string ⟨#[]⟩, .string ⟨#[]⟩, .slice none 0 0, .slice none 0 0] 50) := ⟨_, rfl⟩
 have B3 : Below w2.heap.size w2 w3 := by rw [hw3]; exact below_new (Below.refl _ _) _
 have Z3 : w3.heap[w2.heap.size]? = some (.cells #[.string ⟨#[]⟩, .int .i64 0, .string ⟨#[]⟩, .int .i64 0, .string ⟨#[]⟩, .string ⟨#[]⟩, .slice none 0 0, .slice none 0 0] 50 (0, 0)) := by rw [hw3]; exact heap_alloc_new w2 _
 have X5 := ((below_over hb2 B3).block _ hl2).trans HO1.out
 have HX5 := zH X5
 have FIN : Hid (Below w.heap.size w (w3.setRow (w.heap.size + 1) #[.int .i64 0, .string ⟨#[]⟩, .int .i64 0, .string ⟨#[]⟩, .string ⟨#[]⟩, .slice none 0 0, .slice none 0 0])) := zH (setRow_below (below_over HB2.out (below_over hb2 B3)) (by omega) _)
 have HW3 := zH hw3
 obtain ⟨z0, z1, z2, z3, z4, z5, z6, z7⟩ := cq8 Z3
 simp at z0 z1 z2 z3 z4 z5 z6 z7
 clear hb2 IX hw3 B3 Z3
 go_upto_region 2 with fail
 rw [<- HW3.out]
 clear HW3
 go_wp2_with (first | ((with_reducible refine wpList_putRow 48 (w.heap.size + 1) #[.int .i64 0, .string ⟨#[]⟩, .int .i64 0, .string ⟨#[]⟩, .string ⟨#[]⟩, .slice none 0 0, .slice none 0 0] _ _ X5 ?_ ?_ ?_ ?_ ?_ ?_); exact tySize; rfl; exact tyOne; iterate 2 (focus (first | (go_simp; done) | rfl))))
 exact ret_agg (fn := Tryz.f106) (vs := [.int .i64 0, .string ⟨#[]⟩, .int .i64 0, .string ⟨#[]⟩, .string ⟨#[]⟩, .slice none 0 0, .slice none 0 0]) (b := w.heap.size + 1) rfl rfl rfl Tryz.underlying48 (by kernel_rfl) (cell7 (setRow_heap w3 (w.heap.size + 1) _ _ _ _ HX5.out)) rfl ⟨rfl, FIN.out⟩
end Go.Proofs.YtddlmigofilejaaGreatDoor
namespace Go.Proofs.YtddlmigofilejaaGreatDoor
open Go.RowKit Go.Extern.Stop Go.Stop Go.Extern
theorem isNil_any (d : Int) (w : World) :
    Calls Tryz.prog 24 #[.nilIface, .iface 31 (.int .i64 d)] w fun e w' => e = .returned (.bool false) /\ w' = w := by
  have hne : ∀ w : World, (binOp .eql 28 .nilIface (.iface 31 (.int .i64 d))).run Tryz.prog w = .ok (.bool false) w := fun w => by kernel_rfl
  go_enter Tryz.func24, Tryz.ntmps24
  go_wp2
  go_ret;exact ⟨rfl, rfl⟩
end Go.Proofs.YtddlmigofilejaaGreatDoor
