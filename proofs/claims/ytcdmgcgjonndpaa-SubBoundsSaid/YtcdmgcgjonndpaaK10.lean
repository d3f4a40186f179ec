/-
  Several texts in one:  · 
-/
import Derived.Test.YtcdmgcgjonndpaaK09
import Derived.Carry
/-  -/
namespace Go.Proofs.Ytcdmgcgjonndpaa
open Go Go.RowKit Go.Shelf
open Go.Sort Go.Maps
open M
def CyOut (kb : Nat) (mv : Value) (L : Int) (t : Ty) (w : World) (e : Ending) (w' : World) : Prop :=
 ∃ l : List Value, e = .returned (.agg l.toArray) ∧ TyAt (strike (· < w.heap.size) w') l t ∧ w'.heap[kb]? = some (cpO (L - (many t - 1)) mv) ∧ w.grownBy w' (some kb)
def CyAt (w0 : World) (kb : Nat) (mv : Value) (t : Ty) : Prop :=
 ∀ (L : Int) (l : List Value) (wx : World), (many t : Int) ≤ L → L ≤ 65536 → TyAt w0 l t → Below w0.heap.size w0 wx → kb < wx.heap.size → wx.heap[kb]? = some (cpO L mv) →
  Calls Try.prog 49 #[.pointer (some ⟨kb, 0, none⟩), .agg l.toArray] wx (CyOut kb mv L t wx)
set_option maxRecDepth 100000 in
set_option maxHeartbeats 8000000 in
theorem subsC_any (w0 w : World) (kb : Nat) (mv : Value) (L : Int) (A : Option Addr) (n c : Nat) (ss : List Ty) (hn : ss.length = n) (hz : n ≤ 1000000) (hS : SubsAt w0 A ss) (hw : Below w0.heap.size w0 w) (hk0 : w0.heap.size ≤ kb) (hkl : kb < w.heap.size) (hkb : w.heap[kb]? = some (cpO L mv))
  (hL : (manyL ss : Int) + 1 ≤ L) (hL2 : L ≤ 65536) (IH : ∀ s, s ∈ ss → CyAt w0 kb mv s) :
  Calls Try.prog 64 #[.pointer (some ⟨kb, 0, none⟩), .slice A n c] w fun e w' => ∃ (A' : Option Addr) (c' : Nat), e = .returned (.slice A' n c') ∧ n ≤ c' ∧ RowIn tR (strike (· < w.heap.size) w') A' ss ∧ w'.heap[kb]? = some (cpO (L - manyL ss) mv) ∧ w.grownBy w' (some kb) := by
 obtain ⟨w1, hw1⟩ : ∃ w1, w1 = w.setCell ⟨kb, 0, none⟩ (.int .i64 (L - (n : Int))) := ⟨_, rfl⟩
 have hml := manyL_len ss
 have hL0 : 0 < L := by omega
 have HG1 : Hid (w.grownBy w1 (some kb)) := Lib.hid (by
  rw [hw1]
  exact ⟨rfl, rfl, rfl, by simp, fun b _ hne => Below.heap_setCell _ _ _ _ (fun e => hne (by rw [e]))⟩)
 have HK1 : Hid (w1.heap[kb]? = some (cpO (leftAt L ss 0) mv)) := Lib.hid (by
  have := Joins.block_setCell (i := 0) hkb (.int .i64 (L - (n : Int)))
  rw [hw1, this, left_zero, hn]
  rfl)
 have s1 : w1.heap.size = w.heap.size := by rw [hw1]; simp
 have CL := Lib.hid (listT_any w0 w1 kb A n c ss (fun i => cpO (leftAt L ss i) mv) hn hz hS (below_grow hw HG1.out hk0) hk0 (by omega) HK1.out (fun i s hs l wx hT hb hk hO => by
  have hl := left_many hs hL
  refine (IH s (List.mem_of_getElem? hs) _ l wx hl.1 (by omega) hT hb hk hO).mono ?_
  rintro e w' ⟨l', rfl, h1, h2, h3⟩
  exact ⟨l', rfl, h1, by rw [h2, left_step hs], h3⟩))
 have x0 := Lib.cell_of_heap hkb 0
 have f0 := Lib.frozen_of_heap hkb 0
 simp at x0
 have wr1 : IntKind.i64.wrap (L - (n : Int)) = L - (n : Int) := by rw [IntKind.wrap_i64]; omega
 have HW1 := Lib.hid hw1
 have HEND : Hid (leftAt L ss n = L - manyL ss) := Lib.hid (by rw [← hn]; exact left_end L ss)
 have HS1 := Lib.hid s1
 clear hS hw hk0 hkl hkb hL IH hml hw1 s1 hn
 go_enter Try.func64, Try.ntmps64
 go_upto_region 3 with fail
 rw [← HW1.out]
 clear x0 f0 wr1
 go_wp2_with fail
 refine CL.out.mono ?_; rintro e w2 ⟨A', c', rfl, hc', hR, hO, hg⟩
 have FIN : Hid (n ≤ c' ∧ RowIn tR (strike (· < w.heap.size) w2) A' ss ∧ w2.heap[kb]? = some (cpO (L - manyL ss) mv) ∧ w.grownBy w2 (some kb)) := Lib.hid ⟨hc', by rw [← HS1.out]; exact hR, by rw [hO, HEND.out], grown_over HG1.out hg⟩
 clear hc' hR hO hg CL
 go_wp2_with fail
 go_ret
 exact ⟨_, _, rfl, FIN.out⟩
theorem names_keep {S : Nat → Prop} {w w' : World} {A : Option Addr} {l : List ByteArray} (h : NamesAt (strike S w) A l) (hz : w.heap.size ≤ w'.heap.size) {S' : Nat → Prop} (hb : ∀ b, b < w.heap.size → ¬ S b → ¬ S' b ∧ w'.heap[b]? = w.heap[b]?) : NamesAt (strike S' w') A l :=
 (RowIn.move (R := stR) h.row hz hb).names
set_option maxRecDepth 100000 in
set_option maxHeartbeats 8000000 in
theorem copyC_any (w0 : World) (kb : Nat) (mv : Value) (hk0 : w0.heap.size ≤ kb) (N : Nat) : ∀ (t : Ty), many t ≤ N → fitT t → CyAt w0 kb mv t := by
 induction N with
 | zero => intro t h; have := many_pos t; omega
 | succ N ih =>
  intro t hN hF L l w hL hL2 hT hw hkl hkb
  obtain ⟨⟨zp, zm, zn, znl, zns⟩, hfs⟩ := fitT_own hF
  obtain ⟨An, cn, As, cs, rfl, -, -, -, -, -, hNA, hS⟩ := hT.parts
  have hme := manyL_eq t
  have hml := manyL_len t.subs
  obtain ⟨W2, hW2, B2, O0, O1, hl2⟩ := two_boxes w #[.int .i64 t.kind, .string t.pkg, .int .i64 t.major, .string t.mod, .string t.name, .slice An t.names.length cn, .slice As t.subs.length cs] #[.int .i64 0, .string ⟨#[]⟩, .int .i64 0, .string ⟨#[]⟩, .string ⟨#[]⟩, .slice none 0 0, .slice none 0 0] 25 25
  have HB2 := Lib.hid B2
  have HO0 := Lib.hid O0
  have HO1 := Lib.hid O1
  have HW := Lib.hid hW2
  have HK2 : Hid (W2.heap[kb]? = some (cpO L mv)) := Lib.hid ((B2.block _ hkl).trans hkb)
  have HW0 := Lib.hid hw
  have KEEP : Hid (∀ wx : World, wx.heap[w.heap.size]? = W2.heap[w.heap.size]? → wx.cell? ⟨w.heap.size, 0, none⟩ = some (.int .i64 t.kind) ∧ wx.cell? ⟨w.heap.size, 1, none⟩ = some (.string t.pkg) ∧ wx.cell? ⟨w.heap.size, 2, none⟩ = some (.int .i64 t.major) ∧ wx.cell? ⟨w.heap.size, 3, none⟩ = some (.string t.mod) ∧ wx.cell? ⟨w.heap.size, 4, none⟩ = some (.string t.name) ∧ wx.cell? ⟨w.heap.size, 5, none⟩ = some (.slice An t.names.length cn) ∧ wx.cell? ⟨w.heap.size, 6, none⟩ = some (.slice As t.subs.length cs)) := Lib.hid (fun wx hb => by
   have X0 := hb.trans HO0.out
   exact ⟨Lib.cell_of_heap X0 0, Lib.cell_of_heap X0 1, Lib.cell_of_heap X0 2, Lib.cell_of_heap X0 3, Lib.cell_of_heap X0 4, Lib.cell_of_heap X0 5, Lib.cell_of_heap X0 6⟩)
  have C0 := Lib.hid (fun (wx : World) => cln_any t.pkg wx zp)
  have C1 := Lib.hid (fun (wx : World) => cln_any t.mod wx zm)
  have C2 := Lib.hid (fun (wx : World) => cln_any t.name wx zn)
  have C3 := Lib.hid (fun (wx : World) (hb : Below w.heap.size w wx) => listS_any w0 wx An t.names.length cn t.names rfl (by omega) hNA (below_over hw hb) zns)
  have C4 := Lib.hid (fun (wx : World) (hb : Below w.heap.size w wx) => subsC_any w0 wx kb mv L As t.subs.length cs t.subs rfl (by omega) hS (below_over hw hb) hk0 (Nat.lt_of_lt_of_le hkl hb.size) ((hb.block _ hkl).trans hkb) (by omega) hL2 (fun s hs => ih s (by have := manyL_mem _ _ hs; omega) (hfs s hs)))
  have HME : Hid ((many t : Int) - 1 = manyL t.subs) := Lib.hid (by omega)
  have HSZ : Hid (t.pkg.size ≤ 9223372036854775807 ∧ t.mod.size ≤ 9223372036854775807 ∧ t.name.size ≤ 9223372036854775807 ∧ t.names.length ≤ 9223372036854775807 ∧ t.subs.length ≤ 9223372036854775807) := Lib.hid ⟨by omega, by omega, by omega, by omega, by omega⟩
  have HKL := Lib.hid hkl
  clear hW2 B2 O0 O1 hkb hw hT hNA hS hfs hF zns hL hL2 hN hme hml zp zm zn znl hkl
  go_enter Try.func49, Try.ntmps49
  go_upto_region 1 with fail
  rw [← HW.out]
  clear HW
  have hH0 := KEEP.out W2.drew rfl
  refine AnyX.start (fun wx => wx.cell? ⟨w.heap.size, 0, none⟩ = some (.int .i64 t.kind) ∧ wx.cell? ⟨w.heap.size, 1, none⟩ = some (.string t.pkg) ∧ wx.cell? ⟨w.heap.size, 2, none⟩ = some (.int .i64 t.major) ∧ wx.cell? ⟨w.heap.size, 3, none⟩ = some (.string t.mod) ∧ wx.cell? ⟨w.heap.size, 4, none⟩ = some (.string t.name) ∧ wx.cell? ⟨w.heap.size, 5, none⟩ = some (.slice An t.names.length cn) ∧ wx.cell? ⟨w.heap.size, 6, none⟩ = some (.slice As t.subs.length cs)) (fun _ => false) (by kernel_rfl) ?_
  refine AnyX.move (i := 0) (v := ?_) rfl (by kernel_rfl) (by kernel_rfl) (by kernel_rfl) (by kernel_rfl) (fun _ _ _ h => h) (Or.inl ⟨by rfl, ?_⟩) ?_
  rotate_left
  ·(intro wS _; go_simp; try with_reducible rfl)
  simp only [List.getElem_toArray, List.getElem_cons_succ, List.getElem_cons_zero]
  simp only [Act.put, List.setIfInBounds_toArray]
  simp only [List.set_cons_zero, List.set_cons_succ]
  refine AnyX.take (i := 1) (v := ?_) rfl (by kernel_rfl) (by kernel_rfl) (by kernel_rfl) (by kernel_rfl) (by kernel_rfl) (fun _ _ _ h => h) hH0 (Or.inl ⟨by rfl, ?_⟩) ?_
  rotate_left
  ·(intro wS hS; (try obtain ⟨x0, x1, x2, x3, x4, x5, x6⟩ := hS); go_simp; try with_reducible rfl)
  simp only [List.getElem_toArray, List.getElem_cons_succ, List.getElem_cons_zero]
  simp only [Act.put, List.setIfInBounds_toArray]
  simp only [List.set_cons_zero, List.set_cons_succ]
  refine AnyX.move (i := 2) (v := ?_) rfl (by kernel_rfl) (by kernel_rfl) (by kernel_rfl) (by kernel_rfl) (fun _ _ _ h => h) (Or.inl ⟨by rfl, ?_⟩) ?_
  rotate_left
  ·(intro wS _; go_simp; try with_reducible rfl)
  simp only [List.getElem_toArray, List.getElem_cons_succ, List.getElem_cons_zero]
  simp only [Act.put, List.setIfInBounds_toArray]
  simp only [List.set_cons_zero, List.set_cons_succ]
  refine AnyX.take (i := 3) (v := ?_) rfl (by kernel_rfl) (by kernel_rfl) (by kernel_rfl) (by kernel_rfl) (by kernel_rfl) (fun _ _ _ h => h) hH0 (Or.inl ⟨by rfl, ?_⟩) ?_
  rotate_left
  ·(intro wS hS; (try obtain ⟨x0, x1, x2, x3, x4, x5, x6⟩ := hS); go_simp; try with_reducible rfl)
  simp only [List.getElem_toArray, List.getElem_cons_succ, List.getElem_cons_zero]
  simp only [Act.put, List.setIfInBounds_toArray]
  simp only [List.set_cons_zero, List.set_cons_succ]
  refine AnyX.move (i := 5) (v := ?_) rfl (by kernel_rfl) (by kernel_rfl) (by kernel_rfl) (by kernel_rfl) (fun _ _ _ h => h) (Or.inl ⟨by rfl, ?_⟩) ?_
  rotate_left
  ·(intro wS _; go_simp; try with_reducible rfl)
  simp only [List.getElem_toArray, List.getElem_cons_succ, List.getElem_cons_zero]
  simp only [Act.put, List.setIfInBounds_toArray]
  simp only [List.set_cons_zero, List.set_cons_succ]
  refine AnyX.take (i := 6) (v := ?_) rfl (by kernel_rfl) (by kernel_rfl) (by kernel_rfl) (by kernel_rfl) (by kernel_rfl) (fun _ _ _ h => h) hH0 (Or.inl ⟨by rfl, ?_⟩) ?_
  rotate_left
  ·(intro wS hS; (try obtain ⟨x0, x1, x2, x3, x4, x5, x6⟩ := hS); go_simp; try with_reducible rfl)
  simp only [List.getElem_toArray, List.getElem_cons_succ, List.getElem_cons_zero]
  simp only [Act.put, List.setIfInBounds_toArray]
  simp only [List.set_cons_zero, List.set_cons_succ]
  refine AnyX.move (i := 7) (v := ?_) rfl (by kernel_rfl) (by kernel_rfl) (by kernel_rfl) (by kernel_rfl) (fun _ _ _ h => h) (Or.inl ⟨by rfl, ?_⟩) ?_
  rotate_left
  ·(intro wS _; go_simp; try with_reducible rfl)
  simp only [List.getElem_toArray, List.getElem_cons_succ, List.getElem_cons_zero]
  simp only [Act.put, List.setIfInBounds_toArray]
  simp only [List.set_cons_zero, List.set_cons_succ]
  refine AnyX.take (i := 8) (v := ?_) rfl (by kernel_rfl) (by kernel_rfl) (by kernel_rfl) (by kernel_rfl) (by kernel_rfl) (fun _ _ _ h => h) hH0 (Or.inl ⟨by rfl, ?_⟩) ?_
  rotate_left
  ·(intro wS hS; (try obtain ⟨x0, x1, x2, x3, x4, x5, x6⟩ := hS); go_simp; try with_reducible rfl)
  simp only [List.getElem_toArray, List.getElem_cons_succ, List.getElem_cons_zero]
  simp only [Act.put, List.setIfInBounds_toArray]
  simp only [List.set_cons_zero, List.set_cons_succ]
  refine AnyX.move (i := 10) (v := ?_) rfl (by kernel_rfl) (by kernel_rfl) (by kernel_rfl) (by kernel_rfl) (fun _ _ _ h => h) (Or.inl ⟨by rfl, ?_⟩) ?_
  rotate_left
  ·(intro wS _; go_simp; try with_reducible rfl)
  simp only [List.getElem_toArray, List.getElem_cons_succ, List.getElem_cons_zero]
  simp only [Act.put, List.setIfInBounds_toArray]
  simp only [List.set_cons_zero, List.set_cons_succ]
  refine AnyX.take (i := 11) (v := ?_) rfl (by kernel_rfl) (by kernel_rfl) (by kernel_rfl) (by kernel_rfl) (by kernel_rfl) (fun _ _ _ h => h) hH0 (Or.inl ⟨by rfl, ?_⟩) ?_
  rotate_left
  ·(intro wS hS; (try obtain ⟨x0, x1, x2, x3, x4, x5, x6⟩ := hS); go_simp; try with_reducible rfl)
  simp only [List.getElem_toArray, List.getElem_cons_succ, List.getElem_cons_zero]
  simp only [Act.put, List.setIfInBounds_toArray]
  simp only [List.set_cons_zero, List.set_cons_succ]
  refine AnyX.move (i := 13) (v := ?_) rfl (by kernel_rfl) (by kernel_rfl) (by kernel_rfl) (by kernel_rfl) (fun _ _ _ h => h) (Or.inl ⟨by rfl, ?_⟩) ?_
  rotate_left
  ·(intro wS _; go_simp; try with_reducible rfl)
  simp only [List.getElem_toArray, List.getElem_cons_succ, List.getElem_cons_zero]
  simp only [Act.put, List.setIfInBounds_toArray]
  simp only [List.set_cons_zero, List.set_cons_succ]
  refine AnyX.take (i := 14) (v := ?_) rfl (by kernel_rfl) (by kernel_rfl) (by kernel_rfl) (by kernel_rfl) (by kernel_rfl) (fun _ _ _ h => h) hH0 (Or.inl ⟨by rfl, ?_⟩) ?_
  rotate_left
  ·(intro wS hS; (try obtain ⟨x0, x1, x2, x3, x4, x5, x6⟩ := hS); go_simp; try with_reducible rfl)
  simp only [List.getElem_toArray, List.getElem_cons_succ, List.getElem_cons_zero]
  simp only [Act.put, List.setIfInBounds_toArray]
  simp only [List.set_cons_zero, List.set_cons_succ]
  refine AnyX.move (i := 16) (v := ?_) rfl (by kernel_rfl) (by kernel_rfl) (by kernel_rfl) (by kernel_rfl) (fun _ _ _ h => h) (Or.inl ⟨by rfl, ?_⟩) ?_
  rotate_left
  ·(intro wS _; go_simp; try with_reducible rfl)
  simp only [List.getElem_toArray, List.getElem_cons_succ, List.getElem_cons_zero]
  simp only [Act.put, List.setIfInBounds_toArray]
  simp only [List.set_cons_zero, List.set_cons_succ]
  refine AnyX.move (i := 17) (v := ?_) rfl (by kernel_rfl) (by kernel_rfl) (by kernel_rfl) (by kernel_rfl) (fun _ _ _ h => h) (Or.inl ⟨by rfl, ?_⟩) ?_
  rotate_left
  ·(intro wS _; go_simp; try with_reducible rfl)
  simp only [List.getElem_toArray, List.getElem_cons_succ, List.getElem_cons_zero]
  simp only [Act.put, List.setIfInBounds_toArray]
  simp only [List.set_cons_zero, List.set_cons_succ]
  refine AnyX.take (i := 18) (v := ?_) rfl (by kernel_rfl) (by kernel_rfl) (by kernel_rfl) (by kernel_rfl) (by kernel_rfl) (fun _ _ _ h => h) hH0 (Or.inl ⟨by rfl, ?_⟩) ?_
  rotate_left
  ·(intro wS hS; (try obtain ⟨x0, x1, x2, x3, x4, x5, x6⟩ := hS); go_simp; try with_reducible rfl)
  simp only [List.getElem_toArray, List.getElem_cons_succ, List.getElem_cons_zero]
  simp only [Act.put, List.setIfInBounds_toArray]
  simp only [List.set_cons_zero, List.set_cons_succ]
  refine AnyX.go 4 (by kernel_rfl) rfl rfl (fun K hK => ?_)
  simp only [List.getElem_toArray, List.getElem_cons_succ, List.getElem_cons_zero]
  go_simp
  refine (C0.out W2.drew).mono ?_; rintro e w3 ⟨rfl, hb3⟩
  have HB3 : Hid (Below W2.heap.size W2 w3) := Lib.hid (Below.trans (Below.drew (Below.refl _ _)) hb3)
  have hH3 := KEEP.out w3 (HB3.out.block _ (by omega))
  clear hb3
  simp only []
  refine hK.out _ _ (fun hoff _ => hH3) ?_
  clear hK
  try simp only [Act.put, List.setIfInBounds_toArray]
  try simp only [List.set_cons_zero, List.set_cons_succ]
  refine AnyX.go 9 (by kernel_rfl) rfl rfl (fun K hK => ?_)
  simp only [List.getElem_toArray, List.getElem_cons_succ, List.getElem_cons_zero]
  go_simp
  refine (C1.out w3).mono ?_; rintro e w4 ⟨rfl, hb4⟩
  have HB4 : Hid (Below W2.heap.size W2 w4) := Lib.hid (below_over HB3.out hb4)
  have hH4 := KEEP.out w4 (HB4.out.block _ (by omega))
  clear hb4
  simp only []
  refine hK.out _ _ (fun hoff _ => hH4) ?_
  clear hK
  try simp only [Act.put, List.setIfInBounds_toArray]
  try simp only [List.set_cons_zero, List.set_cons_succ]
  refine AnyX.go 12 (by kernel_rfl) rfl rfl (fun K hK => ?_)
  simp only [List.getElem_toArray, List.getElem_cons_succ, List.getElem_cons_zero]
  go_simp
  refine (C2.out w4).mono ?_; rintro e w5 ⟨rfl, hb5⟩
  have HB5 : Hid (Below W2.heap.size W2 w5) := Lib.hid (below_over HB4.out hb5)
  have hH5 := KEEP.out w5 (HB5.out.block _ (by omega))
  clear hb5
  simp only []
  refine hK.out _ _ (fun hoff _ => hH5) ?_
  clear hK
  try simp only [Act.put, List.setIfInBounds_toArray]
  try simp only [List.set_cons_zero, List.set_cons_succ]
  refine AnyX.go 15 (by kernel_rfl) rfl rfl (fun K hK => ?_)
  simp only [List.getElem_toArray, List.getElem_cons_succ, List.getElem_cons_zero]
  go_simp
  refine (C3.out w5 (below_over HB2.out HB5.out)).mono ?_; rintro e w6 ⟨A5, c5, rfl, hN6, hb6⟩
  have HB6 : Hid (Below W2.heap.size W2 w6) := Lib.hid (below_over HB5.out hb6)
  have HN6 := Lib.hid hN6
  have hH6 := KEEP.out w6 (HB6.out.block _ (by omega))
  clear hb6 hN6
  simp only []
  refine hK.out _ _ (fun hoff _ => hH6) ?_
  clear hK
  try simp only [Act.put, List.setIfInBounds_toArray]
  try simp only [List.set_cons_zero, List.set_cons_succ]
  refine AnyX.go 19 (by kernel_rfl) rfl rfl (fun K hK => ?_)
  simp only [List.getElem_toArray, List.getElem_cons_succ, List.getElem_cons_zero]
  go_simp
  refine (C4.out w6 (below_over HB2.out HB6.out)).mono ?_; rintro e w7 ⟨A6, c6, rfl, hc6, hR7, hk7, hg7⟩
  have s2 := HB5.out.size
  have s6 := HB6.out.size
  have s7 := hg7.size
  have hkl := HKL.out
  have b1 : w7.heap[w.heap.size]? = W2.heap[w.heap.size]? := (hg7.block _ (by omega) (fun e => by cases e; omega)).trans (HB6.out.block _ (by omega))
  have X7 : w7.heap[w.heap.size + 1]? = some (.cells #[.int .i64 0, .string ⟨#[]⟩, .int .i64 0, .string ⟨#[]⟩, .string ⟨#[]⟩, .slice none 0 0, .slice none 0 0] 25 (0, 0)) := ((hg7.block _ (by omega) (fun e => by cases e; omega)).trans (HB6.out.block _ hl2)).trans HO1.out
  have hH7 := KEEP.out w7 b1
  have HB17 := Lib.hid b1
  have HX7 := Lib.hid X7
  have T7 : Hid (TyAt (strike (· < W2.heap.size) w7) [.int .i64 t.kind, .string t.pkg, .int .i64 t.major, .string t.mod, .string t.name, .slice A5 t.names.length c5, .slice A6 t.subs.length c6] t) := Lib.hid (by
   obtain ⟨z1, z2, z3, z4, z5⟩ := HSZ.out
   refine ty_made z1 z2 z3 z4 z5 hc6 ?_ ?_
   ·exact names_keep HN6.out hg7.size fun b hb hS => ⟨by omega, hg7.block b hb (fun e => by cases e; omega)⟩
   ·exact hR7.move (Nat.le_refl _) fun b hb hS => ⟨by omega, rfl⟩)
  have FIN : Hid (CyOut kb mv L t w (.returned (.agg #[.int .i64 t.kind, .string t.pkg, .int .i64 t.major, .string t.mod, .string t.name, .slice A5 t.names.length c5, .slice A6 t.subs.length c6])) (w7.setRow (w.heap.size + 1) #[.int .i64 t.kind, .string t.pkg, .int .i64 t.major, .string t.mod, .string t.name, .slice A5 t.names.length c5, .slice A6 t.subs.length c6])) := Lib.hid (by
   refine ⟨[.int .i64 t.kind, .string t.pkg, .int .i64 t.major, .string t.mod, .string t.name, .slice A5 t.names.length c5, .slice A6 t.subs.length c6], rfl, T7.out.move (by simp) fun b hb hS => ⟨by omega, setRow_other _ _ _ _ (by omega)⟩, ?_, ?_⟩
   ·rw [setRow_other _ _ _ _ (by omega), hk7, HME.out]
   ·exact row_grown (grown_over (grown_of (below_over HB2.out HB6.out)) hg7) (by omega) _)
  clear hc6 hR7 hk7 hg7 b1 C0 C1 C2 C3 C4 s2 s6 s7 hkl
  simp only []
  refine hK.out _ _ (fun hoff _ => hH7) ?_
  clear hK
  try simp only [Act.put, List.setIfInBounds_toArray]
  try simp only [List.set_cons_zero, List.set_cons_succ]
  refine AnyX.move (i := 20) (v := ?_) rfl (by kernel_rfl) (by kernel_rfl) (by kernel_rfl) (by kernel_rfl) (fun _ _ _ h => h) (Or.inl ⟨by rfl, ?_⟩) ?_
  rotate_left
  ·(intro wS _; go_simp; try with_reducible rfl)
  simp only [List.getElem_toArray, List.getElem_cons_succ, List.getElem_cons_zero]
  simp only [Act.put, List.setIfInBounds_toArray]
  simp only [List.set_cons_zero, List.set_cons_succ]
  refine AnyX.go 21 (by kernel_rfl) rfl rfl (fun K hK => ?_)
  simp only [List.getElem_toArray, List.getElem_cons_succ, List.getElem_cons_zero]
  refine wp_store_row 25 (.tmp 4) (.tmp 25) rfl (w.heap.size + 1) #[.int .i64 t.kind, .string t.pkg, .int .i64 t.major, .string t.mod, .string t.name, .slice A5 t.names.length c5, .slice A6 t.subs.length c6] rfl rfl _ _ X7 tySize rfl tyOne ?_
  refine hK.out _ _ (fun hoff _ => KEEP.out _ ((setRow_other _ _ _ _ (by omega)).trans HB17.out)) ?_
  clear hK
  try simp only [Act.put, List.setIfInBounds_toArray]
  try simp only [List.set_cons_zero, List.set_cons_succ]
  refine AnyX.done (by kernel_rfl) ?_ _
  go_wp2_with fail
  exact ret_agg1 (fn := Try.f49) (vs := [.int .i64 t.kind, .string t.pkg, .int .i64 t.major, .string t.mod, .string t.name, .slice A5 t.names.length c5, .slice A6 t.subs.length c6]) (b := w.heap.size + 1) rfl rfl Try.underlying25 (by kernel_rfl) (cell7 (setRow_heap w7 (w.heap.size + 1) _ _ _ _ HX7.out)) rfl FIN.out
def FrOut (t : Ty) (w : World) (e : Ending) (w' : World) : Prop :=
 ∃ l : List Value, e = .returned (.agg l.toArray) ∧ TyAt (strike (· < w.heap.size) w') l t ∧ Below w.heap.size w w'
set_option maxRecDepth 100000 in
set_option maxHeartbeats 8000000 in
theorem fresh_any (t : Ty) (hM : many t ≤ 65536) (hF : fitT t) (l : List Value) (w : World) (hT : TyAt w l t) :
  Calls Try.prog 40 #[.agg l.toArray] w (FrOut t w) := by
 have HT := Lib.hid hT
 obtain ⟨An, cn, As, cs, rfl, -, -, -, -, -, -, -⟩ := hT.parts
 obtain ⟨W2, hW2, B2, O0, O1, hl2⟩ := two_boxes w #[.int .i64 t.kind, .string t.pkg, .int .i64 t.major, .string t.mod, .string t.name, .slice An t.names.length cn, .slice As t.subs.length cs] #[.int .i64 0, .string ⟨#[]⟩, .int .i64 0, .string ⟨#[]⟩, .string ⟨#[]⟩, .slice none 0 0, .slice none 0 0] 25 25
 have s2 : W2.heap.size = w.heap.size + 1 + 1 := by rw [hW2]; simp
 obtain ⟨W3, hW3⟩ : ∃ W3, W3 = W2.alloc (.map #[] 0) := ⟨_, rfl⟩
 have B3 : Below W2.heap.size W2 W3 := by rw [hW3]; exact below_new (Below.refl _ _) _
 have s3 : W3.heap.size = w.heap.size + 1 + 1 + 1 := by rw [hW3]; simp [s2]
 obtain ⟨W4, hW4⟩ : ∃ W4, W4 = W3.alloc (.cells #[.int .i64 65536, .map (some (w.heap.size + 1 + 1))] 47) := ⟨_, rfl⟩
 have B4 : Below W3.heap.size W3 W4 := by rw [hW4]; exact below_new (Below.refl _ _) _
 have s4 : W4.heap.size = w.heap.size + 1 + 1 + 1 + 1 := by rw [hW4]; simp [s3]
 have K4 : W4.heap[w.heap.size + 1 + 1 + 1]? = some (cpO 65536 (.map (some (w.heap.size + 1 + 1)))) := by rw [hW4, ← s3]; exact heap_alloc_new W3 _
 have HB4 : Hid (Below w.heap.size w W4) := Lib.hid (below_over (below_over B2 B3) B4)
 have X4 : W4.heap[w.heap.size]? = some (.cells #[.int .i64 t.kind, .string t.pkg, .int .i64 t.major, .string t.mod, .string t.name, .slice An t.names.length cn, .slice As t.subs.length cs] 25 (0, 0)) := (B4.block _ (by omega)).trans ((B3.block _ (by omega)).trans O0)
 have HR4 : Hid (W4.heap[w.heap.size + 1]? = some (.cells #[.int .i64 0, .string ⟨#[]⟩, .int .i64 0, .string ⟨#[]⟩, .string ⟨#[]⟩, .slice none 0 0, .slice none 0 0] 25 (0, 0))) := Lib.hid ((B4.block _ (by omega)).trans ((B3.block _ (by omega)).trans O1))
 have HW2 := Lib.hid hW2
 have HW3 := Lib.hid hW3
 have HW4 := Lib.hid hW4
 have CL := Lib.hid (copyC_any w (w.heap.size + 1 + 1 + 1) (.map (some (w.heap.size + 1 + 1))) (by omega) (many t) t (Nat.le_refl _) hF 65536 _ W4 (by omega) (by omega) HT.out HB4.out (by omega) K4)
 have HX4 := Lib.hid X4
 have HS4 := Lib.hid s4
 clear hW2 hW3 hW4 B2 B3 B4 O0 O1 X4 K4 hT hF hM s4 hl2
 go_enter Try.func40, Try.ntmps40
 go_upto_region 1 with fail
 rw [← HW2.out]
 have hmm := @run_makeMap Try.prog
 go_upto_region 2 with fail
 clear hmm
 simp only [s2, s3, ← HW3.out, ← HW4.out]
 have X4 := HX4.out
 have x0 := Lib.cell_of_heap X4 0
 have x1 := Lib.cell_of_heap X4 1
 have x2 := Lib.cell_of_heap X4 2
 have x3 := Lib.cell_of_heap X4 3
 have x4 := Lib.cell_of_heap X4 4
 have x5 := Lib.cell_of_heap X4 5
 have x6 := Lib.cell_of_heap X4 6
 simp at x0 x1 x2 x3 x4 x5 x6
 clear X4
 go_wp2_with fail
 refine CL.out.mono ?_; rintro e w5 ⟨l', rfl, hT5, -, hg5⟩
 obtain ⟨Cn, cC, Cs, dC, rfl, -⟩ := hT5.parts
 have s4 := HS4.out
 have X5 : w5.heap[w.heap.size + 1]? = some (.cells #[.int .i64 0, .string ⟨#[]⟩, .int .i64 0, .string ⟨#[]⟩, .string ⟨#[]⟩, .slice none 0 0, .slice none 0 0] 25 (0, 0)) := (hg5.block _ (by omega) (fun e => absurd (Option.some.inj e) (by omega))).trans HR4.out
 have HX5 := Lib.hid X5
 have FIN : Hid (FrOut t w (.returned (.agg #[.int .i64 t.kind, .string t.pkg, .int .i64 t.major, .string t.mod, .string t.name, .slice Cn t.names.length cC, .slice Cs t.subs.length dC])) (w5.setRow (w.heap.size + 1) #[.int .i64 t.kind, .string t.pkg, .int .i64 t.major, .string t.mod, .string t.name, .slice Cn t.names.length cC, .slice Cs t.subs.length dC])) := Lib.hid
  ⟨[.int .i64 t.kind, .string t.pkg, .int .i64 t.major, .string t.mod, .string t.name, .slice Cn t.names.length cC, .slice Cs t.subs.length dC], rfl, hT5.move (by simp) fun b hb hS => ⟨by omega, setRow_other _ _ _ _ (by omega)⟩, setRow_below ⟨hg5.os.trans HB4.out.os, hg5.tape.trans HB4.out.tape, hg5.output.trans HB4.out.output, Nat.le_trans HB4.out.size hg5.size, fun b hb => (hg5.block b (by omega) (fun e => absurd (Option.some.inj e) (by omega))).trans (HB4.out.block b hb)⟩ (by omega) _⟩
 clear hT5 hg5 CL x0 x1 x2 x3 x4 x5 x6 s4
 go_wp2_with (first | (((with_reducible refine wpList_putRow 25 (w.heap.size + 1) #[.int .i64 t.kind, .string t.pkg, .int .i64 t.major, .string t.mod, .string t.name, .slice Cn t.names.length cC, .slice Cs t.subs.length dC] _ _ X5 ?_ ?_ ?_ ?_ ?_ ?_); exact tySize; rfl; exact tyOne; (focus (first | (go_simp; done) | rfl)); (focus (first | (go_simp; done) | rfl)))))
 exact ret_agg1 (fn := Try.f40) (vs := [.int .i64 t.kind, .string t.pkg, .int .i64 t.major, .string t.mod, .string t.name, .slice Cn t.names.length cC, .slice Cs t.subs.length dC]) (b := w.heap.size + 1) rfl rfl Try.underlying25 (by kernel_rfl) (cell7 (setRow_heap w5 (w.heap.size + 1) _ _ _ _ HX5.out)) rfl FIN.out
end Go.Proofs.Ytcdmgcgjonndpaa

/-  -/
namespace Go.Proofs.Ytcdmgcgjonndpaa
open Go Go.RowKit Go.Shelf
open Go.Sort
open M
structure CmP (up : Bool) (a b : Ty) (k : Nat) (ns : List ByteArray) (xs : List Ty) : Prop where
  sub : ns.Sublist (a.names.take k)
  len : ns.length = xs.length
  is : ∀ (i : Nat) (s : ByteArray) (z : Ty), ns[i]? = some s → xs[i]? = some z → ∃ x y, AtN a s x ∧ AtN b s y ∧ IsBnd up x y z
  all : ∀ (q : Nat) (s : ByteArray) (x y : Ty), q < k → a.names[q]? = some s → AtN a s x → AtN b s y → s ∈ ns ∨ NoBnd up x y
theorem CmP.start (up : Bool) (a b : Ty) : CmP up a b 0 [] [] := ⟨by simp, rfl, fun i s z h => by simp at h, fun q s x y h => by omega⟩
theorem take_next {α : Type} {l : List α} {k : Nat} {s : α} (h : l[k]? = some s) : l.take (k + 1) = l.take k ++ [s] := by rw [List.take_add_one, h]; rfl
theorem CmP.skip {up : Bool} {a b : Ty} {k : Nat} {ns : List ByteArray} {xs : List Ty} {s : ByteArray} (h : CmP up a b k ns xs) (hs : a.names[k]? = some s) (hno : ∀ x y, AtN a s x → AtN b s y → NoBnd up x y) : CmP up a b (k + 1) ns xs := by
  refine ⟨by rw [take_next hs]; exact h.sub.trans (List.sublist_append_left _ _), h.len, h.is, fun q s' x y hq hs' hx hy => ?_⟩
  rcases Nat.lt_or_ge q k with c | c
  · exact h.all q s' x y c hs' hx hy
  · obtain rfl : q = k := by omega
    rw [hs] at hs'; cases hs'
    exact .inr (hno x y hx hy)
theorem CmP.more {up : Bool} {a b : Ty} {k : Nat} {ns : List ByteArray} {xs : List Ty} {s : ByteArray} {x y z : Ty} (h : CmP up a b k ns xs) (hs : a.names[k]? = some s) (hx : AtN a s x) (hy : AtN b s y) (hb : IsBnd up x y z) : CmP up a b (k + 1) (ns ++ [s]) (xs ++ [z]) := by
  refine ⟨by rw [take_next hs]; exact h.sub.append (List.Sublist.refl _), by simp [h.len], fun i s' z' h1 h2 => ?_, fun q s' x' y' hq hs' hx' hy' => ?_⟩
  · rcases Nat.lt_or_ge i ns.length with c | c
    · rw [List.getElem?_append_left c] at h1
      rw [List.getElem?_append_left (by rw [← h.len]; exact c)] at h2
      exact h.is i s' z' h1 h2
    · have hi := (List.getElem?_eq_some_iff.1 h1).1
      have : i = ns.length := by simp at hi; omega
      subst this
      rw [List.getElem?_append_right (Nat.le_refl _)] at h1
      rw [List.getElem?_append_right (by rw [h.len]; exact Nat.le_refl _), h.len] at h2
      simp at h1 h2
      subst h1; subst h2
      exact ⟨x, y, hx, hy, hb⟩
  · rcases Nat.lt_or_ge q k with c | c
    · rcases h.all q s' x' y' c hs' hx' hy' with h | h
      · exact .inl (List.mem_append_left _ h)
      · exact .inr h
    · obtain rfl : q = k := by omega
      rw [hs] at hs'; cases hs'
      exact .inl (by simp)
theorem CmP.good {up : Bool} {a b t : Ty} (ga : GoodT a) (hk : a.kind = 5 ∨ a.kind = 6) (et : t.kind = a.kind) (ht : Bare t) (h : CmP up a b a.names.length t.names t.subs) (h6 : a.kind = 6 → t.names ≠ []) : GoodT t := by
  have hsub : t.names.Sublist a.names := by have := h.sub; rwa [List.take_length] at this
  refine good_row (by rw [et]; exact hk) ht (ga.rise.sublist hsub) (fun s hs => by rw [et]; exact ga.named s (hsub.subset hs)) h.len.symm (fun e => ?_) (fun z hz => ?_)
  · have := h6 (et ▸ e)
    have := List.length_pos_iff.2 this
    have := h.len
    omega
  · obtain ⟨i, hi⟩ := List.getElem?_of_mem hz
    have hi' := (List.getElem?_eq_some_iff.1 hi).1
    obtain ⟨s, hs⟩ := at_some (l := t.names) (i := i) (by rw [h.len]; exact hi')
    obtain ⟨x, y, -, -, hb⟩ := h.is i s z hs hi
    exact hb.good
theorem CmP.bnd {up : Bool} {a b t : Ty} (hl : loses a.kind up) (e1 : a.kind = b.kind) (ga : GoodT a) (gb : GoodT b) (et : t.kind = a.kind) (ht : Bare t) (h : CmP up a b a.names.length t.names t.subs) (h6 : a.kind = 6 → t.names ≠ []) : IsBnd up a b t := by
  have hk : a.kind = 5 ∨ a.kind = 6 := by unfold loses at hl; omega
  refine bnd_common hl e1 et.symm ga gb (h.good ga hk et ht h6) (fun s z hz => ?_) (fun s x y hx hy => ?_)
  · obtain ⟨i, h1, h2⟩ := hz
    exact h.is i s z h1 h2
  · obtain ⟨q, h1, -⟩ := id hx
    rcases h.all q s x y (List.getElem?_eq_some_iff.1 h1).1 h1 hx hy with c | c
    · obtain ⟨i, hi⟩ := List.getElem?_of_mem c
      have hi' := (List.getElem?_eq_some_iff.1 hi).1
      obtain ⟨z, hz⟩ := at_some (l := t.subs) (i := i) (by rw [← h.len]; exact hi')
      exact .inl ⟨z, i, hi, hz⟩
    · exact .inr c
theorem CmP.none {up : Bool} {a b t : Ty} (hl : loses a.kind up) (h6 : a.kind = 6) (e1 : a.kind = b.kind) (h : CmP up a b a.names.length t.names t.subs) (h0 : t.names = []) : NoBnd up a b :=
  no_common hl h6 e1 fun s x y hx hy => by
    obtain ⟨q, h1, -⟩ := id hx
    rcases h.all q s x y (List.getElem?_eq_some_iff.1 h1).1 h1 hx hy with c | c
    · rw [h0] at c; cases c
    · exact c
theorem rowB_more {α : Type} {R : Reads α} {S S' : Nat → Prop} {lo d g cap c : Nat} {xs : List α} {A : Option Addr} {w1 w3 : World} {o : Obj} {l : List Value} {x : α} {C : List (List Value)} {old : Array Value} {T : TypeId} {k : Nat}
    (h : RowB R S lo xs A c w1) (hS' : ∀ b, S b ∨ (Value.slice A xs.length c).ownBlock = some b → S' b) (hSs : ∀ b, S b → b < w1.heap.size)
    (hC1 : C.length = xs.length) (hC4 : ∀ (i : Nat) (l : List Value) (x : α), C[i]? = some l → xs[i]? = some x → R.E (strike (fun b => S b ∨ (Value.slice A xs.length c).ownBlock = some b) w1) l x)
    (hE : R.E (strike S' w1) l x) (hown : w3.ownsRow lo R.T R.k (.slice (some ⟨g, 0, none⟩) (xs.length + 1) cap) (xs.length + 1) (C.flatten ++ l)) (hgrow : (w1.alloc o).grownBy w3 (Value.slice A xs.length c).ownBlock)
    (hat : (Value.slice A xs.length c).ownBlock = some g ∨ g = (w1.alloc o).heap.size) (hd : d < lo) (hSd : S d) (hbox : w1.heap[d]? = some (.cells old T (0, 0))) (hk : old[k]? = some (.slice A xs.length c)) :
    RowB R S lo (xs ++ [x]) (some ⟨g, 0, none⟩) cap (w3.setCell ⟨d, k, none⟩ (.slice (some ⟨g, 0, none⟩) (xs.length + 1) cap)) ∧
    (w3.setCell ⟨d, k, none⟩ (.slice (some ⟨g, 0, none⟩) (xs.length + 1) cap)).heap[d]? = some (.cells (old.setIfInBounds k (.slice (some ⟨g, 0, none⟩) (xs.length + 1) cap)) T (0, 0)) ∧
    (∀ b, (Value.slice A xs.length c).ownBlock ≠ some b → b ≠ d → b < w1.heap.size → (w3.setCell ⟨d, k, none⟩ (.slice (some ⟨g, 0, none⟩) (xs.length + 1) cap)).heap[b]? = w1.heap[b]?) ∧
    (∀ m, m ≤ d → Below m w1 (w3.setCell ⟨d, k, none⟩ (.slice (some ⟨g, 0, none⟩) (xs.length + 1) cap))) ∧
    w3.cell? ⟨d, k, none⟩ = some (.slice A xs.length c) ∧ w3.frozen? ⟨d, k, none⟩ = false ∧ w1.heap.size ≤ (w3.setCell ⟨d, k, none⟩ (.slice (some ⟨g, 0, none⟩) (xs.length + 1) cap)).heap.size := by
  obtain ⟨R3, old3, hs3⟩ := RowB.more hS' hSs hC1 hC4 hE hown hgrow hat
  have hlow : ∀ b, (Value.slice A xs.length c).ownBlock = some b → lo ≤ b := fun b e => (h.lt e).1
  have hd1 : d < w1.heap.size := (Array.getElem?_eq_some_iff.1 hbox).1
  have B3 := (old3 d (fun e => by have := hlow d e; omega) hd1).trans hbox
  have ot : ∀ b, b ≠ d → (w3.setCell ⟨d, k, none⟩ (.slice (some ⟨g, 0, none⟩) (xs.length + 1) cap)).heap[b]? = w3.heap[b]? := fun b hb => Below.heap_setCell _ _ _ _ (by show b ≠ d; exact hb)
  have of : ∀ b, (Value.slice A xs.length c).ownBlock ≠ some b → b ≠ d → b < w1.heap.size → (w3.setCell ⟨d, k, none⟩ (.slice (some ⟨g, 0, none⟩) (xs.length + 1) cap)).heap[b]? = w1.heap[b]? := fun b hb hne hlt => (ot b hne).trans (old3 b hb hlt)
  have hgo : lo ≤ g ∨ True := .inr trivial
  refine ⟨R3.keep (by simp) (fun b hb => ot b (fun e => ?_)) (fun b h1 h2 h3 => ⟨h1, ot b (fun e => h1 (e ▸ hSd))⟩), Joins.block_setCell (i := k) B3 _, of, fun m hm => ?_, ?_, Lib.frozen_of_heap B3 k, by simp; omega⟩
  · subst e
    have := (R3.lt hb).1
    omega
  · have hgw := hgrow
    exact ⟨hgw.os.trans rfl, hgw.tape.trans rfl, hgw.output.trans rfl, by simp; omega, fun j hj => of j (fun e => by have := hlow j e; omega) (by omega) (by omega)⟩
  · rw [Lib.cell_of_heap B3 k]; exact hk
theorem RowB.strs {S S' : Nat → Prop} {lo : Nat} {xs : List ByteArray} {A : Option Addr} {c : Nat} {w w' : World} (h : RowB stR S lo xs A c w) (ho : ∀ b, (Value.slice A xs.length c).ownBlock = some b → w'.heap[b]? = w.heap[b]?) : RowB stR S' lo xs A c w' := by
  obtain ⟨C, h1, h3, h4⟩ := h.cells
  exact ⟨C, h1, own_block h3 ho, fun i l x hl hx => h4 i l x hl hx⟩
structure CmI (w0 w : World) (kd : Int) (ns : List ByteArray) (xs : List Ty) (A5 : Option Addr) (c5 : Nat) (A6 : Option Addr) (c6 : Nat) (bx lo : Nat) (wr : World) : Prop where
  below : Below w.heap.size w wr
  size : lo ≤ wr.heap.size
  box : wr.heap[bx]? = some (.cells #[.int .i64 kd, .string ⟨#[]⟩, .int .i64 0, .string ⟨#[]⟩, .string ⟨#[]⟩, .slice A5 ns.length c5, .slice A6 xs.length c6] 25 (0, 0))
  names : RowB stR (fun k => k < lo) lo ns A5 c5 wr
  types : RowB tR (fun k => (w0.heap.size ≤ k ∧ k < lo) ∨ (Value.slice A5 ns.length c5).ownBlock = some k) lo xs A6 c6 wr
  apart : ∀ b, (Value.slice A5 ns.length c5).ownBlock = some b → (Value.slice A6 xs.length c6).ownBlock ≠ some b
theorem CmI.keep {w0 w : World} {kd : Int} {ns : List ByteArray} {xs : List Ty} {A5 : Option Addr} {c5 : Nat} {A6 : Option Addr} {c6 bx lo : Nat} {wr wr' : World} (h : CmI w0 w kd ns xs A5 c5 A6 c6 bx lo wr) (hbx : bx < lo) (hb : Below wr.heap.size wr wr') : CmI w0 w kd ns xs A5 c5 A6 c6 bx lo wr' :=
  ⟨below_over h.below hb, Nat.le_trans h.size hb.size, (hb.block _ (by have := h.size; omega)).trans h.box,
    h.names.keep hb.size (fun b hb' => hb.block _ (h.names.lt hb').2) (fun b h1 h2 h3 => ⟨h1, hb.block _ h3⟩),
    h.types.keep hb.size (fun b hb' => hb.block _ (h.types.lt hb').2) (fun b h1 h2 h3 => ⟨h1, hb.block _ h3⟩), h.apart⟩
theorem CmI.name {w0 w : World} {kd : Int} {ns : List ByteArray} {xs : List Ty} {A5 : Option Addr} {c5 : Nat} {A6 : Option Addr} {c6 bx lo g cap : Nat} {wr w3 : World} {o : Obj} {s : ByteArray} {C : List (List Value)} (h : CmI w0 w kd ns xs A5 c5 A6 c6 bx lo wr) (h0 : w0.heap.size ≤ bx) (hw : w.heap.size ≤ bx) (hbx : bx < lo) (hs : s.size ≤ 9223372036854775807)
    (hC1 : C.length = ns.length) (hC4 : ∀ (i : Nat) (l : List Value) (x : ByteArray), C[i]? = some l → ns[i]? = some x → stR.E (strike (fun b => b < lo ∨ (Value.slice A5 ns.length c5).ownBlock = some b) wr) l x)
    (hown : w3.ownsRow lo 9 1 (.slice (some ⟨g, 0, none⟩) (ns.length + 1) cap) (ns.length + 1) (C.flatten ++ [.string s])) (hgrow : (wr.alloc o).grownBy w3 (Value.slice A5 ns.length c5).ownBlock) (hat : (Value.slice A5 ns.length c5).ownBlock = some g ∨ g = (wr.alloc o).heap.size) :
    CmI w0 w kd (ns ++ [s]) xs (some ⟨g, 0, none⟩) cap A6 c6 bx lo (w3.setCell ⟨bx, 5, none⟩ (.slice (some ⟨g, 0, none⟩) (ns.length + 1) cap)) ∧
    (∀ b, (Value.slice A5 ns.length c5).ownBlock ≠ some b → b ≠ bx → b < wr.heap.size → (w3.setCell ⟨bx, 5, none⟩ (.slice (some ⟨g, 0, none⟩) (ns.length + 1) cap)).heap[b]? = wr.heap[b]?) ∧
    (∀ m, m ≤ bx → Below m wr (w3.setCell ⟨bx, 5, none⟩ (.slice (some ⟨g, 0, none⟩) (ns.length + 1) cap))) ∧
    w3.cell? ⟨bx, 5, none⟩ = some (.slice A5 ns.length c5) ∧ w3.frozen? ⟨bx, 5, none⟩ = false ∧ wr.heap.size ≤ (w3.setCell ⟨bx, 5, none⟩ (.slice (some ⟨g, 0, none⟩) (ns.length + 1) cap)).heap.size := by
  have hz := h.size
  obtain ⟨R9, Y9, old9, bel9, z9, e9, s9⟩ := rowB_more (R := stR) (S' := fun b => b < lo ∨ (Value.slice A5 ns.length c5).ownBlock = some b) (k := 5) h.names (fun b hb => hb) (fun b hb => by omega) hC1 hC4 (l := [.string s]) ⟨rfl, hs⟩ hown hgrow hat hbx hbx h.box rfl
  have hg : (Value.slice A5 ns.length c5).ownBlock = some g ∨ wr.heap.size < g := by
    rcases hat with e | e
    · exact .inl e
    · exact .inr (by rw [e]; simp)
  refine ⟨⟨h.below.trans (bel9 _ hw), by omega, by rw [List.length_append]; exact Y9, R9, ?_, ?_⟩, old9, bel9, z9, e9, s9⟩
  · refine h.types.keep s9 (fun b hb => old9 b (fun e => h.apart b e hb) (fun e => ?_) (h.types.lt hb).2) (fun b h1 h2 h3 => ⟨?_, old9 b (fun e => h1 (.inr e)) (fun e => h1 (.inl ⟨by omega, by omega⟩)) h3⟩)
    · have := (h.types.lt hb).1; omega
    · rintro (e | e)
      · exact h1 (.inl e)
      · simp [Value.ownBlock] at e
        subst e
        rcases hg with e | e
        · exact h1 (.inr e)
        · omega
  · intro b hb e
    simp [Value.ownBlock] at hb
    subst hb
    rcases hg with e' | e'
    · exact h.apart _ e' e
    · have := (h.types.lt e).2; omega
theorem CmI.type {w0 w : World} {kd : Int} {ns : List ByteArray} {xs : List Ty} {A5 : Option Addr} {c5 : Nat} {A6 : Option Addr} {c6 bx lo g cap B : Nat} {wr w3 : World} {o : Obj} {l : List Value} {t : Ty} {C : List (List Value)} (h : CmI w0 w kd ns xs A5 c5 A6 c6 bx lo wr) (h0 : w0.heap.size ≤ bx) (hw : w.heap.size ≤ bx) (hbx : bx < lo)
    (hS5 : ∀ b, (Value.slice A5 ns.length c5).ownBlock = some b → b < wr.heap.size)
    (hE : TyAt (strike (fun k => (w0.heap.size ≤ k ∧ k < B) ∨ (Value.slice A5 ns.length c5).ownBlock = some k) wr) l t) (hB : lo ≤ B) (hB6 : ∀ b, (Value.slice A6 xs.length c6).ownBlock = some b → b < B)
    (hC1 : C.length = xs.length) (hC4 : ∀ (i : Nat) (l : List Value) (x : Ty), C[i]? = some l → xs[i]? = some x → tR.E (strike (fun b => ((w0.heap.size ≤ b ∧ b < lo) ∨ (Value.slice A5 ns.length c5).ownBlock = some b) ∨ (Value.slice A6 xs.length c6).ownBlock = some b) wr) l x)
    (hown : w3.ownsRow lo 25 7 (.slice (some ⟨g, 0, none⟩) (xs.length + 1) cap) (xs.length + 1) (C.flatten ++ l)) (hgrow : (wr.alloc o).grownBy w3 (Value.slice A6 xs.length c6).ownBlock) (hat : (Value.slice A6 xs.length c6).ownBlock = some g ∨ g = (wr.alloc o).heap.size) :
    CmI w0 w kd ns (xs ++ [t]) A5 c5 (some ⟨g, 0, none⟩) cap bx lo (w3.setCell ⟨bx, 6, none⟩ (.slice (some ⟨g, 0, none⟩) (xs.length + 1) cap)) ∧
    (∀ m, m ≤ bx → Below m wr (w3.setCell ⟨bx, 6, none⟩ (.slice (some ⟨g, 0, none⟩) (xs.length + 1) cap))) ∧
    w3.cell? ⟨bx, 6, none⟩ = some (.slice A6 xs.length c6) ∧ w3.frozen? ⟨bx, 6, none⟩ = false := by
  have hz := h.size
  obtain ⟨R9, Y9, old9, bel9, z9, e9, s9⟩ := rowB_more (R := tR) (S' := fun k => (w0.heap.size ≤ k ∧ k < B) ∨ (Value.slice A5 ns.length c5).ownBlock = some k) (k := 6) h.types (fun b hb => by
    rcases hb with (hb | hb) | hb
    · exact .inl ⟨hb.1, by omega⟩
    · exact .inr hb
    · exact .inl ⟨by have := (h.types.lt hb).1; omega, hB6 b hb⟩) (fun b hb => by
    rcases hb with hb | hb
    · omega
    · exact hS5 b hb) hC1 hC4 (l := l) hE hown hgrow hat hbx (.inl ⟨h0, hbx⟩) h.box rfl
  have hg : (Value.slice A6 xs.length c6).ownBlock = some g ∨ wr.heap.size < g := by
    rcases hat with e | e
    · exact .inl e
    · exact .inr (by rw [e]; simp)
  refine ⟨⟨h.below.trans (bel9 _ hw), by omega, by rw [List.length_append]; exact Y9, ?_, R9, ?_⟩, bel9, z9, e9⟩
  · refine h.names.strs (fun b hb => old9 b (fun e => h.apart b hb e) (fun e => ?_) (h.names.lt hb).2)
    have := (h.names.lt hb).1; omega
  · intro b hb e
    simp [Value.ownBlock] at e
    subst e
    rcases hg with e' | e'
    · exact h.apart _ hb e'
    · have := (h.names.lt hb).2; omega
def CmOut (w0 : World) (up : Bool) (a b : Ty) (w : World) (e : Ending) (w' : World) : Prop :=
  ∃ (l : List Value) (t : Ty), e = .returned (.agg l.toArray) ∧ Below w.heap.size w w' ∧ t.kind = a.kind ∧ Bare t ∧ CmP up a b a.names.length t.names t.subs ∧ TyAt (strike (fun k => w0.heap.size ≤ k ∧ k < w.heap.size) w') l t
theorem CmI.typ {w0 w : World} {kd : Int} {ns : List ByteArray} {xs : List Ty} {A5 : Option Addr} {c5 : Nat} {A6 : Option Addr} {c6 bx lo r : Nat} {wr : World} (h : CmI w0 w kd ns xs A5 c5 A6 c6 bx lo wr) (hw : w.heap.size ≤ lo) (hr : w.heap.size ≤ r) (hrl : r < lo) (h0 : w0.heap.size ≤ w.heap.size) (hn : ns.length ≤ 9223372036854775807) (hx : xs.length ≤ 9223372036854775807) :
    TyAt (strike (fun k => w0.heap.size ≤ k ∧ k < w.heap.size) (wr.setRow r #[.int .i64 kd, .string ⟨#[]⟩, .int .i64 0, .string ⟨#[]⟩, .string ⟨#[]⟩, .slice A5 ns.length c5, .slice A6 xs.length c6])) [.int .i64 kd, .string ⟨#[]⟩, .int .i64 0, .string ⟨#[]⟩, .string ⟨#[]⟩, .slice A5 ns.length c5, .slice A6 xs.length c6] (.mk kd ⟨#[]⟩ 0 ⟨#[]⟩ ⟨#[]⟩ ns xs) := by
  have hcut : ∀ b, b < wr.heap.size → ¬ (w0.heap.size ≤ b ∧ b < lo) → ¬ (w0.heap.size ≤ b ∧ b < w.heap.size) ∧ (wr.setRow r #[.int .i64 kd, .string ⟨#[]⟩, .int .i64 0, .string ⟨#[]⟩, .string ⟨#[]⟩, .slice A5 ns.length c5, .slice A6 xs.length c6]).heap[b]? = wr.heap[b]? := fun b hb hS => ⟨fun e => hS ⟨e.1, by omega⟩, setRow_other _ _ _ _ (fun e => hS ⟨by omega, by omega⟩)⟩
  refine ty_made (t := .mk kd ⟨#[]⟩ 0 ⟨#[]⟩ ⟨#[]⟩ ns xs) (by show (⟨#[]⟩ : ByteArray).size ≤ 9223372036854775807; decide) (by show (⟨#[]⟩ : ByteArray).size ≤ 9223372036854775807; decide) (by show (⟨#[]⟩ : ByteArray).size ≤ 9223372036854775807; decide) hn hx h.types.cap ?_ ?_
  · have e1 := h.names.done (S' := fun k => w0.heap.size ≤ k ∧ k < lo) (fun k hk => ⟨hk.2, hk.2⟩)
    exact names_keep e1.names (by rw [size_setRow]; exact Nat.le_refl _) hcut
  · have e1 := h.types.done (S' := fun k => w0.heap.size ≤ k ∧ k < lo) (fun k hk => ⟨.inl hk, hk.2⟩)
    exact e1.move (by rw [size_setRow]; exact Nat.le_refl _) hcut
theorem CmI.done {w0 w : World} {up : Bool} {a b : Ty} {ns : List ByteArray} {xs : List Ty} {A5 : Option Addr} {c5 : Nat} {A6 : Option Addr} {c6 bx lo r : Nat} {wr : World} {kd : Int} (h : CmI w0 w kd ns xs A5 c5 A6 c6 bx lo wr) (hkd : kd = a.kind) (hp : CmP up a b a.names.length ns xs) (hw : w.heap.size ≤ lo) (hr : w.heap.size ≤ r) (hrl : r < lo) (h0 : w0.heap.size ≤ w.heap.size) (hz : a.names.length ≤ 1000000) :
    CmOut w0 up a b w (.returned (.agg #[.int .i64 kd, .string ⟨#[]⟩, .int .i64 0, .string ⟨#[]⟩, .string ⟨#[]⟩, .slice A5 ns.length c5, .slice A6 xs.length c6])) (wr.setRow r #[.int .i64 kd, .string ⟨#[]⟩, .int .i64 0, .string ⟨#[]⟩, .string ⟨#[]⟩, .slice A5 ns.length c5, .slice A6 xs.length c6]) := by
  have hlen := hp.len
  have hsl := hp.sub.length_le
  have hl2 : ns.length ≤ a.names.length := Nat.le_trans hsl (by rw [List.length_take]; exact Nat.min_le_right _ _)
  exact ⟨[.int .i64 kd, .string ⟨#[]⟩, .int .i64 0, .string ⟨#[]⟩, .string ⟨#[]⟩, .slice A5 ns.length c5, .slice A6 xs.length c6], .mk kd ⟨#[]⟩ 0 ⟨#[]⟩ ⟨#[]⟩ ns xs, rfl, setRow_below h.below hr _, hkd, ⟨rfl, rfl, rfl, rfl⟩, hp, h.typ hw hr hrl h0 (by omega) (by omega)⟩
def UnN (up : Bool) (a b : Ty) (s : ByteArray) (z : Ty) : Prop := (∃ x y, AtN a s x ∧ AtN b s y ∧ IsBnd up x y z) ∨ (AtN a s z ∧ ∀ y, ¬ AtN b s y) ∨ (AtN b s z ∧ ∀ x, ¬ AtN a s x)
theorem un_good {up : Bool} {a b : Ty} {s : ByteArray} {z : Ty} (ga : GoodT a) (gb : GoodT b) (h : UnN up a b s z) : GoodT z := by
  rcases h with ⟨x, y, -, -, h⟩ | ⟨h, -⟩ | ⟨h, -⟩
  · exact h.good
  · exact ga.sub h.sub
  · exact gb.sub h.sub
theorem un_bnd {up : Bool} {a b t : Ty} (hl : wins a.kind up) (e1 : a.kind = b.kind) (ga : GoodT a) (gb : GoodT b) (et : t.kind = a.kind) (ht : Bare t) (hn : t.names = uniN (a.names ++ b.names)) (hlen : t.subs.length = t.names.length) (h : ∀ (i : Nat) (s : ByteArray) (z : Ty), t.names[i]? = some s → t.subs[i]? = some z → UnN up a b s z) : IsBnd up a b t := by
  have hk : a.kind = 5 ∨ a.kind = 6 := by unfold wins at hl; omega
  have hmem : ∀ s, s ∈ t.names ↔ s ∈ a.names ∨ s ∈ b.names := fun s => by rw [hn, uniN_mem, List.mem_append]
  have hat : ∀ s, s ∈ t.names → ∃ z, AtN t s z := fun s hs => by
    obtain ⟨i, hi⟩ := List.getElem?_of_mem hs
    have hi' := (List.getElem?_eq_some_iff.1 hi).1
    obtain ⟨z, hz⟩ := at_some (l := t.subs) (i := i) (by omega)
    exact ⟨z, i, hi, hz⟩
  have gt : GoodT t := by
    refine good_row (by rw [et]; exact hk) ht (by rw [hn]; exact uniN_rise _) (fun s hs => ?_) hlen (fun e => ?_) (fun z hz => ?_)
    · rw [et]
      rcases (hmem s).1 hs with c | c
      · exact ga.named s c
      · rw [e1]; exact gb.named s c
    · have h6 := (ga.row hk).2.2 (et ▸ e)
      have hl := (ga.row hk).2.1
      have hs : a.names[0]? = some (a.names[0]'(by omega)) := List.getElem?_eq_getElem _
      have := (hmem _).2 (.inl (List.mem_of_getElem? hs))
      have := List.length_pos_of_mem this
      omega
    · obtain ⟨i, hi⟩ := List.getElem?_of_mem hz
      have hi' := (List.getElem?_eq_some_iff.1 hi).1
      obtain ⟨s, hs⟩ := at_some (l := t.names) (i := i) (by omega)
      exact un_good ga gb (h i s z hs hi)
  refine bnd_union hl e1 et.symm ga gb gt (fun s z hz => ?_) (fun s x hx => ?_) (fun s x hx => ?_)
  · obtain ⟨i, h1, h2⟩ := hz
    exact h i s z h1 h2
  · exact hat s ((hmem s).2 (.inl hx.name))
  · exact hat s ((hmem s).2 (.inr hx.name))
end Go.Proofs.Ytcdmgcgjonndpaa
