/-
  Several texts in one.
-/
import Derived.Test.YtddlmigofilejaaGreatK16
import Derived.Carry
open List (getElem_toArray getElem_cons_succ getElem_cons_zero set_cons_zero set_cons_succ setIfInBounds_toArray)
set_option maxRecDepth 100000
set_option maxHeartbeats 8000000
namespace Go.Proofs.YtddlmigofilejaaGreat
open Go Go.RowKit Go.Shelf
open Go.Sort Go.Maps
open M
def CyOut (kb : Nat) (mv : Value) (L : Int) (t : Ty) (w : World) (e : Ending) (w' : World) : Prop :=
 ∃ l : List Value, e = .returned (.agg l.toArray) /\ TyAt (strike (· < w.heap.size) w') l t /\ w'.heap[kb]? = some (cpO (L - (many t - 1)) mv) /\ w.grownBy w' (some kb)
def CyAt (w0 : World) (kb : Nat) (mv : Value) (t : Ty) : Prop :=
 ∀ (L : Int) (l : List Value) (wx : World), (many t : Int) <= L -> L <= 65536 -> TyAt w0 l t -> Below w0.heap.size w0 wx -> kb < wx.heap.size -> wx.heap[kb]? = some (cpO L mv) ->
  Calls Tryz.prog 156 #[.pointer (some ⟨kb, 0, none⟩), .agg l.toArray] wx (CyOut kb mv L t wx)
theorem subsC_any (w0 w : World) (kb : Nat) (mv : Value) (L : Int) (A : Option Addr) (n c : Nat) (ss : List Ty) (hn : ss.length = n) (hz : n <= 1000000) (hS : SubsAt w0 A ss) (hw : Below w0.heap.size w0 w) (hk0 : w0.heap.size <= kb) (hkl : kb < w.heap.size) (hkb : w.heap[kb]? = some (cpO L mv))
  (hL : (manyL ss : Int) + 1 <= L) (hL2 : L <= 65536) (IH : ∀ s, s ∈ ss -> CyAt w0 kb mv s) :
  Calls Tryz.prog 178 #[.pointer (some ⟨kb, 0, none⟩), .slice A n c] w fun e w' => ∃ (A' : Option Addr) (c' : Nat), e = .returned (.slice A' n c') /\ n <= c' /\ RowIn tR (strike (· < w.heap.size) w') A' ss /\ w'.heap[kb]? = some (cpO (L - manyL ss) mv) /\ w.grownBy w' (some kb) := by
 obtain ⟨w1, hw1⟩ : ∃ w1, w1 = w.setCell ⟨kb, 0, none⟩ (.int .i64 (L - (n : Int))) := ⟨_, rfl⟩
 have hml := manyL_len ss
 have hL0 : 0 < L := by omega
 have HG1 : Hid (w.grownBy w1 (some kb)) := hZ (by
  rw [hw1];exact ⟨rfl, rfl, rfl, by simp, fun b _ hne => Below.heap_setCell _ _ _ _ (fun e => hne (by rw [e]))⟩)
 have HK1 : Hid (w1.heap[kb]? = some (cpO (leftAt L ss 0) mv)) := hZ (by
  have := Joins.block_setCell (i := 0) hkb (.int .i64 (L - (n : Int)))
  rw [hw1, this, left_zero, hn];rfl)
 have s1 : w1.heap.size = w.heap.size := by rw [hw1]; simp
 have CL := hZ (listT_any w0 w1 kb A n c ss (fun i => cpO (leftAt L ss i) mv) hn hz hS (below_grow hw HG1.out hk0) hk0 (by omega) HK1.out (fun i s hs l wx hT hb hk hO => by
  have hl := left_many hs hL;refine (IH s (List.mem_of_getElem? hs) _ l wx hl.1 (by omega) hT hb hk hO).mono ?_;rintro e w' ⟨l', rfl, h1, h2, h3⟩;exact ⟨l', rfl, h1, by rw [h2, left_step hs], h3⟩))
 have x0 := cZ hkb 0
 have f0 := Lib.frozen_of_heap hkb 0
 simp at x0
 have wr1 : IntKind.i64.wrap (L - (n : Int)) = L - (n : Int) := by rw [IntKind.wrap_i64]; omega
 have HW1 := hZ hw1
 have HEND : Hid (leftAt L ss n = L - manyL ss) := hZ (by rw [<- hn]; exact left_end L ss)
 have HS1 := hZ s1
 clear hS hw hk0 hkl hkb hL IH hml hw1 s1 hn
 go_enter Tryz.func178, Tryz.ntmps178
 go_upto_region 3 with fail
 rw [<- HW1.out]
 clear x0 f0 wr1
 go_wp2_with fail
 refine CL.out.mono ?_; rintro e w2 ⟨A', c', rfl, hc', hR, hO, hg⟩
 have FIN : Hid (n <= c' /\ RowIn tR (strike (· < w.heap.size) w2) A' ss /\ w2.heap[kb]? = some (cpO (L - manyL ss) mv) /\ w.grownBy w2 (some kb)) := hZ ⟨hc', by rw [<- HS1.out]; exact hR, by rw [hO, HEND.out], grown_over HG1.out hg⟩
 clear hc' hR hO hg CL
 go_wp2_with fail
 go_ret
 exact ⟨_, _, rfl, FIN.out⟩
theorem names_keep {S : Nat -> Prop} {w w' : World} {A : Option Addr} {l : List ByteArray} (h : NamesAt (strike S w) A l) (hz : w.heap.size <= w'.heap.size) {S' : Nat -> Prop} (hb : ∀ b, b < w.heap.size -> ¬ S b -> ¬ S' b /\ w'.heap[b]? = w.heap[b]?) : NamesAt (strike S' w') A l :=
 (RowIn.move (R := stR) h.row hz hb).names
theorem copyC_any (w0 : World) (kb : Nat) (mv : Value) (hk0 : w0.heap.size <= kb) (N : Nat) : ∀ (t : Ty), many t <= N -> fitT t -> CyAt w0 kb mv t := by
 induction N with
 | zero => intro t h; have := many_pos t; omega
 | succ N ih =>
  intro t hN hF L l w hL hL2 hT hw hkl hkb;obtain ⟨⟨zp, zm, zn, znl, zns⟩, hfs⟩ := fitT_own hF;obtain ⟨An, cn, As, cs, rfl, -, -, -, -, -, hNA, hS⟩ := hT.parts;have hme := manyL_eq t;have hml := manyL_len t.subs;obtain ⟨W2, hW2, B2, O0, O1, hl2⟩ := two_boxes w #[.int .i64 t.kind, .string t.pkg, .int .i64 t.major, .string t.mod, .string t.name, .slice An t.names.length cn, .slice As t.subs.length cs] #[.int .i64 0, .string ⟨#[]⟩, .int .i64 0, .string ⟨#[]⟩, .string ⟨#[]⟩, .slice none 0 0, .slice none 0 0] 50 50;have HB2 := hZ B2;have HO0 := hZ O0;have HO1 := hZ O1;have HW := hZ hW2;have HK2 : Hid (W2.heap[kb]? = some (cpO L mv)) := hZ ((B2.block _ hkl).trans hkb);have HW0 := hZ hw
  have KEEP : Hid (∀ wx : World, wx.heap[w.heap.size]? = W2.heap[w.heap.size]? -> wx.cell? ⟨w.heap.size, 0, none⟩ = some (.int .i64 t.kind) /\ wx.cell? ⟨w.heap.size, 1, none⟩ = some (.string t.pkg) /\ wx.cell? ⟨w.heap.size, 2, none⟩ = some (.int .i64 t.major) /\ wx.cell? ⟨w.heap.size, 3, none⟩ = some (.string t.mod) /\ wx.cell? ⟨w.heap.size, 4, none⟩ = some (.string t.name) /\ wx.cell? ⟨w.heap.size, 5, none⟩ = some (.slice An t.names.length cn) /\ wx.cell? ⟨w.heap.size, 6, none⟩ = some (.slice As t.subs.length cs)) := hZ (fun wx hb => by
   have X0 := hb.trans HO0.out;exact ⟨cZ X0 0, cZ X0 1, cZ X0 2, cZ X0 3, cZ X0 4, cZ X0 5, cZ X0 6⟩)
  have C0 := hZ (fun (wx : World) => cln_any t.pkg wx zp);have C1 := hZ (fun (wx : World) => cln_any t.mod wx zm);have C2 := hZ (fun (wx : World) => cln_any t.name wx zn);have C3 := hZ (fun (wx : World) (hb : Below w.heap.size w wx) => listS_any w0 wx An t.names.length cn t.names rfl (by omega) hNA (below_over hw hb) zns);have C4 := hZ (fun (wx : World) (hb : Below w.heap.size w wx) => subsC_any w0 wx kb mv L As t.subs.length cs t.subs rfl (by omega) hS (below_over hw hb) hk0 (Nat.lt_of_lt_of_le hkl hb.size) ((hb.block _ hkl).trans hkb) (by omega) hL2 (fun s hs => ih s (by have := manyL_mem _ _ hs; omega) (hfs s hs)));have HME : Hid ((many t : Int) - 1 = manyL t.subs) := hZ (by omega);have HSZ : Hid (t.pkg.size <= 9223372036854775807 /\ t.mod.size <= 9223372036854775807 /\ t.name.size <= 9223372036854775807 /\ t.names.length <= 9223372036854775807 /\ t.subs.length <= 9223372036854775807) := hZ ⟨by omega, by omega, by omega, by omega, by omega⟩;have HKL := hZ hkl;clear hW2 B2 O0 O1 hkb hw hT hNA hS hfs hF zns hL hL2 hN hme hml zp zm zn znl hkl;go_enter Tryz.func156, Tryz.ntmps156
  go_upto_region 1 with fail
  rw [<- HW.out];clear HW;have hH0 := KEEP.out W2.drew rfl;refine AnyX.start (fun wx => wx.cell? ⟨w.heap.size, 0, none⟩ = some (.int .i64 t.kind) /\ wx.cell? ⟨w.heap.size, 1, none⟩ = some (.string t.pkg) /\ wx.cell? ⟨w.heap.size, 2, none⟩ = some (.int .i64 t.major) /\ wx.cell? ⟨w.heap.size, 3, none⟩ = some (.string t.mod) /\ wx.cell? ⟨w.heap.size, 4, none⟩ = some (.string t.name) /\ wx.cell? ⟨w.heap.size, 5, none⟩ = some (.slice An t.names.length cn) /\ wx.cell? ⟨w.heap.size, 6, none⟩ = some (.slice As t.subs.length cs)) (fun _ => false) (by kernel_rfl) ?_;refine AnyX.mv (i := 0) (v := ?_) rfl (fun _ _ _ h => h) (Or.inl ⟨by rfl, ?_⟩) ?_;rotate_left
  ·(intro wS _; go_simp; try with_reducible rfl)
  simp only [getElem_toArray, getElem_cons_succ, getElem_cons_zero];simp only [Act.put, setIfInBounds_toArray, set_cons_zero, set_cons_succ];refine AnyX.tk (i := 1) (v := ?_) rfl (fun _ _ _ h => h) hH0 (Or.inl ⟨by rfl, ?_⟩) ?_;rotate_left
  ·(intro wS hS; (try obtain ⟨x0, x1, x2, x3, x4, x5, x6⟩ := hS); go_simp; try with_reducible rfl)
  simp only [getElem_toArray, getElem_cons_succ, getElem_cons_zero];simp only [Act.put, setIfInBounds_toArray, set_cons_zero, set_cons_succ];refine AnyX.mv (i := 2) (v := ?_) rfl (fun _ _ _ h => h) (Or.inl ⟨by rfl, ?_⟩) ?_;rotate_left
  ·(intro wS _; go_simp; try with_reducible rfl)
  simp only [getElem_toArray, getElem_cons_succ, getElem_cons_zero];simp only [Act.put, setIfInBounds_toArray, set_cons_zero, set_cons_succ];refine AnyX.tk (i := 3) (v := ?_) rfl (fun _ _ _ h => h) hH0 (Or.inl ⟨by rfl, ?_⟩) ?_;rotate_left
  ·(intro wS hS; (try obtain ⟨x0, x1, x2, x3, x4, x5, x6⟩ := hS); go_simp; try with_reducible rfl)
  simp only [getElem_toArray, getElem_cons_succ, getElem_cons_zero];simp only [Act.put, setIfInBounds_toArray, set_cons_zero, set_cons_succ];refine AnyX.mv (i := 5) (v := ?_) rfl (fun _ _ _ h => h) (Or.inl ⟨by rfl, ?_⟩) ?_;rotate_left
  ·(intro wS _; go_simp; try with_reducible rfl)
  simp only [getElem_toArray, getElem_cons_succ, getElem_cons_zero];simp only [Act.put, setIfInBounds_toArray, set_cons_zero, set_cons_succ];refine AnyX.tk (i := 6) (v := ?_) rfl (fun _ _ _ h => h) hH0 (Or.inl ⟨by rfl, ?_⟩) ?_;rotate_left
  ·(intro wS hS; (try obtain ⟨x0, x1, x2, x3, x4, x5, x6⟩ := hS); go_simp; try with_reducible rfl)
  simp only [getElem_toArray, getElem_cons_succ, getElem_cons_zero];simp only [Act.put, setIfInBounds_toArray, set_cons_zero, set_cons_succ];refine AnyX.mv (i := 7) (v := ?_) rfl (fun _ _ _ h => h) (Or.inl ⟨by rfl, ?_⟩) ?_;rotate_left
  ·(intro wS _; go_simp; try with_reducible rfl)
  simp only [getElem_toArray, getElem_cons_succ, getElem_cons_zero];simp only [Act.put, setIfInBounds_toArray, set_cons_zero, set_cons_succ];refine AnyX.tk (i := 8) (v := ?_) rfl (fun _ _ _ h => h) hH0 (Or.inl ⟨by rfl, ?_⟩) ?_;rotate_left
  ·(intro wS hS; (try obtain ⟨x0, x1, x2, x3, x4, x5, x6⟩ := hS); go_simp; try with_reducible rfl)
  simp only [getElem_toArray, getElem_cons_succ, getElem_cons_zero];simp only [Act.put, setIfInBounds_toArray, set_cons_zero, set_cons_succ];refine AnyX.mv (i := 10) (v := ?_) rfl (fun _ _ _ h => h) (Or.inl ⟨by rfl, ?_⟩) ?_;rotate_left
  ·(intro wS _; go_simp; try with_reducible rfl)
  simp only [getElem_toArray, getElem_cons_succ, getElem_cons_zero];simp only [Act.put, setIfInBounds_toArray, set_cons_zero, set_cons_succ];refine AnyX.tk (i := 11) (v := ?_) rfl (fun _ _ _ h => h) hH0 (Or.inl ⟨by rfl, ?_⟩) ?_;rotate_left
  ·(intro wS hS; (try obtain ⟨x0, x1, x2, x3, x4, x5, x6⟩ := hS); go_simp; try with_reducible rfl)
  simp only [getElem_toArray, getElem_cons_succ, getElem_cons_zero];simp only [Act.put, setIfInBounds_toArray, set_cons_zero, set_cons_succ];refine AnyX.mv (i := 13) (v := ?_) rfl (fun _ _ _ h => h) (Or.inl ⟨by rfl, ?_⟩) ?_;rotate_left
  ·(intro wS _; go_simp; try with_reducible rfl)
  simp only [getElem_toArray, getElem_cons_succ, getElem_cons_zero];simp only [Act.put, setIfInBounds_toArray, set_cons_zero, set_cons_succ];refine AnyX.tk (i := 14) (v := ?_) rfl (fun _ _ _ h => h) hH0 (Or.inl ⟨by rfl, ?_⟩) ?_;rotate_left
  ·(intro wS hS; (try obtain ⟨x0, x1, x2, x3, x4, x5, x6⟩ := hS); go_simp; try with_reducible rfl)
  simp only [getElem_toArray, getElem_cons_succ, getElem_cons_zero];simp only [Act.put, setIfInBounds_toArray, set_cons_zero, set_cons_succ];refine AnyX.mv (i := 16) (v := ?_) rfl (fun _ _ _ h => h) (Or.inl ⟨by rfl, ?_⟩) ?_;rotate_left
  ·(intro wS _; go_simp; try with_reducible rfl)
  simp only [getElem_toArray, getElem_cons_succ, getElem_cons_zero];simp only [Act.put, setIfInBounds_toArray, set_cons_zero, set_cons_succ];refine AnyX.mv (i := 17) (v := ?_) rfl (fun _ _ _ h => h) (Or.inl ⟨by rfl, ?_⟩) ?_;rotate_left
  ·(intro wS _; go_simp; try with_reducible rfl)
  simp only [getElem_toArray, getElem_cons_succ, getElem_cons_zero];simp only [Act.put, setIfInBounds_toArray, set_cons_zero, set_cons_succ];refine AnyX.tk (i := 18) (v := ?_) rfl (fun _ _ _ h => h) hH0 (Or.inl ⟨by rfl, ?_⟩) ?_;rotate_left
  ·(intro wS hS; (try obtain ⟨x0, x1, x2, x3, x4, x5, x6⟩ := hS); go_simp; try with_reducible rfl)
  simp only [getElem_toArray, getElem_cons_succ, getElem_cons_zero];simp only [Act.put, setIfInBounds_toArray, set_cons_zero, set_cons_succ];refine AnyX.go 4 (by kernel_rfl) rfl rfl (fun K hK => ?_);simp only [getElem_toArray, getElem_cons_succ, getElem_cons_zero];go_simp
  refine (C0.out W2.drew).mono ?_; rintro e w3 ⟨rfl, hb3⟩
  have HB3 : Hid (Below W2.heap.size W2 w3) := hZ (Below.trans (Below.drew (Below.refl _ _)) hb3);have hH3 := KEEP.out w3 (HB3.out.block _ (by omega));clear hb3;simp only [];refine hK.out _ _ (fun hoff _ => hH3) ?_;clear hK;(try simp only [Act.put, setIfInBounds_toArray, set_cons_zero, set_cons_succ]);refine AnyX.go 9 (by kernel_rfl) rfl rfl (fun K hK => ?_);simp only [getElem_toArray, getElem_cons_succ, getElem_cons_zero];go_simp
  refine (C1.out w3).mono ?_; rintro e w4 ⟨rfl, hb4⟩
  have HB4 : Hid (Below W2.heap.size W2 w4) := hZ (below_over HB3.out hb4);have hH4 := KEEP.out w4 (HB4.out.block _ (by omega));clear hb4;simp only [];refine hK.out _ _ (fun hoff _ => hH4) ?_;clear hK;(try simp only [Act.put, setIfInBounds_toArray, set_cons_zero, set_cons_succ]);refine AnyX.go 12 (by kernel_rfl) rfl rfl (fun K hK => ?_);simp only [getElem_toArray, getElem_cons_succ, getElem_cons_zero];go_simp
  refine (C2.out w4).mono ?_; rintro e w5 ⟨rfl, hb5⟩
  have HB5 : Hid (Below W2.heap.size W2 w5) := hZ (below_over HB4.out hb5);have hH5 := KEEP.out w5 (HB5.out.block _ (by omega));clear hb5;simp only [];refine hK.out _ _ (fun hoff _ => hH5) ?_;clear hK;(try simp only [Act.put, setIfInBounds_toArray, set_cons_zero, set_cons_succ]);refine AnyX.go 15 (by kernel_rfl) rfl rfl (fun K hK => ?_);simp only [getElem_toArray, getElem_cons_succ, getElem_cons_zero];go_simp
  refine (C3.out w5 (below_over HB2.out HB5.out)).mono ?_; rintro e w6 ⟨A5, c5, rfl, hN6, hb6⟩
  have HB6 : Hid (Below W2.heap.size W2 w6) := hZ (below_over HB5.out hb6);have HN6 := hZ hN6;have hH6 := KEEP.out w6 (HB6.out.block _ (by omega));clear hb6 hN6;simp only [];refine hK.out _ _ (fun hoff _ => hH6) ?_;clear hK;(try simp only [Act.put, setIfInBounds_toArray, set_cons_zero, set_cons_succ]);refine AnyX.go 19 (by kernel_rfl) rfl rfl (fun K hK => ?_);simp only [getElem_toArray, getElem_cons_succ, getElem_cons_zero];go_simp
  refine (C4.out w6 (below_over HB2.out HB6.out)).mono ?_; rintro e w7 ⟨A6, c6, rfl, hc6, hR7, hk7, hg7⟩
  have s2 := HB5.out.size;have s6 := HB6.out.size;have s7 := hg7.size;have hkl := HKL.out;have b1 : w7.heap[w.heap.size]? = W2.heap[w.heap.size]? := (hg7.block _ (by omega) (fun e => by cases e; omega)).trans (HB6.out.block _ (by omega));have X7 : w7.heap[w.heap.size + 1]? = some (.cells #[.int .i64 0, .string ⟨#[]⟩, .int .i64 0, .string ⟨#[]⟩, .string ⟨#[]⟩, .slice none 0 0, .slice none 0 0] 50 (0, 0)) := ((hg7.block _ (by omega) (fun e => by cases e; omega)).trans (HB6.out.block _ hl2)).trans HO1.out;have hH7 := KEEP.out w7 b1;have HB17 := hZ b1;have HX7 := hZ X7
  have T7 : Hid (TyAt (strike (· < W2.heap.size) w7) [.int .i64 t.kind, .string t.pkg, .int .i64 t.major, .string t.mod, .string t.name, .slice A5 t.names.length c5, .slice A6 t.subs.length c6] t) := hZ (by
   obtain ⟨z1, z2, z3, z4, z5⟩ := HSZ.out;refine ty_made z1 z2 z3 z4 z5 hc6 ?_ ?_
   ·exact names_keep HN6.out hg7.size fun b hb hS => ⟨by omega, hg7.block b hb (fun e => by cases e; omega)⟩
   ·exact hR7.move (Nat.le_refl _) fun b hb hS => ⟨by omega, rfl⟩)
  have FIN : Hid (CyOut kb mv L t w (.returned (.agg #[.int .i64 t.kind, .string t.pkg, .int .i64 t.major, .string t.mod, .string t.name, .slice A5 t.names.length c5, .slice A6 t.subs.length c6])) (w7.setRow (w.heap.size + 1) #[.int .i64 t.kind, .string t.pkg, .int .i64 t.major, .string t.mod, .string t.name, .slice A5 t.names.length c5, .slice A6 t.subs.length c6])) := hZ (by
   refine ⟨[.int .i64 t.kind, .string t.pkg, .int .i64 t.major, .string t.mod, .string t.name, .slice A5 t.names.length c5, .slice A6 t.subs.length c6], rfl, T7.out.move (by simp) fun b hb hS => ⟨by omega, setRow_other _ _ _ _ (by omega)⟩, ?_, ?_⟩
   ·rw [setRow_other _ _ _ _ (by omega), hk7, HME.out]
   ·exact row_grown (grown_over (grown_of (below_over HB2.out HB6.out)) hg7) (by omega) _)
  clear hc6 hR7 hk7 hg7 b1 C0 C1 C2 C3 C4 s2 s6 s7 hkl;simp only [];refine hK.out _ _ (fun hoff _ => hH7) ?_;clear hK;(try simp only [Act.put, setIfInBounds_toArray, set_cons_zero, set_cons_succ]);refine AnyX.mv (i := 20) (v := ?_) rfl (fun _ _ _ h => h) (Or.inl ⟨by rfl, ?_⟩) ?_;rotate_left
  ·(intro wS _; go_simp; try with_reducible rfl)
  simp only [getElem_toArray, getElem_cons_succ, getElem_cons_zero];simp only [Act.put, setIfInBounds_toArray, set_cons_zero, set_cons_succ];refine AnyX.go 21 (by kernel_rfl) rfl rfl (fun K hK => ?_);simp only [getElem_toArray, getElem_cons_succ, getElem_cons_zero];refine wp_store_row 50 (.tmp 4) (.tmp 25) rfl (w.heap.size + 1) #[.int .i64 t.kind, .string t.pkg, .int .i64 t.major, .string t.mod, .string t.name, .slice A5 t.names.length c5, .slice A6 t.subs.length c6] rfl rfl _ _ X7 tySize rfl tyOne ?_;refine hK.out _ _ (fun hoff _ => KEEP.out _ ((setRow_other _ _ _ _ (by omega)).trans HB17.out)) ?_;clear hK;(try simp only [Act.put, setIfInBounds_toArray, set_cons_zero, set_cons_succ]);refine AnyX.done (by kernel_rfl) ?_ _;go_wp2_with fail
  exact ret_agg1 (fn := Tryz.f156) (vs := [.int .i64 t.kind, .string t.pkg, .int .i64 t.major, .string t.mod, .string t.name, .slice A5 t.names.length c5, .slice A6 t.subs.length c6]) (b := w.heap.size + 1) rfl rfl Tryz.underlying50 (by kernel_rfl) (cell7 (setRow_heap w7 (w.heap.size + 1) _ _ _ _ HX7.out)) rfl FIN.out
def FrOut (t : Ty) (w : World) (e : Ending) (w' : World) : Prop :=
 ∃ l : List Value, e = .returned (.agg l.toArray) /\ TyAt (strike (· < w.heap.size) w') l t /\ Below w.heap.size w w'
theorem fresh_any (t : Ty) (hM : many t <= 65536) (hF : fitT t) (l : List Value) (w : World) (hT : TyAt w l t) :
  Calls Tryz.prog 128 #[.agg l.toArray] w (FrOut t w) := by
 have HT := hZ hT
 obtain ⟨An, cn, As, cs, rfl, -, -, -, -, -, -, -⟩ := hT.parts
 obtain ⟨W2, hW2, B2, O0, O1, hl2⟩ := two_boxes w #[.int .i64 t.kind, .string t.pkg, .int .i64 t.major, .string t.mod, .string t.name, .slice An t.names.length cn, .slice As t.subs.length cs] #[.int .i64 0, .string ⟨#[]⟩, .int .i64 0, .string ⟨#[]⟩, .string ⟨#[]⟩, .slice none 0 0, .slice none 0 0] 50 50
 have s2 : W2.heap.size = w.heap.size + 1 + 1 := by rw [hW2]; simp
 obtain ⟨W3, hW3⟩ : ∃ W3, W3 = W2.alloc (.map #[] 0) := ⟨_, rfl⟩
 have B3 : Below W2.heap.size W2 W3 := by rw [hW3]; exact below_new (Below.refl _ _) _
 have s3 : W3.heap.size = w.heap.size + 1 + 1 + 1 := by rw [hW3]; simp [s2]
 obtain ⟨W4, hW4⟩ : ∃ W4, W4 = W3.alloc (.cells #[.int .i64 65536, .map (some (w.heap.size + 1 + 1))] 201) := ⟨_, rfl⟩
 have B4 : Below W3.heap.size W3 W4 := by rw [hW4]; exact below_new (Below.refl _ _) _
 have s4 : W4.heap.size = w.heap.size + 1 + 1 + 1 + 1 := by rw [hW4]; simp [s3]
 have K4 : W4.heap[w.heap.size + 1 + 1 + 1]? = some (cpO 65536 (.map (some (w.heap.size + 1 + 1)))) := by rw [hW4, <- s3]; exact heap_alloc_new W3 _
 have HB4 : Hid (Below w.heap.size w W4) := hZ (below_over (below_over B2 B3) B4)
 have X4 : W4.heap[w.heap.size]? = some (.cells #[.int .i64 t.kind, .string t.pkg, .int .i64 t.major, .string t.mod, .string t.name, .slice An t.names.length cn, .slice As t.subs.length cs] 50 (0, 0)) := (B4.block _ (by omega)).trans ((B3.block _ (by omega)).trans O0)
 have HR4 : Hid (W4.heap[w.heap.size + 1]? = some (.cells #[.int .i64 0, .string ⟨#[]⟩, .int .i64 0, .string ⟨#[]⟩, .string ⟨#[]⟩, .slice none 0 0, .slice none 0 0] 50 (0, 0))) := hZ ((B4.block _ (by omega)).trans ((B3.block _ (by omega)).trans O1))
 have HW2 := hZ hW2
 have HW3 := hZ hW3
 have HW4 := hZ hW4
 have CL := hZ (copyC_any w (w.heap.size + 1 + 1 + 1) (.map (some (w.heap.size + 1 + 1))) (by omega) (many t) t (Nat.le_refl _) hF 65536 _ W4 (by omega) (by omega) HT.out HB4.out (by omega) K4)
 have HX4 := hZ X4
 have HS4 := hZ s4
 clear hW2 hW3 hW4 B2 B3 B4 O0 O1 X4 K4 hT hF hM s4 hl2
 go_enter Tryz.func128, Tryz.ntmps128
 go_upto_region 1 with fail
 rw [<- HW2.out]
 have hmm := @run_makeMap Tryz.prog
 go_upto_region 2 with fail
 clear hmm
 simp only [s2, s3, <- HW3.out, <- HW4.out]
 have X4 := HX4.out
 obtain ⟨x0, x1, x2, x3, x4, x5, x6⟩ := cq7 X4
 simp at x0 x1 x2 x3 x4 x5 x6
 clear X4
 go_wp2_with fail
 refine CL.out.mono ?_; rintro e w5 ⟨l', rfl, hT5, -, hg5⟩
 obtain ⟨Cn, cC, Cs, dC, rfl, -⟩ := hT5.parts
 have s4 := HS4.out
 have X5 : w5.heap[w.heap.size + 1]? = some (.cells #[.int .i64 0, .string ⟨#[]⟩, .int .i64 0, .string ⟨#[]⟩, .string ⟨#[]⟩, .slice none 0 0, .slice none 0 0] 50 (0, 0)) := (hg5.block _ (by omega) (fun e => absurd (Option.some.inj e) (by omega))).trans HR4.out
 have HX5 := hZ X5
 have FIN : Hid (FrOut t w (.returned (.agg #[.int .i64 t.kind, .string t.pkg, .int .i64 t.major, .string t.mod, .string t.name, .slice Cn t.names.length cC, .slice Cs t.subs.length dC])) (w5.setRow (w.heap.size + 1) #[.int .i64 t.kind, .string t.pkg, .int .i64 t.major, .string t.mod, .string t.name, .slice Cn t.names.length cC, .slice Cs t.subs.length dC])) := hZ
  ⟨[.int .i64 t.kind, .string t.pkg, .int .i64 t.major, .string t.mod, .string t.name, .slice Cn t.names.length cC, .slice Cs t.subs.length dC], rfl, hT5.move (by simp) fun b hb hS => ⟨by omega, setRow_other _ _ _ _ (by omega)⟩, setRow_below ⟨hg5.os.trans HB4.out.os, hg5.tape.trans HB4.out.tape, hg5.output.trans HB4.out.output, Nat.le_trans HB4.out.size hg5.size, fun b hb => (hg5.block b (by omega) (fun e => absurd (Option.some.inj e) (by omega))).trans (HB4.out.block b hb)⟩ (by omega) _⟩
 clear hT5 hg5 CL x0 x1 x2 x3 x4 x5 x6 s4
 go_wp2_with (first | (((with_reducible refine wpList_putRow 50 (w.heap.size + 1) #[.int .i64 t.kind, .string t.pkg, .int .i64 t.major, .string t.mod, .string t.name, .slice Cn t.names.length cC, .slice Cs t.subs.length dC] _ _ X5 ?_ ?_ ?_ ?_ ?_ ?_); exact tySize; rfl; exact tyOne; iterate 2 (focus (first | (go_simp; done) | rfl)))))
 exact ret_agg1 (fn := Tryz.f128) (vs := [.int .i64 t.kind, .string t.pkg, .int .i64 t.major, .string t.mod, .string t.name, .slice Cn t.names.length cC, .slice Cs t.subs.length dC]) (b := w.heap.size + 1) rfl rfl Tryz.underlying50 (by kernel_rfl) (cell7 (setRow_heap w5 (w.heap.size + 1) _ _ _ _ HX5.out)) rfl FIN.out
end Go.Proofs.YtddlmigofilejaaGreat
