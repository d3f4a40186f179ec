/-
  Several texts in one:  ·  · 
-/
import Derived.Test.YtkgmdbkcldojnaaGreatDoorK22
import Derived.Test.YtkgmdbkcldojnaaGreatDoorK16
import Derived.Test.YtkgmdbkcldojnaaGreatDoorK14
import Derived.Test.YtkgmdbkcldojnaaGreatDoorK15
import Derived.SizedLaws
/-  -/
namespace Go.Proofs.YtkgmdbkcldojnaaGreatDoor
open Go Go.RowKit Go.Shelf
open Go.Sort Go.Maps
open M
def fitN (x : Nm) : Prop := x.name.size ≤ 281474976710656 ∧ many x.typ ≤ 65536 ∧ fitT x.typ
def fitI (x : If) : Prop := x.pkg.size ≤ 281474976710656 ∧ x.mod.size ≤ 281474976710656 ∧ x.types.length ≤ 1000000 ∧ x.vals.length ≤ 1000000 ∧ (∀ y ∈ x.types, fitN y) ∧ ∀ y ∈ x.vals, fitN y
theorem nmSizeF : (Tryz.prog.info? 48).map (·.size) = some 8 := by kernel_rfl
theorem nmOneF {s p d n : ByteArray} {k m : Int} {A5 A6 : Option Addr} {n5 c5 n6 c6 : Nat} : (#[.string s, .int .i64 k, .string p, .int .i64 m, .string d, .string n, .slice A5 n5 c5, .slice A6 n6 c6] : Array Value).all (·.oneCell') = true := Array.all_eq_true_iff_forall_mem.2 (fun v hv => by simp at hv; rcases hv with rfl | rfl | rfl | rfl | rfl | rfl | rfl | rfl <;> rfl)
theorem nm_infoF : (Tryz.prog.info? 48).map (fun i => (i.zero, i.size, i.bytes)) = some (some (.agg #[.string ⟨#[]⟩, .int .i64 0, .string ⟨#[]⟩, .int .i64 0, .string ⟨#[]⟩, .string ⟨#[]⟩, .slice none 0 0, .slice none 0 0]), 8, 128) := by kernel_rfl
theorem cell8F {w : World} {b : Nat} {v0 v1 v2 v3 v4 v5 v6 v7 : Value} {T : TypeId} {fr : Nat × Nat} (h : w.heap[b]? = some (.cells #[v0, v1, v2, v3, v4, v5, v6, v7] T fr)) : ∀ i v, ([v0, v1, v2, v3, v4, v5, v6, v7] : List Value)[i]? = some v → w.cell? ⟨b, i, none⟩ = some v := fun i v hv => by
 rw [Lib.cell_of_heap h, ← hv, ← List.getElem?_toArray]
def NmOut (x : Nm) (w : World) (e : Ending) (w' : World) : Prop := ∃ l : List Value, e = .returned (.agg l.toArray) ∧ nmE (strike (· < w.heap.size) w') l x ∧ Below w.heap.size w w'
set_option maxRecDepth 100000 in
set_option maxHeartbeats 8000000 in
theorem named_any (x : Nm) (hx : fitN x) (l : List Value) (w : World) (h : nmE w l x) : Calls Tryz.prog 61 #[.agg l.toArray] w (NmOut x w) := by
 obtain ⟨hs, l7, rfl, hT⟩ := h
 have HT := Lib.hid hT
 obtain ⟨Bn, cB, Bs, dB, rfl, -⟩ := hT.parts
 obtain ⟨W2, hW2, B2, O0, O1, hl2⟩ := two_boxes w #[.string x.name, .int .i64 x.typ.kind, .string x.typ.pkg, .int .i64 x.typ.major, .string x.typ.mod, .string x.typ.name, .slice Bn x.typ.names.length cB, .slice Bs x.typ.subs.length dB] #[.string ⟨#[]⟩, .int .i64 0, .string ⟨#[]⟩, .int .i64 0, .string ⟨#[]⟩, .string ⟨#[]⟩, .slice none 0 0, .slice none 0 0] 48 48
 have HB2 := Lib.hid B2
 have HO0 := Lib.hid O0
 have HO1 := Lib.hid O1
 have HW := Lib.hid hW2
 have KEEP : Hid (∀ wx : World, wx.heap[w.heap.size]? = W2.heap[w.heap.size]? → wx.cell? ⟨w.heap.size, 0, none⟩ = some (.string x.name) ∧ wx.cell? ⟨w.heap.size, 1, none⟩ = some (.int .i64 x.typ.kind) ∧ wx.cell? ⟨w.heap.size, 2, none⟩ = some (.string x.typ.pkg) ∧ wx.cell? ⟨w.heap.size, 3, none⟩ = some (.int .i64 x.typ.major) ∧ wx.cell? ⟨w.heap.size, 4, none⟩ = some (.string x.typ.mod) ∧ wx.cell? ⟨w.heap.size, 5, none⟩ = some (.string x.typ.name) ∧ wx.cell? ⟨w.heap.size, 6, none⟩ = some (.slice Bn x.typ.names.length cB) ∧ wx.cell? ⟨w.heap.size, 7, none⟩ = some (.slice Bs x.typ.subs.length dB)) := Lib.hid (fun wx hb => by
  have X0 := hb.trans HO0.out
  exact ⟨Lib.cell_of_heap X0 0, Lib.cell_of_heap X0 1, Lib.cell_of_heap X0 2, Lib.cell_of_heap X0 3, Lib.cell_of_heap X0 4, Lib.cell_of_heap X0 5, Lib.cell_of_heap X0 6, Lib.cell_of_heap X0 7⟩)
 have C0 := Lib.hid (fun (wx : World) => cln_any x.name wx hx.1)
 have C1 := Lib.hid (fun (wx : World) (hb : Below w.heap.size w wx) => fresh_any x.typ hx.2.1 hx.2.2 _ wx (HT.out.keep hb))
 clear hW2 B2 O0 O1 hT
 go_enter Tryz.func61, Tryz.ntmps61
 go_upto_region 1 with fail
 rw [← HW.out]
 clear HW
 have hH0 := KEEP.out W2.drew rfl
 refine AnyX.start (fun wx => wx.cell? ⟨w.heap.size, 0, none⟩ = some (.string x.name) ∧ wx.cell? ⟨w.heap.size, 1, none⟩ = some (.int .i64 x.typ.kind) ∧ wx.cell? ⟨w.heap.size, 2, none⟩ = some (.string x.typ.pkg) ∧ wx.cell? ⟨w.heap.size, 3, none⟩ = some (.int .i64 x.typ.major) ∧ wx.cell? ⟨w.heap.size, 4, none⟩ = some (.string x.typ.mod) ∧ wx.cell? ⟨w.heap.size, 5, none⟩ = some (.string x.typ.name) ∧ wx.cell? ⟨w.heap.size, 6, none⟩ = some (.slice Bn x.typ.names.length cB) ∧ wx.cell? ⟨w.heap.size, 7, none⟩ = some (.slice Bs x.typ.subs.length dB)) (fun _ => false) (by kernel_rfl) ?_
 refine AnyX.move (i := 0) (v := ?_) rfl (by kernel_rfl) (by kernel_rfl) (by kernel_rfl) (by kernel_rfl) (fun _ _ _ h => h) (Or.inl ⟨by rfl, ?_⟩) ?_
 rotate_left
 ·(intro wS _; go_simp; try with_reducible rfl)
 simp only [List.getElem_toArray, List.getElem_cons_succ, List.getElem_cons_zero]
 simp only [Act.put, List.setIfInBounds_toArray]
 simp only [List.set_cons_zero, List.set_cons_succ]
 refine AnyX.take (i := 1) (v := ?_) rfl (by kernel_rfl) (by kernel_rfl) (by kernel_rfl) (by kernel_rfl) (by kernel_rfl) (fun _ _ _ h => h) hH0 (Or.inl ⟨by rfl, ?_⟩) ?_
 rotate_left
 ·(intro wS hS; (try obtain ⟨x0, x1, x2, x3, x4, x5, x6, x7⟩ := hS); go_simp; try with_reducible rfl)
 simp only [List.getElem_toArray, List.getElem_cons_succ, List.getElem_cons_zero]
 simp only [Act.put, List.setIfInBounds_toArray]
 simp only [List.set_cons_zero, List.set_cons_succ]
 refine AnyX.move (i := 3) (v := ?_) rfl (by kernel_rfl) (by kernel_rfl) (by kernel_rfl) (by kernel_rfl) (fun _ _ _ h => h) (Or.inl ⟨by rfl, ?_⟩) ?_
 rotate_left
 ·(intro wS _; go_simp; try with_reducible rfl)
 simp only [List.getElem_toArray, List.getElem_cons_succ, List.getElem_cons_zero]
 simp only [Act.put, List.setIfInBounds_toArray]
 simp only [List.set_cons_zero, List.set_cons_succ]
 refine AnyX.take (i := 4) (v := ?_) rfl (by kernel_rfl) (by kernel_rfl) (by kernel_rfl) (by kernel_rfl) (by kernel_rfl) (fun _ _ _ h => h) hH0 (Or.inl ⟨by rfl, ?_⟩) ?_
 rotate_left
 ·(intro wS hS; (try obtain ⟨x0, x1, x2, x3, x4, x5, x6, x7⟩ := hS); go_simp; try with_reducible rfl)
 simp only [List.getElem_toArray, List.getElem_cons_succ, List.getElem_cons_zero]
 simp only [Act.put, List.setIfInBounds_toArray]
 simp only [List.set_cons_zero, List.set_cons_succ]
 refine AnyX.go 2 (by kernel_rfl) rfl rfl (fun K hK => ?_)
 simp only [List.getElem_toArray, List.getElem_cons_succ, List.getElem_cons_zero]
 go_simp
 refine (C0.out W2.drew).mono ?_; rintro e w3 ⟨rfl, hb3⟩
 have HB3 : Hid (Below W2.heap.size W2 w3) := Lib.hid (Below.trans (Below.drew (Below.refl _ _)) hb3)
 have hH3 := KEEP.out w3 (HB3.out.block _ (by omega))
 clear hb3
 simp only []
 refine hK.out _ _ (fun hoff _ => hH3) ?_
 clear hK
 try simp only [Act.put, List.setIfInBounds_toArray]
 try simp only [List.set_cons_zero, List.set_cons_succ]
 refine AnyX.go 5 (by kernel_rfl) rfl rfl (fun K hK => ?_)
 simp only [List.getElem_toArray, List.getElem_cons_succ, List.getElem_cons_zero]
 go_simp
 refine (C1.out w3 (below_over HB2.out HB3.out)).mono ?_; rintro e w4 ⟨l', rfl, hT4, hb4⟩
 obtain ⟨Dn, dn, Ds, ds, rfl, -⟩ := hT4.parts
 have HB4 : Hid (Below W2.heap.size W2 w4) := Lib.hid (below_over HB3.out hb4)
 have s3 := HB3.out.size
 have X4 := (HB4.out.block _ hl2).trans HO1.out
 have HX4 := Lib.hid X4
 have hH4 := KEEP.out w4 (HB4.out.block _ (by omega))
 have FIN : Hid (NmOut x w (.returned (.agg #[.string x.name, .int .i64 x.typ.kind, .string x.typ.pkg, .int .i64 x.typ.major, .string x.typ.mod, .string x.typ.name, .slice Dn x.typ.names.length dn, .slice Ds x.typ.subs.length ds])) (w4.setRow (w.heap.size + 1) #[.string x.name, .int .i64 x.typ.kind, .string x.typ.pkg, .int .i64 x.typ.major, .string x.typ.mod, .string x.typ.name, .slice Dn x.typ.names.length dn, .slice Ds x.typ.subs.length ds])) := Lib.hid
  ⟨[.string x.name, .int .i64 x.typ.kind, .string x.typ.pkg, .int .i64 x.typ.major, .string x.typ.mod, .string x.typ.name, .slice Dn x.typ.names.length dn, .slice Ds x.typ.subs.length ds], rfl, ⟨hs, _, rfl, hT4.move (by simp) fun b hb hS => ⟨by omega, setRow_other _ _ _ _ (by omega)⟩⟩, setRow_below (below_over HB2.out HB4.out) (by omega) _⟩
 clear hT4 hb4 C0 C1
 simp only []
 refine hK.out _ _ (fun hoff _ => hH4) ?_
 clear hK
 try simp only [Act.put, List.setIfInBounds_toArray]
 try simp only [List.set_cons_zero, List.set_cons_succ]
 refine AnyX.move (i := 6) (v := ?_) rfl (by kernel_rfl) (by kernel_rfl) (by kernel_rfl) (by kernel_rfl) (fun _ _ _ h => h) (Or.inl ⟨by rfl, ?_⟩) ?_
 rotate_left
 ·(intro wS _; go_simp; try with_reducible rfl)
 simp only [List.getElem_toArray, List.getElem_cons_succ, List.getElem_cons_zero]
 simp only [Act.put, List.setIfInBounds_toArray]
 simp only [List.set_cons_zero, List.set_cons_succ]
 refine AnyX.go 7 (by kernel_rfl) rfl rfl (fun K hK => ?_)
 simp only [List.getElem_toArray, List.getElem_cons_succ, List.getElem_cons_zero]
 refine wp_store_row 48 (.tmp 2) (.tmp 9) rfl (w.heap.size + 1) #[.string x.name, .int .i64 x.typ.kind, .string x.typ.pkg, .int .i64 x.typ.major, .string x.typ.mod, .string x.typ.name, .slice Dn x.typ.names.length dn, .slice Ds x.typ.subs.length ds] rfl rfl _ _ X4 nmSizeF rfl nmOneF ?_
 refine hK.out _ _ (fun hoff _ => KEEP.out _ ((setRow_other _ _ _ _ (by omega)).trans (HB4.out.block _ (by omega)))) ?_
 clear hK
 try simp only [Act.put, List.setIfInBounds_toArray]
 try simp only [List.set_cons_zero, List.set_cons_succ]
 refine AnyX.done (by kernel_rfl) ?_ _
 go_wp2_with fail
 exact ret_agg1 (fn := Tryz.f61) (vs := [.string x.name, .int .i64 x.typ.kind, .string x.typ.pkg, .int .i64 x.typ.major, .string x.typ.mod, .string x.typ.name, .slice Dn x.typ.names.length dn, .slice Ds x.typ.subs.length ds]) (b := w.heap.size + 1) rfl rfl Tryz.underlying48 (by kernel_rfl) (cell8F (setRow_heap w4 (w.heap.size + 1) _ _ _ _ HX4.out)) rfl FIN.out
set_option maxRecDepth 100000 in
set_option maxHeartbeats 8000000 in
theorem listN_any (w0 w : World) (A : Option Addr) (n c : Nat) (xs : List Nm) (hn : xs.length = n) (hz : n ≤ 1000000) (hS : RowIn nmR w0 A xs) (hw : Below w0.heap.size w0 w) (hf : ∀ x ∈ xs, fitN x) :
  Calls Tryz.prog 60 #[.slice A n c, .func (.func 61) #[] #[]] w fun e w' => ∃ (A' : Option Addr) (c' : Nat), e = .returned (.slice A' n c') ∧ RowIn nmR (strike (· < w.heap.size) w') A' xs ∧ Below w.heap.size w w' := by
 have HN := Lib.hid hn
 have HS := Lib.hid hS
 have HW := Lib.hid hw
 have HF0 := Lib.hid hf
 have EQ : ∀ wz : World, (binOp .eql 35 (.slice A n c) (.slice none 0 0)).run Tryz.prog wz = .ok (.bool A.isNone) wz := fun wz => Lib.run_eql_slice_nil wz _ _ _ _ _ _ _ Tryz.underlying35
 cases A with
 | none =>
  have h0 : xs = [] := hS.none_nil
  have hn0 : n = 0 := by rw [← hn, h0]; rfl
  have HX := Lib.hid h0
  subst hn0
  clear hS hn h0 hw hf
  go_enter Tryz.func60, Tryz.ntmps60
  go_wp2_with fail
  go_ret
  exact ⟨_, _, rfl, fun i s h => by rw [HX.out] at h; simp at h, Below.refl _ _⟩
 | some ad =>
  obtain ⟨i0, hi, hz0, hz1, hz2⟩ := info_parts nm_infoF
  obtain ⟨W1, hW1⟩ : ∃ W1, W1 = w.alloc (.cells (madeCells (Value.agg #[.string ⟨#[]⟩, .int .i64 0, .string ⟨#[]⟩, .int .i64 0, .string ⟨#[]⟩, .string ⟨#[]⟩, .slice none 0 0, .slice none 0 0]).cells (n * 8)) 48) := ⟨_, rfl⟩
  have MS := run_make (P := Tryz.prog) w 35 48 i0 (.agg #[.string ⟨#[]⟩, .int .i64 0, .string ⟨#[]⟩, .int .i64 0, .string ⟨#[]⟩, .string ⟨#[]⟩, .slice none 0 0, .slice none 0 0]) Tryz.underlying35 hi hz0 .i64 .i64 (n : Int) (n : Int) (by omega) (by omega) (by rw [hz2]; omega) (by omega)
  rw [hz1] at MS
  simp only [Int.toNat_natCast] at MS
  rw [← hW1] at MS
  have START : Hid (Fill nmR w.heap.size w.heap.size xs 0 W1) := Lib.hid (by rw [hW1]; exact Fill.start nmR (Nat.le_refl _) _ _ xs (by rw [size_madeCells, hn]; rfl))
  have HB1 : Hid (Below w.heap.size w W1) := Lib.hid (by rw [hW1]; exact below_new (Below.refl _ _) _)
  have EQ' : ∀ wz : World, (binOp .eql 35 (.slice (some ad) n c) (.slice none 0 0)).run Tryz.prog wz = .ok (.bool false) wz := EQ
  clear EQ hW1 hS hn hw hf
  go_enter Tryz.func60, Tryz.ntmps60
  go_wp2_with fail
  go_loopw [15] (fun s15 wr => ∃ k : Nat, k ≤ n ∧ s15 = .int .i64 k ∧ Hid (Fill nmR w.heap.size w.heap.size xs k wr) ∧ Hid (Below w.heap.size w wr)) (fun s15 _ => n - (intOf s15).toNat)
  case atStart => exact ⟨0, by omega, rfl, START, HB1⟩
  case round =>
   obtain ⟨k, hk, rfl, HF, HB⟩ := hrel
   obtain ⟨wo, rfl⟩ : ∃ wo : World, wo = wr := ⟨_, rfl⟩
   clear MS EQ' START HB1
   by_cases hlt : k < n
   ·obtain ⟨x, hx⟩ : ∃ x, xs[k]? = some x := ⟨_, List.getElem?_eq_getElem (by rw [HN.out]; exact hlt)⟩
    have BW := below_over HW.out HB.out
    obtain ⟨g, o, Bn, cB, Bs, dB, e1, hg, a0, a1, a2, a3, a4, a5, a6, a7, us, zs⟩ := (HS.out.below BW).nm hx
    obtain rfl := Option.some.inj e1
    obtain ⟨w8, hw8⟩ : ∃ w8, w8 = wo.alloc (.cells #[.string x.name, .int .i64 x.typ.kind, .string x.typ.pkg, .int .i64 x.typ.major, .string x.typ.mod, .string x.typ.name, .slice Bn x.typ.names.length cB, .slice Bs x.typ.subs.length dB] 48) := ⟨_, rfl⟩
    have B8 : Below wo.heap.size wo w8 := by rw [hw8]; exact below_new (Below.refl _ _) _
    have Y8 : w8.heap[wo.heap.size]? = some (.cells #[.string x.name, .int .i64 x.typ.kind, .string x.typ.pkg, .int .i64 x.typ.major, .string x.typ.mod, .string x.typ.name, .slice Bn x.typ.names.length cB, .slice Bs x.typ.subs.length dB] 48 (0, 0)) := by rw [hw8]; exact heap_alloc_new wo _
    have s8 : w8.heap.size = wo.heap.size + 1 := by rw [hw8]; simp
    have CL := Lib.hid (named_any x (HF0.out x (List.mem_of_getElem? hx)) [.string x.name, .int .i64 x.typ.kind, .string x.typ.pkg, .int .i64 x.typ.major, .string x.typ.mod, .string x.typ.name, .slice Bn x.typ.names.length cB, .slice Bs x.typ.subs.length dB] w8 ⟨zs, _, rfl, us.keep B8⟩)
    have HXX := Lib.hid hx
    have HB8 := Lib.hid B8
    have HW8 := Lib.hid hw8
    have HY8 := Lib.hid Y8
    clear hx us zs hg e1 B8 hw8 BW
    go_upto_region 7 with fail
    rw [← HW8.out]
    clear a0 a1 a2 a3 a4 a5 a6 a7
    have y0 := Lib.cell_of_heap Y8 0
    have y1 := Lib.cell_of_heap Y8 1
    have y2 := Lib.cell_of_heap Y8 2
    have y3 := Lib.cell_of_heap Y8 3
    have y4 := Lib.cell_of_heap Y8 4
    have y5 := Lib.cell_of_heap Y8 5
    have y6 := Lib.cell_of_heap Y8 6
    have y7 := Lib.cell_of_heap Y8 7
    simp at y0 y1 y2 y3 y4 y5 y6 y7
    clear Y8
    go_wp2_with fail
    refine CL.out.mono ?_; rintro e w2 ⟨l', rfl, ⟨hz', l7, rfl, hT2⟩, hb2⟩
    obtain ⟨Cn, cC, Cs, dC, rfl, -⟩ := hT2.parts
    have hlw : w.heap.size < wo.heap.size := HF.out.hg
    have hs2 := hb2.size
    have F2 : Fill nmR w.heap.size w.heap.size xs k w2 := HF.out.keep (by omega) (fun b h1 hb => (hb2.block b (by omega)).trans (HB8.out.block b hb))
    have HT := F2.at (m := 8) (by rw [HN.out]; exact hlt) rfl
    have F3 : Hid (Fill nmR w.heap.size w.heap.size xs (k + 1) (w2.setCells w.heap.size (k * 8) [.string x.name, .int .i64 x.typ.kind, .string x.typ.pkg, .int .i64 x.typ.major, .string x.typ.mod, .string x.typ.name, .slice Cn x.typ.names.length cC, .slice Cs x.typ.subs.length dC])) := Lib.hid (F2.put HXX.out (B := w8.heap.size) ⟨hz', _, rfl, hT2⟩ (by omega))
    have B3 : Hid (Below w.heap.size w (w2.setCells w.heap.size (k * 8) [.string x.name, .int .i64 x.typ.kind, .string x.typ.pkg, .int .i64 x.typ.major, .string x.typ.mod, .string x.typ.name, .slice Cn x.typ.names.length cC, .slice Cs x.typ.subs.length dC])) := Lib.hid (setCells_below (below_over (below_over HB.out HB8.out) hb2) (Nat.le_refl _) _ _)
    clear F2 hb2 hT2 CL y0 y1 y2 y3 y4 y5 y6 y7 HB8 HW8 HY8
    go_upto_region 8 with (first | ((with_reducible refine wpList_putMid 48 w.heap.size (k * 8) #[.string x.name, .int .i64 x.typ.kind, .string x.typ.pkg, .int .i64 x.typ.major, .string x.typ.mod, .string x.typ.name, .slice Cn x.typ.names.length cC, .slice Cs x.typ.subs.length dC] ?_ ?_ ?_ ?_ ?_ ?_); exact HT; exact nmSizeF; exact nmOneF; rfl; rfl))
    obtain ⟨w9, hw9⟩ : ∃ w9, w9 = w2.setCells w.heap.size (k * 8) [.string x.name, .int .i64 x.typ.kind, .string x.typ.pkg, .int .i64 x.typ.major, .string x.typ.mod, .string x.typ.name, .slice Cn x.typ.names.length cC, .slice Cs x.typ.subs.length dC] := ⟨_, rfl⟩
    rw [← hw9] at F3 B3
    have HW9 := Lib.hid hw9
    clear hw9 HT
    try rw [← HW9.out]
    go_wp2_with fail
    go_roundw
    case rel => exact ⟨k + 1, by omega, by go_num, F3, B3⟩
    case measure => simp [intOf]; omega
   ·have hkn : k = n := by omega
    have DONE := Lib.hid (HF.out.done (m := w.heap.size) (by rw [HN.out]; omega) (Nat.le_refl _))
    clear hkn
    go_wp2_with fail
    go_ret
    exact ⟨_, _, rfl, DONE.out, HB.out⟩
def IfOut (x : If) (w : World) (e : Ending) (w' : World) : Prop := ∃ l : List Value, e = .returned (.agg l.toArray) ∧ ifE (strike (· < w.heap.size) w') l x ∧ Below w.heap.size w w'
set_option maxRecDepth 100000 in
set_option maxHeartbeats 8000000 in
theorem iface_any (x : If) (hx : fitI x) (l : List Value) (w : World) (h : ifE w l x) : Calls Tryz.prog 26 #[.agg l.toArray] w (IfOut x w) := by
 obtain ⟨At, ct, Av, cv, rfl, h1, h2, h3, h4, hRt, hRv⟩ := h
 obtain ⟨W2, hW2, B2, O0, O1, hl2⟩ := two_boxes w #[.string x.pkg, .int .i64 x.major, .string x.mod, .slice At x.types.length ct, .slice Av x.vals.length cv] #[.string ⟨#[]⟩, .int .i64 0, .string ⟨#[]⟩, .slice none 0 0, .slice none 0 0] 37 37
 have HB2 := Lib.hid B2
 have HO0 := Lib.hid O0
 have HO1 := Lib.hid O1
 have HW := Lib.hid hW2
 have KEEP : Hid (∀ wx : World, wx.heap[w.heap.size]? = W2.heap[w.heap.size]? → wx.cell? ⟨w.heap.size, 0, none⟩ = some (.string x.pkg) ∧ wx.cell? ⟨w.heap.size, 1, none⟩ = some (.int .i64 x.major) ∧ wx.cell? ⟨w.heap.size, 2, none⟩ = some (.string x.mod) ∧ wx.cell? ⟨w.heap.size, 3, none⟩ = some (.slice At x.types.length ct) ∧ wx.cell? ⟨w.heap.size, 4, none⟩ = some (.slice Av x.vals.length cv)) := Lib.hid (fun wx hb => by
  have X0 := hb.trans HO0.out
  exact ⟨Lib.cell_of_heap X0 0, Lib.cell_of_heap X0 1, Lib.cell_of_heap X0 2, Lib.cell_of_heap X0 3, Lib.cell_of_heap X0 4⟩)
 obtain ⟨f1, f2, f3, f4, f5, f6⟩ := hx
 have C0 := Lib.hid (fun (wx : World) => cln_any x.pkg wx f1)
 have C1 := Lib.hid (fun (wx : World) => cln_any x.mod wx f2)
 have C2 := Lib.hid (fun (wx : World) (hb : Below w.heap.size w wx) => listN_any w wx At x.types.length ct x.types rfl f3 hRt hb f5)
 have C3 := Lib.hid (fun (wx : World) (hb : Below w.heap.size w wx) => listN_any w wx Av x.vals.length cv x.vals rfl f4 hRv hb f6)
 clear hW2 B2 O0 O1 hRt hRv f1 f2 f3 f4 f5 f6
 go_enter Tryz.func26, Tryz.ntmps26
 go_upto_region 1 with fail
 rw [← HW.out]
 clear HW
 have hH0 := KEEP.out W2.drew rfl
 refine AnyX.start (fun wx => wx.cell? ⟨w.heap.size, 0, none⟩ = some (.string x.pkg) ∧ wx.cell? ⟨w.heap.size, 1, none⟩ = some (.int .i64 x.major) ∧ wx.cell? ⟨w.heap.size, 2, none⟩ = some (.string x.mod) ∧ wx.cell? ⟨w.heap.size, 3, none⟩ = some (.slice At x.types.length ct) ∧ wx.cell? ⟨w.heap.size, 4, none⟩ = some (.slice Av x.vals.length cv)) (fun _ => false) (by kernel_rfl) ?_
 refine AnyX.move (i := 0) (v := ?_) rfl (by kernel_rfl) (by kernel_rfl) (by kernel_rfl) (by kernel_rfl) (fun _ _ _ h => h) (Or.inl ⟨by rfl, ?_⟩) ?_
 rotate_left
 ·(intro wS _; go_simp; try with_reducible rfl)
 simp only [List.getElem_toArray, List.getElem_cons_succ, List.getElem_cons_zero]
 simp only [Act.put, List.setIfInBounds_toArray]
 simp only [List.set_cons_zero, List.set_cons_succ]
 refine AnyX.take (i := 1) (v := ?_) rfl (by kernel_rfl) (by kernel_rfl) (by kernel_rfl) (by kernel_rfl) (by kernel_rfl) (fun _ _ _ h => h) hH0 (Or.inl ⟨by rfl, ?_⟩) ?_
 rotate_left
 ·(intro wS hS; (try obtain ⟨x0, x1, x2, x3, x4⟩ := hS); go_simp; try with_reducible rfl)
 simp only [List.getElem_toArray, List.getElem_cons_succ, List.getElem_cons_zero]
 simp only [Act.put, List.setIfInBounds_toArray]
 simp only [List.set_cons_zero, List.set_cons_succ]
 refine AnyX.move (i := 3) (v := ?_) rfl (by kernel_rfl) (by kernel_rfl) (by kernel_rfl) (by kernel_rfl) (fun _ _ _ h => h) (Or.inl ⟨by rfl, ?_⟩) ?_
 rotate_left
 ·(intro wS _; go_simp; try with_reducible rfl)
 simp only [List.getElem_toArray, List.getElem_cons_succ, List.getElem_cons_zero]
 simp only [Act.put, List.setIfInBounds_toArray]
 simp only [List.set_cons_zero, List.set_cons_succ]
 refine AnyX.take (i := 4) (v := ?_) rfl (by kernel_rfl) (by kernel_rfl) (by kernel_rfl) (by kernel_rfl) (by kernel_rfl) (fun _ _ _ h => h) hH0 (Or.inl ⟨by rfl, ?_⟩) ?_
 rotate_left
 ·(intro wS hS; (try obtain ⟨x0, x1, x2, x3, x4⟩ := hS); go_simp; try with_reducible rfl)
 simp only [List.getElem_toArray, List.getElem_cons_succ, List.getElem_cons_zero]
 simp only [Act.put, List.setIfInBounds_toArray]
 simp only [List.set_cons_zero, List.set_cons_succ]
 refine AnyX.move (i := 5) (v := ?_) rfl (by kernel_rfl) (by kernel_rfl) (by kernel_rfl) (by kernel_rfl) (fun _ _ _ h => h) (Or.inl ⟨by rfl, ?_⟩) ?_
 rotate_left
 ·(intro wS _; go_simp; try with_reducible rfl)
 simp only [List.getElem_toArray, List.getElem_cons_succ, List.getElem_cons_zero]
 simp only [Act.put, List.setIfInBounds_toArray]
 simp only [List.set_cons_zero, List.set_cons_succ]
 refine AnyX.take (i := 6) (v := ?_) rfl (by kernel_rfl) (by kernel_rfl) (by kernel_rfl) (by kernel_rfl) (by kernel_rfl) (fun _ _ _ h => h) hH0 (Or.inl ⟨by rfl, ?_⟩) ?_
 rotate_left
 ·(intro wS hS; (try obtain ⟨x0, x1, x2, x3, x4⟩ := hS); go_simp; try with_reducible rfl)
 simp only [List.getElem_toArray, List.getElem_cons_succ, List.getElem_cons_zero]
 simp only [Act.put, List.setIfInBounds_toArray]
 simp only [List.set_cons_zero, List.set_cons_succ]
 refine AnyX.move (i := 8) (v := ?_) rfl (by kernel_rfl) (by kernel_rfl) (by kernel_rfl) (by kernel_rfl) (fun _ _ _ h => h) (Or.inl ⟨by rfl, ?_⟩) ?_
 rotate_left
 ·(intro wS _; go_simp; try with_reducible rfl)
 simp only [List.getElem_toArray, List.getElem_cons_succ, List.getElem_cons_zero]
 simp only [Act.put, List.setIfInBounds_toArray]
 simp only [List.set_cons_zero, List.set_cons_succ]
 refine AnyX.take (i := 9) (v := ?_) rfl (by kernel_rfl) (by kernel_rfl) (by kernel_rfl) (by kernel_rfl) (by kernel_rfl) (fun _ _ _ h => h) hH0 (Or.inl ⟨by rfl, ?_⟩) ?_
 rotate_left
 ·(intro wS hS; (try obtain ⟨x0, x1, x2, x3, x4⟩ := hS); go_simp; try with_reducible rfl)
 simp only [List.getElem_toArray, List.getElem_cons_succ, List.getElem_cons_zero]
 simp only [Act.put, List.setIfInBounds_toArray]
 simp only [List.set_cons_zero, List.set_cons_succ]
 refine AnyX.move (i := 11) (v := ?_) rfl (by kernel_rfl) (by kernel_rfl) (by kernel_rfl) (by kernel_rfl) (fun _ _ _ h => h) (Or.inl ⟨by rfl, ?_⟩) ?_
 rotate_left
 ·(intro wS _; go_simp; try with_reducible rfl)
 simp only [List.getElem_toArray, List.getElem_cons_succ, List.getElem_cons_zero]
 simp only [Act.put, List.setIfInBounds_toArray]
 simp only [List.set_cons_zero, List.set_cons_succ]
 refine AnyX.take (i := 12) (v := ?_) rfl (by kernel_rfl) (by kernel_rfl) (by kernel_rfl) (by kernel_rfl) (by kernel_rfl) (fun _ _ _ h => h) hH0 (Or.inl ⟨by rfl, ?_⟩) ?_
 rotate_left
 ·(intro wS hS; (try obtain ⟨x0, x1, x2, x3, x4⟩ := hS); go_simp; try with_reducible rfl)
 simp only [List.getElem_toArray, List.getElem_cons_succ, List.getElem_cons_zero]
 simp only [Act.put, List.setIfInBounds_toArray]
 simp only [List.set_cons_zero, List.set_cons_succ]
 refine AnyX.go 2 (by kernel_rfl) rfl rfl (fun K hK => ?_)
 simp only [List.getElem_toArray, List.getElem_cons_succ, List.getElem_cons_zero]
 go_simp
 refine (C0.out W2.drew).mono ?_; rintro e w3 ⟨rfl, hb3⟩
 have HB3 : Hid (Below W2.heap.size W2 w3) := Lib.hid (Below.trans (Below.drew (Below.refl _ _)) hb3)
 have hH3 := KEEP.out w3 (HB3.out.block _ (by omega))
 clear hb3
 simp only []
 refine hK.out _ _ (fun hoff _ => hH3) ?_
 clear hK
 try simp only [Act.put, List.setIfInBounds_toArray]
 try simp only [List.set_cons_zero, List.set_cons_succ]
 refine AnyX.go 7 (by kernel_rfl) rfl rfl (fun K hK => ?_)
 simp only [List.getElem_toArray, List.getElem_cons_succ, List.getElem_cons_zero]
 go_simp
 refine (C1.out w3).mono ?_; rintro e w4 ⟨rfl, hb4⟩
 have HB4 : Hid (Below W2.heap.size W2 w4) := Lib.hid (below_over HB3.out hb4)
 have hH4 := KEEP.out w4 (HB4.out.block _ (by omega))
 clear hb4
 simp only []
 refine hK.out _ _ (fun hoff _ => hH4) ?_
 clear hK
 try simp only [Act.put, List.setIfInBounds_toArray]
 try simp only [List.set_cons_zero, List.set_cons_succ]
 refine AnyX.go 10 (by kernel_rfl) rfl rfl (fun K hK => ?_)
 simp only [List.getElem_toArray, List.getElem_cons_succ, List.getElem_cons_zero]
 go_simp
 refine (C2.out w4 (below_over HB2.out HB4.out)).mono ?_; rintro e w5 ⟨A5, c5, rfl, hR5, hb5⟩
 have HB5 : Hid (Below W2.heap.size W2 w5) := Lib.hid (below_over HB4.out hb5)
 have HR5 := Lib.hid hR5
 have hH5 := KEEP.out w5 (HB5.out.block _ (by omega))
 clear hb5 hR5
 simp only []
 refine hK.out _ _ (fun hoff _ => hH5) ?_
 clear hK
 try simp only [Act.put, List.setIfInBounds_toArray]
 try simp only [List.set_cons_zero, List.set_cons_succ]
 refine AnyX.go 13 (by kernel_rfl) rfl rfl (fun K hK => ?_)
 simp only [List.getElem_toArray, List.getElem_cons_succ, List.getElem_cons_zero]
 go_simp
 refine (C3.out w5 (below_over HB2.out HB5.out)).mono ?_; rintro e w6 ⟨A6, c6, rfl, hR6, hb6⟩
 have HB6 : Hid (Below W2.heap.size W2 w6) := Lib.hid (below_over HB5.out hb6)
 have s4 := HB4.out.size
 have s5 := HB5.out.size
 have X6 := (HB6.out.block _ hl2).trans HO1.out
 have HX6 := Lib.hid X6
 have hH6 := KEEP.out w6 (HB6.out.block _ (by omega))
 have FIN : Hid (IfOut x w (.returned (.agg #[.string x.pkg, .int .i64 x.major, .string x.mod, .slice A5 x.types.length c5, .slice A6 x.vals.length c6])) (w6.setRow (w.heap.size + 1) #[.string x.pkg, .int .i64 x.major, .string x.mod, .slice A5 x.types.length c5, .slice A6 x.vals.length c6])) := Lib.hid
  ⟨[.string x.pkg, .int .i64 x.major, .string x.mod, .slice A5 x.types.length c5, .slice A6 x.vals.length c6], rfl, ⟨A5, c5, A6, c6, rfl, h1, h2, h3, h4, HR5.out.move (Nat.le_trans hb6.size (by simp)) fun b hb hS => ⟨by omega, (setRow_other _ _ _ _ (by omega)).trans (hb6.block b hb)⟩, hR6.move (by simp) fun b hb hS => ⟨by omega, setRow_other _ _ _ _ (by omega)⟩⟩, setRow_below (below_over HB2.out HB6.out) (by omega) _⟩
 clear hR6 hb6 C0 C1 C2 C3
 simp only []
 refine hK.out _ _ (fun hoff _ => hH6) ?_
 clear hK
 try simp only [Act.put, List.setIfInBounds_toArray]
 try simp only [List.set_cons_zero, List.set_cons_succ]
 refine AnyX.move (i := 14) (v := ?_) rfl (by kernel_rfl) (by kernel_rfl) (by kernel_rfl) (by kernel_rfl) (fun _ _ _ h => h) (Or.inl ⟨by rfl, ?_⟩) ?_
 rotate_left
 ·(intro wS _; go_simp; try with_reducible rfl)
 simp only [List.getElem_toArray, List.getElem_cons_succ, List.getElem_cons_zero]
 simp only [Act.put, List.setIfInBounds_toArray]
 simp only [List.set_cons_zero, List.set_cons_succ]
 refine AnyX.go 15 (by kernel_rfl) rfl rfl (fun K hK => ?_)
 simp only [List.getElem_toArray, List.getElem_cons_succ, List.getElem_cons_zero]
 refine wp_store_row 37 (.tmp 2) (.tmp 17) rfl (w.heap.size + 1) #[.string x.pkg, .int .i64 x.major, .string x.mod, .slice A5 x.types.length c5, .slice A6 x.vals.length c6] rfl rfl _ _ X6 ifSize rfl ifOne ?_
 refine hK.out _ _ (fun hoff _ => KEEP.out _ ((setRow_other _ _ _ _ (by omega)).trans (HB6.out.block _ (by omega)))) ?_
 clear hK
 try simp only [Act.put, List.setIfInBounds_toArray]
 try simp only [List.set_cons_zero, List.set_cons_succ]
 refine AnyX.done (by kernel_rfl) ?_ _
 go_wp2_with fail
 exact ret_agg1 (fn := Tryz.f26) (vs := [.string x.pkg, .int .i64 x.major, .string x.mod, .slice A5 x.types.length c5, .slice A6 x.vals.length c6]) (b := w.heap.size + 1) rfl rfl Tryz.underlying37 (by kernel_rfl) (cell5 (setRow_heap w6 (w.heap.size + 1) _ _ _ _ HX6.out)) rfl FIN.out
end Go.Proofs.YtkgmdbkcldojnaaGreatDoor

/-  -/
namespace Go.Proofs.YtkgmdbkcldojnaaGreatDoor
open Go Go.ChangeShapes Go.WideShapes Go.ChangeAt Go.RowKit Go.Joins Go.Deep
open M
mutual
def strT : Ty → Prop
  | .mk _ p _ d n ns ss => (p.size ≤ 281474976710656 ∧ d.size ≤ 281474976710656 ∧ n.size ≤ 281474976710656 ∧ ∀ s ∈ ns, s.size ≤ 281474976710656) ∧ strL ss
def strL : List Ty → Prop
  | [] => True
  | t :: r => strT t ∧ strL r
end
theorem strL_mem : ∀ l : List Ty, strL l ↔ ∀ t ∈ l, strT t
  | [] => by simp [strL]
  | t :: r => by unfold strL; rw [strL_mem r]; simp
mutual
theorem str_fit : ∀ t : Ty, shortT t → strT t → fitT t
  | .mk k p j d n ns ss, h1, h2 => by
    unfold shortT at h1
    unfold strT at h2
    unfold fitT
    exact ⟨⟨h2.1.1, h2.1.2.1, h2.1.2.2.1, h1.1, h2.1.2.2.2⟩, str_fitL ss h1.2 h2.2⟩
theorem str_fitL : ∀ l : List Ty, shortL l → strL l → fitL l
  | [], _, _ => by unfold fitL; trivial
  | t :: r, h1, h2 => by
    unfold shortL at h1
    unfold strL at h2
    unfold fitL
    exact ⟨str_fit t h1.1 h2.1, str_fitL r h1.2 h2.2⟩
end
section
variable {H : Type} {enc : TypeId × Value → H} {w : World} {base : Nat} {sp : Nat → Bool} {held : Bool}
theorem weights_all {P : Program} {e : TypeId} : ∀ {l : List (DataW H)} {d : DataW H}, d ∈ l → ∀ n ∈ d.weights P e, n ∈ DataW.weightsAll P e l
  | a :: r, d, h, n, hn => by
    simp only [DataW.weightsAll, List.mem_append]
    rcases List.mem_cons.1 h with rfl | h
    · exact .inl hn
    · exact .inr (weights_all h n hn)
  | [], _, h, _, _ => by cases h
theorem sized_rows {α : Type} (R : Reads α) (M : Nat) (Q : α → Prop) {st : TypeId} (ht : Tryz.prog.underlying st = some (.slice R.T)) (hk : Tryz.prog.cellsOf R.T = R.k) {fuel : Nat} {A : Option Addr} {l : List α} {c : Nat} {x : DataW H × List MemPlace}
    (hQ : ∀ n, n < fuel → ∀ (cs : List Value) (y : DataW H × List MemPlace) (a : α), DataW.trod enc Tryz.prog w base sp held n R.T cs = some y → R.E w cs a → (∀ q ∈ y.1.weights Tryz.prog R.T, q ≤ M) → Q a)
    (h : DataW.trod enc Tryz.prog w base sp held fuel st [.slice A l.length c] = some x) (hR : RowIn R w A l) (hw : ∀ q ∈ x.1.weights Tryz.prog st, q ≤ M) : ∀ a ∈ l, Q a := by
  intro a ha
  obtain ⟨i, hi⟩ := List.mem_iff_getElem?.1 ha
  have hil := (List.getElem?_eq_some_iff.1 hi).1
  rcases DataW.trod_slice ht h with ⟨hc, -⟩ | ⟨a', len, cap, elems, rest, n', hn', hc, hx, -, hl, hm, hlen', hel, -, -⟩
  · have := List.head_eq_of_cons_eq hc
    simp at this
    obtain ⟨-, rfl, -⟩ := this
    simp at hi
  · have e := List.head_eq_of_cons_eq hc
    simp at e
    obtain ⟨rfl, rfl, rfl⟩ := e
    obtain ⟨g, o, lst, hA, hg, hcl, hE⟩ := hR i a hi
    cases hA
    have h1 := hel i hil
    rw [List.getElem?_eq_getElem (by rw [hlen']; exact hil), hk] at h1
    obtain ⟨cs', h2, h3⟩ := Option.bind_eq_some_iff.1 h1
    have hcs := World.cells?_some h2
    have hll := R.len _ _ _ hE
    have heq : cs' = lst := by
      apply List.ext_getElem?
      intro j
      rcases Nat.lt_or_ge j R.k with hj | hj
      · have h4 := hcs.2.2 j hj
        rw [WideShapes.add_plain, WideShapes.add_plain] at h4
        have h5 := hcl j _ (List.getElem?_eq_getElem (by omega))
        rw [← h4, h5, List.getElem?_eq_getElem]
      · rw [List.getElem?_eq_none (by rw [hcs.2.1]; exact hj), List.getElem?_eq_none (by omega)]
    subst heq
    refine hQ n' (by omega) cs' _ a h3 hE fun q hq => hw q ?_
    rw [hx]
    simp only [DataW.weights, ht, List.mem_cons, List.mem_append]
    exact .inr (.inl (weights_all (List.mem_map.2 ⟨_, List.getElem_mem (by omega), rfl⟩) q hq))
theorem sized_str {M fuel : Nat} {s : ByteArray} {x : DataW H × List MemPlace} (h : DataW.trod enc Tryz.prog w base sp held fuel 9 [.string s] = some x) (hw : ∀ q ∈ x.1.weights Tryz.prog 9, q ≤ M) : s.size ≤ M := by
  obtain ⟨s', e, hx, -⟩ := DataW.trod_string Tryz.underlying9 h
  have e := List.head_eq_of_cons_eq e
  simp at e
  subst e
  have := hw s.data.toList.length (by rw [hx]; simp [DataW.weights])
  simpa using this
theorem sized_names {fuel : Nat} {A : Option Addr} {l : List ByteArray} {c M : Nat} {x : DataW H × List MemPlace} (h : DataW.trod enc Tryz.prog w base sp held fuel 27 [.slice A l.length c] = some x) (hN : NamesAt w A l) (hw : ∀ q ∈ x.1.weights Tryz.prog 27, q ≤ M) : ∀ s ∈ l, s.size ≤ M :=
  sized_rows stR M (fun s => s.size ≤ M) Tryz.underlying27 tyCellsStr (fun n _ cs y a hy hE hq => by
    obtain ⟨rfl, -⟩ := hE
    exact sized_str hy hq) h hN.row hw
theorem tyField {n : Nat} {xs : List (DataW H × List MemPlace)} {j : Nat} {T : TypeId} {y : DataW H × List MemPlace} {M : Nat} {t : TypeId} {fs : Array Field} (hu : Tryz.prog.underlying t = some (.struct fs)) (hT : (fs.toList.map (·.type))[j]? = some T) (hy : xs[j]? = some y) (hw : ∀ q ∈ (DataW.agg (xs.map (·.1))).weights Tryz.prog t, q ≤ n) : ∀ q ∈ y.1.weights Tryz.prog T, q ≤ n := fun q hq => hw q (by
  simp only [DataW.weights, hu]
  exact DataW.weights_mem_each hT (by rw [List.getElem?_map, hy]; rfl) q hq)
theorem sized_tree : ∀ (fuel : Nat) (cs : List Value) (x : DataW H × List MemPlace) (t : Ty), DataW.trod enc Tryz.prog w base sp held fuel 30 cs = some x → TyAt w cs t → (∀ q ∈ x.1.weights Tryz.prog 30, q ≤ reachBytes) → strT t := by
  intro fuel
  induction fuel using Nat.strongRecOn with
  | ind fuel ih =>
    intro cs x t h hT hw
    obtain ⟨An, cn, As, cs, rfl, -, -, -, -, -, hN, hS⟩ := hT.parts
    obtain ⟨xs, n, hfuel, hx, hlen, hxl, hf⟩ := DataW.trod_struct Tryz.underlying30 h
    rw [hx] at hw
    have q : ∀ j, j < 7 → ∃ y, xs[j]? = some y := fun j hj => ⟨_, List.getElem?_eq_getElem (by rw [hxl]; exact hj)⟩
    obtain ⟨y1, e1⟩ := q 1 (by omega); obtain ⟨y3, e3⟩ := q 3 (by omega); obtain ⟨y4, e4⟩ := q 4 (by omega); obtain ⟨y5, e5⟩ := q 5 (by omega); obtain ⟨y6, e6⟩ := q 6 (by omega)
    have g1 : DataW.trod enc Tryz.prog w base sp held n 9 (([.int .i64 t.kind, .string t.pkg, .int .i64 t.major, .string t.mod, .string t.name, .slice An t.names.length cn, .slice As t.subs.length cs].drop 1).take (Tryz.prog.cellsOf 9)) = some y1 := (hf 1 _ rfl).trans e1
    have g3 : DataW.trod enc Tryz.prog w base sp held n 9 (([.int .i64 t.kind, .string t.pkg, .int .i64 t.major, .string t.mod, .string t.name, .slice An t.names.length cn, .slice As t.subs.length cs].drop 3).take (Tryz.prog.cellsOf 9)) = some y3 := (hf 3 _ rfl).trans e3
    have g4 : DataW.trod enc Tryz.prog w base sp held n 9 (([.int .i64 t.kind, .string t.pkg, .int .i64 t.major, .string t.mod, .string t.name, .slice An t.names.length cn, .slice As t.subs.length cs].drop 4).take (Tryz.prog.cellsOf 9)) = some y4 := (hf 4 _ rfl).trans e4
    have g5 : DataW.trod enc Tryz.prog w base sp held n 27 (([.int .i64 t.kind, .string t.pkg, .int .i64 t.major, .string t.mod, .string t.name, .slice An t.names.length cn, .slice As t.subs.length cs].drop 5).take (Tryz.prog.cellsOf 27)) = some y5 := (hf 5 _ rfl).trans e5
    have g6 : DataW.trod enc Tryz.prog w base sp held n 28 (([.int .i64 t.kind, .string t.pkg, .int .i64 t.major, .string t.mod, .string t.name, .slice An t.names.length cn, .slice As t.subs.length cs].drop 6).take (Tryz.prog.cellsOf 28)) = some y6 := (hf 6 _ rfl).trans e6
    rw [tyCellsStr] at g1 g3 g4
    rw [tyCellsNames] at g5
    rw [tyCellsSubs] at g6
    have hr : reachBytes ≤ 281474976710656 := by decide
    have z1 := sized_str g1 (tyField (M := 0) Tryz.underlying30 (j := 1) rfl e1 hw)
    have z3 := sized_str g3 (tyField (M := 0) Tryz.underlying30 (j := 3) rfl e3 hw)
    have z4 := sized_str g4 (tyField (M := 0) Tryz.underlying30 (j := 4) rfl e4 hw)
    have z5 := sized_names g5 hN (tyField (M := 0) Tryz.underlying30 (j := 5) rfl e5 hw)
    have z6 := sized_rows tR reachBytes strT Tryz.underlying28 tyCells (fun n' hn' cs y a hy hE hq => ih n' (by omega) cs y a hy hE hq) g6 hS.row (tyField (M := 0) Tryz.underlying30 (j := 6) rfl e6 hw)
    cases t with
    | mk k p j d nm ns ss =>
      unfold strT
      exact ⟨⟨Nat.le_trans z1 hr, Nat.le_trans z3 hr, Nat.le_trans z4 hr, fun s hs => Nat.le_trans (z5 s hs) hr⟩, (strL_mem _).2 z6⟩
def strN (x : Nm) : Prop := x.name.size ≤ 281474976710656 ∧ strT x.typ
def strI (x : If) : Prop := x.pkg.size ≤ 281474976710656 ∧ x.mod.size ≤ 281474976710656 ∧ (∀ y ∈ x.types, strN y) ∧ ∀ y ∈ x.vals, strN y
theorem sized_nm (n : Nat) (cs : List Value) (x : DataW H × List MemPlace) (a : Nm) (h : DataW.trod enc Tryz.prog w base sp held n 48 cs = some x) (hE : nmE w cs a) (hw : ∀ q ∈ x.1.weights Tryz.prog 48, q ≤ reachBytes) : strN a := by
  obtain ⟨-, l7, rfl, hT⟩ := hE
  obtain ⟨xs, n, hfuel, hx, hlen, hxl, hf⟩ := DataW.trod_struct Tryz.underlying48 h
  rw [hx] at hw
  have q : ∀ j, j < 2 → ∃ y, xs[j]? = some y := fun j hj => ⟨_, List.getElem?_eq_getElem (by rw [hxl]; exact hj)⟩
  obtain ⟨y0, e0⟩ := q 0 (by omega); obtain ⟨y1, e1⟩ := q 1 (by omega)
  have g0 : DataW.trod enc Tryz.prog w base sp held n 9 (((Value.string a.name :: l7).drop 0).take (Tryz.prog.cellsOf 9)) = some y0 := (hf 0 _ rfl).trans e0
  have g1 : DataW.trod enc Tryz.prog w base sp held n 30 (((Value.string a.name :: l7).drop 1).take (Tryz.prog.cellsOf 30)) = some y1 := (hf 1 _ rfl).trans e1
  rw [tyCellsStr] at g0
  rw [tyCells, show ((Value.string a.name :: l7).drop 1).take 7 = l7 by simp [← hT.len]] at g1
  have hr : reachBytes ≤ 281474976710656 := by decide
  exact ⟨Nat.le_trans (sized_str g0 (tyField (M := 0) Tryz.underlying48 (j := 0) rfl e0 hw)) hr, sized_tree n _ _ _ g1 hT (tyField (M := 0) Tryz.underlying48 (j := 1) rfl e1 hw)⟩
theorem sized_if (n : Nat) (cs : List Value) (x : DataW H × List MemPlace) (a : If) (h : DataW.trod enc Tryz.prog w base sp held n 37 cs = some x) (hE : ifE w cs a) (hw : ∀ q ∈ x.1.weights Tryz.prog 37, q ≤ reachBytes) : strI a := by
  obtain ⟨At, ct, Av, cv, rfl, -, -, -, -, hTy, hVa⟩ := hE
  obtain ⟨xs, n, hfuel, hx, hlen, hxl, hf⟩ := DataW.trod_struct Tryz.underlying37 h
  rw [hx] at hw
  have q : ∀ j, j < 5 → ∃ y, xs[j]? = some y := fun j hj => ⟨_, List.getElem?_eq_getElem (by rw [hxl]; exact hj)⟩
  obtain ⟨y0, e0⟩ := q 0 (by omega); obtain ⟨y2, e2⟩ := q 2 (by omega); obtain ⟨y3, e3⟩ := q 3 (by omega); obtain ⟨y4, e4⟩ := q 4 (by omega)
  have g0 : DataW.trod enc Tryz.prog w base sp held n 9 (([Value.string a.pkg, .int .i64 a.major, .string a.mod, .slice At a.types.length ct, .slice Av a.vals.length cv].drop 0).take (Tryz.prog.cellsOf 9)) = some y0 := (hf 0 _ rfl).trans e0
  have g2 : DataW.trod enc Tryz.prog w base sp held n 9 (([Value.string a.pkg, .int .i64 a.major, .string a.mod, .slice At a.types.length ct, .slice Av a.vals.length cv].drop 2).take (Tryz.prog.cellsOf 9)) = some y2 := (hf 2 _ rfl).trans e2
  have g3 : DataW.trod enc Tryz.prog w base sp held n 35 (([Value.string a.pkg, .int .i64 a.major, .string a.mod, .slice At a.types.length ct, .slice Av a.vals.length cv].drop 3).take (Tryz.prog.cellsOf 35)) = some y3 := (hf 3 _ rfl).trans e3
  have g4 : DataW.trod enc Tryz.prog w base sp held n 35 (([Value.string a.pkg, .int .i64 a.major, .string a.mod, .slice At a.types.length ct, .slice Av a.vals.length cv].drop 4).take (Tryz.prog.cellsOf 35)) = some y4 := (hf 4 _ rfl).trans e4
  rw [tyCellsStr] at g0 g2
  rw [nmCellsL] at g3 g4
  have hr : reachBytes ≤ 281474976710656 := by decide
  exact ⟨Nat.le_trans (sized_str g0 (tyField (M := 0) Tryz.underlying37 (j := 0) rfl e0 hw)) hr, Nat.le_trans (sized_str g2 (tyField (M := 0) Tryz.underlying37 (j := 2) rfl e2 hw)) hr,
    sized_rows nmR reachBytes strN Tryz.underlying35 nmCells (fun n' _ cs y a hy hE hq => sized_nm n' cs y a hy hE hq) g3 hTy (tyField (M := 0) Tryz.underlying37 (j := 3) rfl e3 hw),
    sized_rows nmR reachBytes strN Tryz.underlying35 nmCells (fun n' _ cs y a hy hE hq => sized_nm n' cs y a hy hE hq) g4 hVa (tyField (M := 0) Tryz.underlying37 (j := 4) rfl e4 hw)⟩
theorem sized_env {A : Option Addr} {c : Nat} {env : List If} {d : DataW H} {p : List MemPlace} (h : DataW.Trod enc Tryz.prog w base sp held 26 (.slice A env.length c) d p) (hR : RowIn ifR w A env) (hw : ∀ q ∈ d.weights Tryz.prog 26, q ≤ reachBytes) : ∀ x ∈ env, strI x := by
  obtain ⟨fuel, hf⟩ := h
  have hf' : DataW.trod enc Tryz.prog w base sp held fuel 26 [.slice A env.length c] = some (d, p) := hf
  exact sized_rows ifR reachBytes strI Tryz.underlying26 ifCells (fun n' _ cs y a hy hE hq => sized_if n' cs y a hy hE hq) hf' hR hw
end
end Go.Proofs.YtkgmdbkcldojnaaGreatDoor

/-  -/
namespace Go.Proofs.YtkgmdbkcldojnaaGreatDoor
open Go Go.RowKit Go.Shelf
open Go.Sort Go.Maps
open M
theorem fit_zero : fitI zIf := ⟨by decide, by decide, by decide, by decide, fun y h => (by cases h), fun y h => (by cases h)⟩
theorem got_fit {env : List If} (h : ∀ x ∈ env, fitI x) (x : Im) : fitI (gotI env x) := by
  cases hk : findI env x.pkg x.major x.mod with
  | none => rw [gotI_no hk]; exact fit_zero
  | some k =>
    have hl := findI_lt hk
    rw [gotI_at hk (List.getElem?_eq_getElem hl)]
    exact h _ (List.getElem_mem hl)
theorem zTy_fit : many zTy ≤ 65536 ∧ fitT zTy := ⟨by decide, by unfold zTy fitT fitL; exact ⟨⟨by decide, by decide, by decide, by decide, fun s h => (by cases h)⟩, trivial⟩⟩
theorem gotT_fit {L : List Nm} (h : ∀ x ∈ L, fitN x) (s : ByteArray) : many (gotT L s) ≤ 65536 ∧ fitT (gotT L s) := by
  cases hk : ofI L s with
  | none => rw [gotT_no hk]; exact zTy_fit
  | some k =>
    have hl := ofI_lt hk
    rw [gotT_at hk (List.getElem?_eq_getElem hl)]
    exact (h _ (List.getElem_mem hl)).2
set_option maxRecDepth 100000 in
set_option maxHeartbeats 8000000 in
theorem find8C_any (A : Option Addr) (c : Nat) (env : List If) (x : Im) (w : World) (h : RowIn ifR w A env) (hl : env.length ≤ 9223372036854775807) (hf : ∀ x ∈ env, fitI x) :
    Calls Tryz.prog 10 #[.slice A env.length c, .agg #[.string x.pkg, .int .i64 x.major, .string x.mod, .string x.asn]] w fun e w' => ∃ l : List Value, e = .returned (.tuple #[.agg l.toArray, .bool (findI env x.pkg x.major x.mod).isSome]) ∧ ifE w' l (gotI env x) ∧ Below w.heap.size w w' := by
  obtain ⟨W2, hW2, B2, O0, O1, hl2⟩ := two_boxes w #[.string x.pkg, .int .i64 x.major, .string x.mod, .string x.asn] #[.string ⟨#[]⟩, .int .i64 0, .string ⟨#[]⟩, .slice none 0 0, .slice none 0 0] 41 37
  have FC := Lib.hid (find8_any A c env x w W2 h B2 hl)
  have CI := Lib.hid (iface_any (gotI env x) (got_fit hf x))
  obtain ⟨y, hy⟩ : ∃ y, y = gotI env x := ⟨_, rfl⟩
  have HY := Lib.hid hy
  rw [← hy] at CI
  have HB2 := Lib.hid B2
  have HO1 := Lib.hid O1
  have HW := Lib.hid hW2
  have x0 := Lib.cell_of_heap O0 0
  have x1 := Lib.cell_of_heap O0 1
  have x2 := Lib.cell_of_heap O0 2
  have x3 := Lib.cell_of_heap O0 3
  simp at x0 x1 x2 x3
  obtain ⟨q, hq⟩ : ∃ q, q = (findI env x.pkg x.major x.mod).isSome := ⟨_, rfl⟩
  have HQ := Lib.hid hq
  rw [← hq]
  clear hW2 B2 O0 O1 h hy hq
  go_enter Tryz.func10, Tryz.ntmps10
  go_upto_region 1 with fail
  rw [← HW.out]
  clear HW
  go_wp2_with fail
  refine FC.out.mono ?_; rintro e w3 ⟨l, rfl, hE, hb3⟩
  rw [← HQ.out]
  have hE3 := hE w3 (below_over HB2.out hb3)
  rw [← HY.out] at hE3
  obtain ⟨At, ct, Av, cv, rfl, z1, z2, z3, z4, hRt, hRv⟩ := hE3
  obtain ⟨w4, hw4⟩ : ∃ w4, w4 = w3.alloc (.cells #[.string y.pkg, .int .i64 y.major, .string y.mod, .slice At y.types.length ct, .slice Av y.vals.length cv] 37) := ⟨_, rfl⟩
  have B4 : Below w3.heap.size w3 w4 := by rw [hw4]; exact below_new (Below.refl _ _) _
  have Y4 : w4.heap[w3.heap.size]? = some (.cells #[.string y.pkg, .int .i64 y.major, .string y.mod, .slice At y.types.length ct, .slice Av y.vals.length cv] 37 (0, 0)) := by rw [hw4]; exact heap_alloc_new w3 _
  have hs3 := hb3.size
  have C2 := Lib.hid (CI.out _ w4 ⟨At, ct, Av, cv, rfl, z1, z2, z3, z4, hRt.below B4, hRv.below B4⟩)
  have HB4 : Hid (Below W2.heap.size W2 w4) := Lib.hid (below_over hb3 B4)
  have HW4 := Lib.hid hw4
  clear x0 x1 x2 x3 hb3 FC CI hRt hRv B4 hw4 hE
  go_upto_region 2 with fail
  rw [← HW4.out]
  clear HW4
  have y0 := Lib.cell_of_heap Y4 0
  have y1 := Lib.cell_of_heap Y4 1
  have y2 := Lib.cell_of_heap Y4 2
  have y3 := Lib.cell_of_heap Y4 3
  have y4 := Lib.cell_of_heap Y4 4
  simp at y0 y1 y2 y3 y4
  clear Y4
  go_wp2_with fail
  refine C2.out.mono ?_; rintro e w5 ⟨l', rfl, hE5, hb5⟩
  obtain ⟨At', ct', Av', cv', rfl, z1', z2', z3', z4', hRt', hRv'⟩ := hE5
  have hs4 := HB4.out.size
  have X5 : w5.heap[w.heap.size + 1]? = _ := (hb5.block _ (by omega)).trans ((HB4.out.block _ hl2).trans HO1.out)
  have HX5 := Lib.hid X5
  have FIN : Hid (∃ l : List Value, Ending.returned (.tuple #[.agg #[.string y.pkg, .int .i64 y.major, .string y.mod, .slice At' y.types.length ct', .slice Av' y.vals.length cv'], .bool q]) = .returned (.tuple #[.agg l.toArray, .bool q]) ∧ ifE (w5.setRow (w.heap.size + 1) #[.string y.pkg, .int .i64 y.major, .string y.mod, .slice At' y.types.length ct', .slice Av' y.vals.length cv']) l (gotI env x) ∧ Below w.heap.size w (w5.setRow (w.heap.size + 1) #[.string y.pkg, .int .i64 y.major, .string y.mod, .slice At' y.types.length ct', .slice Av' y.vals.length cv'])) := Lib.hid (by
    rw [← HY.out]
    refine ⟨_, rfl, ⟨At', ct', Av', cv', rfl, z1', z2', z3', z4', ?_, ?_⟩, setRow_below (below_over (below_over HB2.out HB4.out) hb5) (by omega) _⟩
    · exact (hRt'.move (S' := fun b => b < w4.heap.size) (by simp) fun b hb hS => ⟨hS, setRow_other _ _ _ _ (by omega)⟩).free
    · exact (hRv'.move (S' := fun b => b < w4.heap.size) (by simp) fun b hb hS => ⟨hS, setRow_other _ _ _ _ (by omega)⟩).free)
  clear y0 y1 y2 y3 y4 hRt' hRv' hb5 C2
  go_wp2_with (first | ((with_reducible refine wpList_putRow 37 (w.heap.size + 1) #[.string y.pkg, .int .i64 y.major, .string y.mod, .slice At' y.types.length ct', .slice Av' y.vals.length cv'] _ _ X5 ?_ ?_ ?_ ?_ ?_ ?_); exact ifSize; rfl; exact ifOne; (focus (first | (go_simp; done) | rfl)); (focus (first | (go_simp; done) | rfl))))
  exact ret_agg (fn := Tryz.f10) (vs := [.string y.pkg, .int .i64 y.major, .string y.mod, .slice At' y.types.length ct', .slice Av' y.vals.length cv']) (b := w.heap.size + 1) (x := .bool q) rfl rfl rfl Tryz.underlying37 (by kernel_rfl) (cell5 (setRow_heap w5 (w.heap.size + 1) _ _ _ _ HX5.out)) rfl FIN.out
set_option maxRecDepth 100000 in
set_option maxHeartbeats 8000000 in
theorem of8C_any (A : Option Addr) (c : Nat) (L : List Nm) (s : ByteArray) (w : World) (h : RowIn nmR w A L) (hl : L.length ≤ 9223372036854775807) (hf : ∀ x ∈ L, fitN x) :
    Calls Tryz.prog 12 #[.slice A L.length c, .string s] w fun e w' => ∃ l : List Value, e = .returned (.tuple #[.agg l.toArray, .bool (ofI L s).isSome]) ∧ TyAt (strike (· < w.heap.size) w') l (gotT L s) ∧ Below w.heap.size w w' := by
  obtain ⟨W1, hW1⟩ : ∃ W1, W1 = w.alloc (.cells #[.int .i64 0, .string ⟨#[]⟩, .int .i64 0, .string ⟨#[]⟩, .string ⟨#[]⟩, .slice none 0 0, .slice none 0 0] 30) := ⟨_, rfl⟩
  have B1 : Below w.heap.size w W1 := by rw [hW1]; exact below_new (Below.refl _ _) _
  have O1 : W1.heap[w.heap.size]? = some (.cells #[.int .i64 0, .string ⟨#[]⟩, .int .i64 0, .string ⟨#[]⟩, .string ⟨#[]⟩, .slice none 0 0, .slice none 0 0] 30 (0, 0)) := by rw [hW1]; exact heap_alloc_new w _
  have hl1 : w.heap.size < W1.heap.size := by rw [hW1]; simp
  have FC := Lib.hid (of8_any A c L s w W1 h B1 hl)
  have HFT := Lib.hid (gotT_fit hf s)
  obtain ⟨y, hy⟩ : ∃ y, y = gotT L s := ⟨_, rfl⟩
  have HY := Lib.hid hy
  have HB1 := Lib.hid B1
  have HO1 := Lib.hid O1
  have HW := Lib.hid hW1
  obtain ⟨q, hq⟩ : ∃ q, q = (ofI L s).isSome := ⟨_, rfl⟩
  have HQ := Lib.hid hq
  rw [← hq]
  clear hW1 B1 O1 h hy hq
  go_enter Tryz.func12, Tryz.ntmps12
  go_upto_region 1 with fail
  rw [← HW.out]
  clear HW
  go_wp2_with fail
  refine FC.out.mono ?_; rintro e w3 ⟨l, rfl, hE, hb3⟩
  rw [← HQ.out]
  have hE3 := hE w3 (below_over HB1.out hb3)
  rw [← HY.out] at hE3
  obtain ⟨Bn, cB, Bs, dB, rfl, -⟩ := hE3.parts
  obtain ⟨w4, hw4⟩ : ∃ w4, w4 = w3.alloc (.cells #[.int .i64 y.kind, .string y.pkg, .int .i64 y.major, .string y.mod, .string y.name, .slice Bn y.names.length cB, .slice Bs y.subs.length dB] 30) := ⟨_, rfl⟩
  have B4 : Below w3.heap.size w3 w4 := by rw [hw4]; exact below_new (Below.refl _ _) _
  have Y4 : w4.heap[w3.heap.size]? = some (.cells #[.int .i64 y.kind, .string y.pkg, .int .i64 y.major, .string y.mod, .string y.name, .slice Bn y.names.length cB, .slice Bs y.subs.length dB] 30 (0, 0)) := by rw [hw4]; exact heap_alloc_new w3 _
  have hs3 := hb3.size
  have C2 := Lib.hid (fresh_any y (by rw [HY.out]; exact HFT.out.1) (by rw [HY.out]; exact HFT.out.2) _ w4 (hE3.keep B4))
  have HB4 : Hid (Below W1.heap.size W1 w4) := Lib.hid (below_over hb3 B4)
  have HW4 := Lib.hid hw4
  clear hb3 FC hE3 B4 hw4 hE
  go_upto_region 2 with fail
  rw [← HW4.out]
  clear HW4
  have y0 := Lib.cell_of_heap Y4 0
  have y1 := Lib.cell_of_heap Y4 1
  have y2 := Lib.cell_of_heap Y4 2
  have y3 := Lib.cell_of_heap Y4 3
  have y4 := Lib.cell_of_heap Y4 4
  have y5 := Lib.cell_of_heap Y4 5
  have y6 := Lib.cell_of_heap Y4 6
  simp at y0 y1 y2 y3 y4 y5 y6
  clear Y4
  go_wp2_with fail
  refine C2.out.mono ?_; rintro e w5 ⟨l', rfl, hT5, hb5⟩
  obtain ⟨Dn, dn, Ds, ds, rfl, -⟩ := hT5.parts
  have hs4 := HB4.out.size
  have X5 : w5.heap[w.heap.size]? = _ := (hb5.block _ (by omega)).trans ((HB4.out.block _ hl1).trans HO1.out)
  have HX5 := Lib.hid X5
  have FIN : Hid (∃ l : List Value, Ending.returned (.tuple #[.agg #[.int .i64 y.kind, .string y.pkg, .int .i64 y.major, .string y.mod, .string y.name, .slice Dn y.names.length dn, .slice Ds y.subs.length ds], .bool q]) = .returned (.tuple #[.agg l.toArray, .bool q]) ∧ TyAt (strike (· < w.heap.size) (w5.setRow w.heap.size #[.int .i64 y.kind, .string y.pkg, .int .i64 y.major, .string y.mod, .string y.name, .slice Dn y.names.length dn, .slice Ds y.subs.length ds])) l (gotT L s) ∧ Below w.heap.size w (w5.setRow w.heap.size #[.int .i64 y.kind, .string y.pkg, .int .i64 y.major, .string y.mod, .string y.name, .slice Dn y.names.length dn, .slice Ds y.subs.length ds])) := Lib.hid (by
    rw [← HY.out]
    exact ⟨_, rfl, hT5.move (S' := fun b => b < w.heap.size) (by simp) fun b hb hS => ⟨by omega, setRow_other _ _ _ _ (by omega)⟩, setRow_below (below_over (below_over HB1.out HB4.out) hb5) (Nat.le_refl _) _⟩)
  clear y0 y1 y2 y3 y4 y5 y6 hT5 hb5 C2
  go_wp2_with (first | (((with_reducible refine wpList_putRow 30 (w.heap.size) #[.int .i64 y.kind, .string y.pkg, .int .i64 y.major, .string y.mod, .string y.name, .slice Dn y.names.length dn, .slice Ds y.subs.length ds] _ _ X5 ?_ ?_ ?_ ?_ ?_ ?_); exact tySize; rfl; exact tyOne; (focus (first | (go_simp; done) | rfl)); (focus (first | (go_simp; done) | rfl)))))
  exact ret_agg (fn := Tryz.f12) (vs := [.int .i64 y.kind, .string y.pkg, .int .i64 y.major, .string y.mod, .string y.name, .slice Dn y.names.length dn, .slice Ds y.subs.length ds]) (b := w.heap.size) (x := .bool q) rfl rfl rfl Tryz.underlying30 (by kernel_rfl) (cell7 (setRow_heap w5 w.heap.size _ _ _ _ HX5.out)) rfl FIN.out
end Go.Proofs.YtkgmdbkcldojnaaGreatDoor
