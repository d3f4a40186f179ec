/-
  Several texts in one: The walk of ScopeTurns: whatever module, whatever place. · The bounds of an int that is handed in. · The library's variable errors.errorType: what a row's list gives of it; a world for the witnesses in which it lies as the program's text lays it. · The last step of a law's row, over any program: a call that answers true and leaves all old memory as it was meets 'every argument reads as it read'. Nothing of this program is in it. · Plain mathematics for layer 7: what the reference's reading comes to, and that it is the code's. · append of a row of one's own onto another, however many. Nothing of any program. · The reference of layer 7: all Locals of a type.
-/
import Derived.Test.YtapjhmfbmkckaaaGreatDoorJ15
import Derived.Test.YtapjhmfbmkckaaaGreatDoorJ02
import Derived.Test.YtapjhmfbmkckaaaGreatDoorRows
import Derived.Test.YtapjhmfbmkckaaaGreatDoorJ09
import Derived.LaidLaws
import Derived.LaidHandle
import Derived.Stop.LaidErr
import Derived.Stop.Joined
import Derived.Deep.DeepHandedRow
import Derived.ProofKit
import Derived.OpenShut
import Derived.Lib.SmallJoins
import Derived.Below
import Derived.Carry
import Derived.ChangeSame
import Derived.WideKeyArgs
import Derived.Test.YtapjhmfbmkckaaaGreatDoorJ07
/- The walk of ScopeTurns: whatever module, whatever place. -/
namespace Go.Proofs.YtapjhmfbmkckaaaGreatDoor
open Go.RowKit Go.Shelf
open Go.Sort Go.Maps
open M

theorem pairs_turn {α : Type} {P : List Value → α → Prop} {C : List (List Value)} {xs : List α} (hl : C.length = xs.length) (h : ∀ (i : Nat) (l : List Value) (x : α), C[i]? = some l → xs[i]? = some x → P l x) (k : Nat) :
    ∀ (i : Nat) (l : List Value) (x : α), (C.drop k ++ C.take k)[i]? = some l → (xs.drop k ++ xs.take k)[i]? = some x → P l x := by
  intro i l x h1 h2
  rw [List.getElem?_append] at h1 h2
  rw [List.length_drop] at h1 h2
  rw [hl] at h1
  split at h1
  · rename_i hi
    rw [if_pos hi] at h2
    rw [List.getElem?_drop] at h1 h2
    exact h _ _ _ h1 h2
  · rename_i hi
    rw [if_neg hi] at h2
    rw [List.getElem?_take] at h1 h2
    split at h1
    · rename_i hj
      rw [if_pos hj] at h2
      exact h _ _ _ h1 h2
    · cases h1
theorem ck_cases {w w' : World} {m : Mo} {e : Ending} (h : CkAny w m e w') : (e = .returned .nilIface ∧ mayM m = true ∧ Ok7 m) ∨ (∃ T x, e = .returned (.iface T x) ∧ ¬ (mayM m = true ∧ Ok7 m)) := by
  rcases h with ⟨hm, rfl⟩ | ⟨hm, h⟩
  · exact .inr ⟨_, _, rfl, fun h => by rw [hm] at h; cases h.1⟩
  · unfold CkOut at h
    cases hc : check7 m with
    | none => rw [hc] at h; exact .inl ⟨h, hm, check7_none.1 hc⟩
    | some q =>
      rw [hc] at h
      obtain ⟨g, rfl, -⟩ := h
      exact .inr ⟨_, _, rfl, fun h => by have := check7_none.2 h.2; rw [hc] at this; cases this⟩

set_option maxRecDepth 100000 in
set_option maxHeartbeats 16000000 in
theorem scopeTurns_any (m : Mo) (l : List Value) (a : Int) (w : World) (hv : MoAt w l m) (hcap : CapsAt l m) (ha1 : -9223372036854775808 ≤ a) (ha2 : a ≤ 9223372036854775807) (hg : ErrT w) :
    Calls Tryz.prog 4 #[.agg l.toArray, .int .i64 a] w fun e w' => e = .returned (.bool true) ∧ Below w.heap.size w w' := by
  have HV := Lib.hid hv
  have HG := Lib.hid hg
  have HCP := Lib.hid hcap
  obtain ⟨Ai, ci, Ad, cd, rfl, -, -, -, -, -⟩ := hv
  clear hg hcap
  obtain ⟨nd, hnd⟩ : ∃ nd, nd = m.decs.length := ⟨_, rfl⟩
  have HND := Lib.hid hnd
  rw [← hnd]
  obtain ⟨wb, hwb⟩ : ∃ wb, wb = w.alloc (.cells #[.string m.name, .slice Ai m.imps.length ci, .slice Ad nd cd] 25) := ⟨_, rfl⟩
  have HBB : Hid (Below w.heap.size w wb) := Lib.hid (by rw [hwb]; exact below_new (Below.refl _ _) _)
  have HX : Hid (∀ w', Below wb.heap.size wb w' → ∀ i v, (#[.string m.name, .slice Ai m.imps.length ci, .slice Ad nd cd] : Array Value)[i]? = some v → w'.cell? ⟨w.heap.size, i, none⟩ = some v) := Lib.hid (fun w' hb i v hv => by
    have h1 : wb.heap[w.heap.size]? = some (.cells #[.string m.name, .slice Ai m.imps.length ci, .slice Ad nd cd] 25 (0, 0)) := by rw [hwb]; exact heap_alloc_new w _
    rw [(bcell hb).1 _ _ (Array.getElem?_eq_some_iff.1 h1).1, Lib.cell_of_heap h1]; exact hv)
  have HV0 : Hid (∀ w', Below wb.heap.size wb w' → MoAt w' [.string m.name, .slice Ai m.imps.length ci, .slice Ad nd cd] m) := Lib.hid (fun w' hb => by rw [hnd]; exact HV.out.below (below_over HBB.out hb))
  have HCP' : Hid (CapsAt [.string m.name, .slice Ai m.imps.length ci, .slice Ad nd cd] m) := Lib.hid (by rw [hnd]; exact HCP.out)
  have HG0 : Hid (∀ w', Below wb.heap.size wb w' → ErrT w') := Lib.hid (fun w' hb => HG.out.on (below_over HBB.out hb))
  have HWB := Lib.hid hwb
  clear hwb HV HG HCP hnd
  go_enter Tryz.func4, Tryz.ntmps4
  go_wp2_with fail
  rw [← HWB.out]
  refine (up7_any _ (HG0.out _ (Below.refl _ _))).mono ?_; rintro e w1 ⟨rfl, hb1⟩
  have HB1 := Lib.hid hb1
  clear hb1
  have x0 := HX.out w1 HB1.out 0 _ rfl
  have x1 := HX.out w1 HB1.out 1 _ rfl
  have x2 := HX.out w1 HB1.out 2 _ rfl
  go_wp2_with fail
  refine (rfew6_any m _ _ (HV0.out _ HB1.out)).mono ?_; rintro e w2 ⟨rfl, hb2⟩
  have HB2 := Lib.hid (below_over HB1.out hb2)
  clear x0 x1 x2 hb2
  rcases hid_or (fewM m) with hf | hf
  · rw [hf.out]
    go_wp2_with fail
    go_ret
    exact ⟨rfl, below_over HBB.out HB2.out⟩
  have HD := Lib.hid (few7 hf.out).2.2
  have hI100 := (few7 hf.out).1
  have hD100 := (few7 hf.out).2.1
  have hnd100 : nd ≤ 100 := by rw [HND.out]; exact hD100
  rw [hf.out]
  clear hf
  have x2 := HX.out w2 HB2.out 2 _ rfl
  by_cases hne : nd = 0
  · have he0 : ((nd : Int) == 0) = true := by rw [hne]; rfl
    clear hne
    go_wp2_with fail
    go_ret
    exact ⟨rfl, below_over HBB.out HB2.out⟩
  have he0 : ((nd : Int) == 0) = false := by simp; exact hne
  go_upto_region 5 with fail
  clear x2 he0
  by_cases ha : a < 0
  · obtain ⟨z, hz⟩ : ∃ z : Nat, -(a + 1) = (z : Int) := ⟨(-(a + 1)).toNat, by omega⟩
    have hw1 : IntKind.i64.wrap (a + 1) = a + 1 := IntWalk.i64_in _ (by omega)
    have hw2 : IntKind.i64.wrap (-(a + 1)) = (z : Int) := by rw [hz]; exact IntWalk.i64_in _ (by omega)
    obtain ⟨k, hk⟩ : ∃ k, z % nd = k := ⟨_, rfl⟩
    have hkn : k < nd := by rw [← hk]; exact Nat.mod_lt _ (by omega)
    go_upto_region 7 with fail
    clear hw1 hw2 ha
    have hrem : (z : Int).tmod (nd : Int) = (k : Int) := by rw [← Int.ofNat_tmod, hk]
    have hn0 : ¬ nd = 0 := hne
    have hz0 : ¬ (z : Int) < 0 := by omega
    have x0 := HX.out w2 HB2.out 0 _ rfl
    have x1 := HX.out w2 HB2.out 1 _ rfl
    have x2 := HX.out w2 HB2.out 2 _ rfl
    go_upto_region 8 with fail
    go_wp2_with fail
    refine (copy7_any m _ _ (HV0.out _ HB2.out) (by omega) (by omega) HD.out).mono ?_; rintro e w3 ⟨lo, rfl, hO, hOc, hb3⟩
    have HB3 := Lib.hid (below_over HB2.out hb3)
    clear x0 x1 x2 hb3 hrem hn0 hz0
    obtain ⟨Oi, oi, Od, od, rfl, zO1, zO2, zO3, hOI, hOD⟩ := hO
    rw [← HND.out]
    obtain ⟨g, o, rfl⟩ : ∃ g o, Od = some ⟨g, o, none⟩ := by
      obtain ⟨d, hd⟩ : ∃ d, m.decs[0]? = some d := ⟨_, List.getElem?_eq_getElem (by rw [← HND.out]; omega)⟩
      obtain ⟨g, o, l, e, -⟩ := hOD 0 d hd
      exact ⟨g, o, e⟩
    obtain ⟨C, hCl, hC9, hCE, hCc⟩ := hOD.lists (by decide)
    obtain ⟨g0, hg0⟩ : ∃ g0, g0 = w3.heap.size := ⟨_, rfl⟩
    have hgl : g < g0 := by
      obtain ⟨d, hd⟩ : ∃ d, m.decs[0]? = some d := ⟨_, List.getElem?_eq_getElem (by rw [← HND.out]; omega)⟩
      obtain ⟨g', o', l, e, hg, -⟩ := hOD 0 d hd
      cases e
      rw [hg0]; exact hg
    have hcaps := hOc Oi oi (some ⟨g, o, none⟩) od rfl
    have hod : nd ≤ od := by rw [HND.out]; exact hcaps.2
    have HCI : Hid (m.imps.length ≤ oi) := Lib.hid hcaps.1
    obtain ⟨w4, hw4⟩ : ∃ w4, w4 = w3.alloc (.cells #[.string m.name, .slice Oi m.imps.length oi, .slice (some ⟨g, o, none⟩) nd od] 25) := ⟨_, rfl⟩
    have hb4 : Below w3.heap.size w3 w4 := by rw [hw4]; exact below_new (Below.refl _ _) _
    have X4 : w4.heap[g0]? = some (.cells #[.string m.name, .slice Oi m.imps.length oi, .slice (some ⟨g, o, none⟩) nd od] 25 (0, 0)) := by rw [hw4, hg0]; exact heap_alloc_new w3 _
    have s4 : w4.heap.size = g0 + 1 := by rw [hw4, hg0]; simp
    have HX4 := Lib.hid X4
    have HB4 : Hid (Below w3.heap.size w3 w4) := Lib.hid hb4
    have HW4 := Lib.hid hw4
    have HOI := Lib.hid hOI
    have HG0' := Lib.hid hg0
    have HCE := Lib.hid hCE
    have HCc := Lib.hid hCc
    have HC9 := Lib.hid hC9
    have HCl := Lib.hid hCl
    have HS4 := Lib.hid s4
    have hk1 : (k : Int) ≤ nd := by omega
    have hk2 : (0 : Int) ≤ k := by omega
    have hk3 : (nd : Int) ≤ od := by omega
    have hk4 : k ≤ nd := by omega
    have hk5 : k ≤ od := by omega
    have hk6 : ¬ od = k := by omega
    clear hw4 hb4 X4 s4 hOI hOD hOc hcaps hg0 hCE hCc hC9 hCl
    go_upto_region 9 with fail
    rw [← HW4.out]
    have hl4 : g0 < w4.heap.size := by rw [HS4.out]; exact Nat.lt_succ_self _
    rw [← HG0'.out]
    have KEEP : Hid (∀ wx : World, Below w4.heap.size w4 wx → wx.cell? ⟨g0, 2, none⟩ = some (.slice (some ⟨g, o, none⟩) nd od)) := Lib.hid (fun wx hb => (hb.cell (p := ⟨g0, 2, none⟩) hl4).trans (Lib.cell_of_heap HX4.out 2))
    have hH0 := KEEP.out w4.drew (Below.drew (Below.refl _ _))
    refine AnyX.start (fun wx => wx.cell? ⟨g0, 2, none⟩ = some (.slice (some ⟨g, o, none⟩) nd od)) (fun k => decide (10 ≤ k)) (by kernel_rfl) ?_
    refine AnyX.move (i := 1) (v := ?_) rfl (by kernel_rfl) (by kernel_rfl) (by kernel_rfl) (by kernel_rfl) (fun _ _ _ h => h) (Or.inl ⟨by rfl, ?_⟩) ?_
    rotate_left
    · (intro wS _; go_simp; try with_reducible rfl)
    simp only [List.getElem_toArray, List.getElem_cons_succ, List.getElem_cons_zero]
    simp only [Act.put, List.setIfInBounds_toArray]
    simp only [List.set_cons_zero, List.set_cons_succ]
    refine AnyX.take (i := 2) (v := ?_) rfl (by kernel_rfl) (by kernel_rfl) (by kernel_rfl) (by kernel_rfl) (by kernel_rfl) (fun _ _ _ h => h) hH0 (Or.inl ⟨by rfl, ?_⟩) ?_
    rotate_left
    · (intro wS hS; (try obtain c0 := hS); go_simp; try with_reducible rfl)
    simp only [List.getElem_toArray, List.getElem_cons_succ, List.getElem_cons_zero]
    simp only [Act.put, List.setIfInBounds_toArray]
    simp only [List.set_cons_zero, List.set_cons_succ]
    refine AnyX.move (i := 3) (v := ?_) rfl (by kernel_rfl) (by kernel_rfl) (by kernel_rfl) (by kernel_rfl) (fun _ _ _ h => h) (Or.inl ⟨by rfl, ?_⟩) ?_
    rotate_left
    · (intro wS _; go_simp; try with_reducible rfl)
    simp only [List.getElem_toArray, List.getElem_cons_succ, List.getElem_cons_zero]
    simp only [Act.put, List.setIfInBounds_toArray]
    simp only [List.set_cons_zero, List.set_cons_succ]
    refine AnyX.move (i := 4) (v := ?_) rfl (by kernel_rfl) (by kernel_rfl) (by kernel_rfl) (by kernel_rfl) (fun _ _ _ h => h) (Or.inl ⟨by rfl, ?_⟩) ?_
    rotate_left
    · (intro wS _; go_simp; try with_reducible rfl)
    simp only [List.getElem_toArray, List.getElem_cons_succ, List.getElem_cons_zero]
    simp only [Act.put, List.setIfInBounds_toArray]
    simp only [List.set_cons_zero, List.set_cons_succ]
    refine AnyX.move (i := 6) (v := ?_) rfl (by kernel_rfl) (by kernel_rfl) (by kernel_rfl) (by kernel_rfl) (fun _ _ _ h => h) (Or.inl ⟨by rfl, ?_⟩) ?_
    rotate_left
    · (intro wS _; go_simp; try with_reducible rfl)
    simp only [List.getElem_toArray, List.getElem_cons_succ, List.getElem_cons_zero]
    simp only [Act.put, List.setIfInBounds_toArray]
    simp only [List.set_cons_zero, List.set_cons_succ]
    refine AnyX.take (i := 7) (v := ?_) rfl (by kernel_rfl) (by kernel_rfl) (by kernel_rfl) (by kernel_rfl) (by kernel_rfl) (fun _ _ _ h => h) hH0 (Or.inl ⟨by rfl, ?_⟩) ?_
    rotate_left
    · (intro wS hS; (try obtain c0 := hS); go_simp; try with_reducible rfl)
    simp only [List.getElem_toArray, List.getElem_cons_succ, List.getElem_cons_zero]
    simp only [Act.put, List.setIfInBounds_toArray]
    simp only [List.set_cons_zero, List.set_cons_succ]
    refine AnyX.move (i := 8) (v := ?_) rfl (by kernel_rfl) (by kernel_rfl) (by kernel_rfl) (by kernel_rfl) (fun _ _ _ h => h) (Or.inl ⟨by rfl, ?_⟩) ?_
    rotate_left
    · (intro wS _; go_simp; try with_reducible rfl)
    simp only [List.getElem_toArray, List.getElem_cons_succ, List.getElem_cons_zero]
    simp only [Act.put, List.setIfInBounds_toArray]
    simp only [List.set_cons_zero, List.set_cons_succ]
    refine AnyX.move (i := 9) (v := ?_) rfl (by kernel_rfl) (by kernel_rfl) (by kernel_rfl) (by kernel_rfl) (fun _ _ _ h => h) (Or.inl ⟨by rfl, ?_⟩) ?_
    rotate_left
    · (intro wS _; go_simp; try with_reducible rfl)
    simp only [List.getElem_toArray, List.getElem_cons_succ, List.getElem_cons_zero]
    simp only [Act.put, List.setIfInBounds_toArray]
    simp only [List.set_cons_zero, List.set_cons_succ]
    clear hH0
    obtain ⟨inf, hi1, hy0, hy1, hy2⟩ := info_parts dec_info
    have own0 : (w4.drew.alloc (.cells #[] 45)).ownsRow w4.heap.size 45 9 (.slice (some ⟨w4.heap.size, 0, none⟩) 0 0) 0 [] := World.ownsRow_lit (base := w4.heap.size) (e := 45) (size := 9) w4.drew #[] 0 (Nat.le_refl _) (by decide) rfl
    have hlCd : (C.drop k).flatten.length = (nd - k) * 9 := by rw [flatC_len _ (fun l hl => HC9.out l (List.mem_of_mem_drop hl)), List.length_drop, HCl.out, ← HND.out]; rfl
    have hlCt : (C.take k).flatten.length = k * 9 := by rw [flatC_len _ (fun l hl => HC9.out l (List.mem_of_mem_take hl)), List.length_take, HCl.out, ← HND.out, Nat.min_eq_left hk4]; rfl
    have hcell : ∀ wx : World, Below w4.heap.size w4 wx → ∀ j u, C.flatten[j]? = some u → wx.cell? ⟨g, o + j, none⟩ = some u := fun wx hb j u hu => by
      have h3 := HCc.out j u hu
      have hb' : Below w3.heap.size w3 wx := below_over HB4.out hb
      exact (hb'.cell (p := ⟨g, o + j, none⟩) (by rw [← HG0'.out]; exact hgl)).trans h3
    have hone : ∀ u ∈ C.flatten, u.oneCell' = true := fun u hu => by
      obtain ⟨l, hl, hu⟩ := List.mem_flatten.1 hu
      obtain ⟨i, hi⟩ := List.mem_iff_getElem?.1 hl
      have hil := (List.getElem?_eq_some_iff.1 hi).1
      rw [HCl.out] at hil
      exact de_one (HCE.out i l _ hi (List.getElem?_eq_getElem hil)) u hu
    refine AnyX.go 0 (by kernel_rfl) rfl rfl (fun K hK => ?_)
    simp only [List.getElem_toArray, List.getElem_cons_succ, List.getElem_cons_zero]
    go_simp
    refine hK.out _ _ (fun hoff _ => KEEP.out _ (below_new (Below.drew (Below.refl _ _)) _)) ?_
    clear hK
    try simp only [Act.put, List.setIfInBounds_toArray]
    try simp only [List.set_cons_zero, List.set_cons_succ]
    refine AnyX.go 5 (by kernel_rfl) rfl rfl (fun K hK => ?_)
    simp only [List.getElem_toArray, List.getElem_cons_succ, List.getElem_cons_zero]
    refine wp_append_own _ (.tmp 35) (.tmp 39) 23 rfl w4.heap.size 45 inf _ 9 136 Tryz.underlying23 hi1 hy0 hy1 hy2 (by rfl) (Nat.zero_lt_succ 8) (.slice (some ⟨w4.heap.size, 0, none⟩) 0 0) 0 [] rfl own0 _ (nd - k) _ (C.drop k).flatten rfl hlCd (fun j u hu => ?_) (fun u hu => ?_) ?_ ?_ ?_ ?_
    · rw [flat_drop (k := 9) HC9.out k (by rw [HCl.out, ← HND.out]; exact hk4)] at hu
      have := hcell _ (below_new (Below.drew (Below.refl _ _)) (.cells #[] 45)) _ _ hu
      rw [← Nat.add_assoc] at this
      rw [WideShapes.add_plain]
      exact this
    · obtain ⟨l, hl, hu⟩ := List.mem_flatten.1 hu
      exact hone u (List.mem_flatten.2 ⟨l, List.mem_of_mem_drop hl, hu⟩)
    · unfold maxLen; omega
    · omega
    · simp
    intro v5 w5 hown5 hgrow5 hat5
    rw [Nat.zero_add, List.nil_append] at hown5
    have hb5 : Below w4.heap.size w4 w5 := (below_new (Below.drew (Below.refl _ _)) (.cells #[] 45)).trans ⟨hgrow5.os, hgrow5.tape, hgrow5.output, hgrow5.size, fun b hb => hgrow5.block b (by simp; omega) (by simp [Value.ownBlock]; omega)⟩
    have HB5 := Lib.hid hb5
    have hlow5 : ∀ b, v5.ownBlock = some b → w4.heap.size ≤ b := fun b e => (hown5.lt b e).1
    clear hgrow5 hat5 own0 hb5
    refine hK.out _ _ (fun hoff _ => KEEP.out _ HB5.out) ?_
    clear hK
    try simp only [Act.put, List.setIfInBounds_toArray]
    try simp only [List.set_cons_zero, List.set_cons_succ]
    refine AnyX.go 10 (by kernel_rfl) rfl rfl (fun K hK => ?_)
    simp only [List.getElem_toArray, List.getElem_cons_succ, List.getElem_cons_zero]
    refine wp_append_own _ (.tmp 40) (.tmp 44) 23 rfl w4.heap.size 45 inf _ 9 136 Tryz.underlying23 hi1 hy0 hy1 hy2 (by rfl) (Nat.zero_lt_succ 8) v5 (nd - k) _ rfl hown5 _ k _ (C.take k).flatten rfl hlCt (fun j u hu => ?_) (fun u hu => ?_) ?_ ?_ ?_ ?_
    · have := hcell _ HB5.out _ _ (flat_take k j u hu)
      rw [WideShapes.add_plain]
      exact this
    · obtain ⟨l, hl, hu⟩ := List.mem_flatten.1 hu
      exact hone u (List.mem_flatten.2 ⟨l, List.mem_of_mem_take hl, hu⟩)
    · unfold maxLen; omega
    · omega
    · exact HB5.out.size
    intro v6 w6 hown6 hgrow6 hat6
    rw [show nd - k + k = nd by omega, ← List.flatten_append] at hown6
    have HB6 : Hid (Below w4.heap.size w4 w6) := Lib.hid (HB5.out.trans ⟨hgrow6.os, hgrow6.tape, hgrow6.output, hgrow6.size, fun b hb => hgrow6.block b (by have := HB5.out.size; omega) (fun e => by have := hlow5 b e.symm; omega)⟩)
    have HO6 := Lib.hid hown6
    clear hgrow6 hat6 hown5 hown6 hlow5 hone hcell hlCd hlCt hi1 hy0 hy1 hy2
    obtain ⟨A6, c6, rfl⟩ := own_slice HO6.out
    refine hK.out _ _ (fun hoff _ => absurd hoff (by decide)) ?_
    clear hK
    try simp only [Act.put, List.setIfInBounds_toArray]
    try simp only [List.set_cons_zero, List.set_cons_succ]
    have X6 := (HB6.out.block _ hl4).trans HX4.out
    have z6 := Lib.cell_of_heap X6 2
    have y6 := Lib.frozen_of_heap X6 2
    simp at z6
    refine AnyX.move (i := 11) (v := ?_) rfl (by kernel_rfl) (by kernel_rfl) (by kernel_rfl) (by kernel_rfl) (fun _ _ _ h => h) (Or.inl ⟨by rfl, ?_⟩) ?_
    rotate_left
    · (intro wS _; go_simp; try with_reducible rfl)
    simp only [List.getElem_toArray, List.getElem_cons_succ, List.getElem_cons_zero]
    simp only [Act.put, List.setIfInBounds_toArray]
    simp only [List.set_cons_zero, List.set_cons_succ]
    refine AnyX.go 12 (by kernel_rfl) rfl rfl (fun K hK => ?_)
    simp only [List.getElem_toArray, List.getElem_cons_succ, List.getElem_cons_zero]
    go_simp
    obtain ⟨w7, hw7⟩ : ∃ w7, w7 = w6.setCell ⟨g0, 2, none⟩ (.slice A6 nd c6) := ⟨_, rfl⟩
    have ot : ∀ b, b ≠ g0 → w7.heap[b]? = w6.heap[b]? := fun b hb => by rw [hw7]; exact Below.heap_setCell _ _ _ _ (by show b ≠ g0; exact hb)
    have HB7 : Hid (Below w3.heap.size w3 w7) := Lib.hid (by rw [hw7]; exact (below_over HB4.out HB6.out).setCell (by show w3.heap.size ≤ g0; rw [HG0'.out]; exact Nat.le_refl _) _)
    have HX7 : Hid (w7.heap[g0]? = some (.cells #[.string m.name, .slice Oi m.imps.length oi, .slice A6 nd c6] 25 (0, 0))) := Lib.hid (by
      have := Joins.block_setCell (i := 2) X6 (.slice A6 nd c6)
      rw [hw7]; simpa using this)
    have HNM : Hid (MoAt w7 [.string m.name, .slice Oi m.imps.length oi, .slice A6 nd c6] (turned m k)) := Lib.hid (by
      have hlt : (turned m k).decs.length = nd := by rw [turned_len m k (by rw [← HND.out]; exact hk4), ← HND.out]
      have own7 : w7.ownsRow w4.heap.size 45 9 (.slice A6 nd c6) nd (C.drop k ++ C.take k).flatten := own_from HO6.out (fun b hb _ => ot b (by have := HS4.out; omega))
      refine ⟨Oi, oi, A6, c6, by rw [hlt]; rfl, zO1, zO2, by rw [hlt]; omega, HOI.out.below HB7.out, ?_⟩
      have := RowIn.of_own (R := deR) (xs := (turned m k).decs) (c := c6) (A := A6) (C := C.drop k ++ C.take k) (by rw [hlt]; exact own7) (by rw [hlt, List.length_append, List.length_drop, List.length_take, HCl.out, ← HND.out]; omega)
        (fun l hl => by rcases List.mem_append.1 hl with h | h; exact HC9.out l (List.mem_of_mem_drop h); exact HC9.out l (List.mem_of_mem_take h)) (fun i l x hl hx => deR.keep _ _ _ _ (pairs_turn HCl.out HCE.out k i l x hl hx) HB7.out)
      exact this)
    have HNC : Hid (CapsAt [.string m.name, .slice Oi m.imps.length oi, .slice A6 nd c6] (turned m k)) := Lib.hid (by
      have hlt : (turned m k).decs.length = nd := by rw [turned_len m k (by rw [← HND.out]; exact hk4), ← HND.out]
      exact CapsAt.of (m := turned m k) HCI.out (by rw [hlt]; exact own_cap HO6.out) hlt.symm)
    rw [← hw7]
    have HB37 : Hid (Below wb.heap.size wb w7) := Lib.hid (below_over HB3.out HB7.out)
    clear hw7 ot X6 z6 y6 HO6 HB6 HB5 HX4 KEEP
    refine hK.out _ _ (fun hoff _ => absurd hoff (by decide)) ?_
    clear hK
    try simp only [Act.put, List.setIfInBounds_toArray]
    try simp only [List.set_cons_zero, List.set_cons_succ]
    refine AnyX.done (by kernel_rfl) ?_ _
    have HTD : Hid (∀ d ∈ (turned m k).decs, many d.typ ≤ 9000) := Lib.hid (fun d hd => by
      refine (HD.out d ?_).1
      rcases List.mem_append.1 hd with h | h
      · exact List.mem_of_mem_drop h
      · exact List.mem_of_mem_take h)
    have hl7 : g0 < w7.heap.size := (Array.getElem?_eq_some_iff.1 HX7.out).1
    clear HB7 HB4 HW4 HCE HCc HC9 HCl HS4 HOI HCI
    have x0 := HX.out w7 HB37.out 0 _ rfl
    have x1 := HX.out w7 HB37.out 1 _ rfl
    have x2 := HX.out w7 HB37.out 2 _ rfl
    go_wp2_with fail
    refine (check7_any m _ w7 (HV0.out _ HB37.out) (fun d hd => (HD.out d hd).1) HCP'.out).mono ?_; rintro e w8 ⟨hck, hb8⟩
    have HB8 := Lib.hid (below_over HB37.out hb8)
    have HX8 := Lib.hid ((hb8.block _ hl7).trans HX7.out)
    have HNM8 := Lib.hid (HNM.out.below hb8)
    clear x0 x1 x2 hb8 HX7 HNM
    have y0 := Lib.cell_of_heap HX8.out 0
    have y1 := Lib.cell_of_heap HX8.out 1
    have y2 := Lib.cell_of_heap HX8.out 2
    simp at y0 y1 y2
    have HCK := Lib.hid (ck_cases hck)
    clear hck
    have TOK := Lib.hid (turned_ok m k (by rw [← HND.out]; exact hkn))
    have TMA := Lib.hid (turned_may m k (by rw [← HND.out]; exact hk4))
    rcases HCK.out with ⟨rfl, hm, ok⟩ | ⟨T, x, rfl, hno⟩
    · have HMO := Lib.hid (And.intro hm ok)
      clear hm ok HCK
      go_wp2_with fail
      refine (check7_any (turned m k) _ w8 HNM8.out HTD.out HNC.out).mono ?_; rintro e w9 ⟨hck, hb9⟩
      rcases ck_cases hck with ⟨rfl, hm, ok⟩ | ⟨T, x, rfl, hno⟩
      rotate_left
      · exact absurd ⟨by rw [TMA.out]; exact HMO.out.1, TOK.out.2 HMO.out.2⟩ hno
      have HB9 := Lib.hid (below_over HB8.out hb9)
      clear hck hb9 hm ok y0 y1 y2
      go_wp2_with fail
      go_quiet (fail)
      go_wp2_with fail
      go_ret
      exact ⟨rfl, below_drewN (below_over HBB.out HB9.out) _⟩
    · have HNO := Lib.hid hno
      clear hno HCK
      go_wp2_with fail
      refine (check7_any (turned m k) _ w8 HNM8.out HTD.out HNC.out).mono ?_; rintro e w9 ⟨hck, hb9⟩
      rcases ck_cases hck with ⟨rfl, hm, ok⟩ | ⟨T2, x2, rfl, hno⟩
      · exact absurd ⟨by rw [← TMA.out]; exact hm, TOK.out.1 ok⟩ HNO.out
      have HB9 := Lib.hid (below_over HB8.out hb9)
      clear hck hb9 hno y0 y1 y2
      go_wp2_with fail
      go_quiet (fail)
      go_wp2_with fail
      go_ret
      exact ⟨rfl, below_drewN (below_over HBB.out HB9.out) _⟩
  · obtain ⟨z, hz⟩ : ∃ z : Nat, a = (z : Int) := ⟨a.toNat, by omega⟩
    subst hz
    obtain ⟨k, hk⟩ : ∃ k, z % nd = k := ⟨_, rfl⟩
    have hkn : k < nd := by rw [← hk]; exact Nat.mod_lt _ (by omega)
    go_upto_region 7 with fail
    clear ha
    have hrem : (z : Int).tmod (nd : Int) = (k : Int) := by rw [← Int.ofNat_tmod, hk]
    have hn0 : ¬ nd = 0 := hne
    have hz0 : ¬ (z : Int) < 0 := by omega
    have x0 := HX.out w2 HB2.out 0 _ rfl
    have x1 := HX.out w2 HB2.out 1 _ rfl
    have x2 := HX.out w2 HB2.out 2 _ rfl
    go_upto_region 8 with fail
    go_wp2_with fail
    refine (copy7_any m _ _ (HV0.out _ HB2.out) (by omega) (by omega) HD.out).mono ?_; rintro e w3 ⟨lo, rfl, hO, hOc, hb3⟩
    have HB3 := Lib.hid (below_over HB2.out hb3)
    clear x0 x1 x2 hb3 hrem hn0 hz0
    obtain ⟨Oi, oi, Od, od, rfl, zO1, zO2, zO3, hOI, hOD⟩ := hO
    rw [← HND.out]
    obtain ⟨g, o, rfl⟩ : ∃ g o, Od = some ⟨g, o, none⟩ := by
      obtain ⟨d, hd⟩ : ∃ d, m.decs[0]? = some d := ⟨_, List.getElem?_eq_getElem (by rw [← HND.out]; omega)⟩
      obtain ⟨g, o, l, e, -⟩ := hOD 0 d hd
      exact ⟨g, o, e⟩
    obtain ⟨C, hCl, hC9, hCE, hCc⟩ := hOD.lists (by decide)
    obtain ⟨g0, hg0⟩ : ∃ g0, g0 = w3.heap.size := ⟨_, rfl⟩
    have hgl : g < g0 := by
      obtain ⟨d, hd⟩ : ∃ d, m.decs[0]? = some d := ⟨_, List.getElem?_eq_getElem (by rw [← HND.out]; omega)⟩
      obtain ⟨g', o', l, e, hg, -⟩ := hOD 0 d hd
      cases e
      rw [hg0]; exact hg
    have hcaps := hOc Oi oi (some ⟨g, o, none⟩) od rfl
    have hod : nd ≤ od := by rw [HND.out]; exact hcaps.2
    have HCI : Hid (m.imps.length ≤ oi) := Lib.hid hcaps.1
    obtain ⟨w4, hw4⟩ : ∃ w4, w4 = w3.alloc (.cells #[.string m.name, .slice Oi m.imps.length oi, .slice (some ⟨g, o, none⟩) nd od] 25) := ⟨_, rfl⟩
    have hb4 : Below w3.heap.size w3 w4 := by rw [hw4]; exact below_new (Below.refl _ _) _
    have X4 : w4.heap[g0]? = some (.cells #[.string m.name, .slice Oi m.imps.length oi, .slice (some ⟨g, o, none⟩) nd od] 25 (0, 0)) := by rw [hw4, hg0]; exact heap_alloc_new w3 _
    have s4 : w4.heap.size = g0 + 1 := by rw [hw4, hg0]; simp
    have HX4 := Lib.hid X4
    have HB4 : Hid (Below w3.heap.size w3 w4) := Lib.hid hb4
    have HW4 := Lib.hid hw4
    have HOI := Lib.hid hOI
    have HG0' := Lib.hid hg0
    have HCE := Lib.hid hCE
    have HCc := Lib.hid hCc
    have HC9 := Lib.hid hC9
    have HCl := Lib.hid hCl
    have HS4 := Lib.hid s4
    have hk1 : (k : Int) ≤ nd := by omega
    have hk2 : (0 : Int) ≤ k := by omega
    have hk3 : (nd : Int) ≤ od := by omega
    have hk4 : k ≤ nd := by omega
    have hk5 : k ≤ od := by omega
    have hk6 : ¬ od = k := by omega
    clear hw4 hb4 X4 s4 hOI hOD hOc hcaps hg0 hCE hCc hC9 hCl
    go_upto_region 9 with fail
    rw [← HW4.out]
    have hl4 : g0 < w4.heap.size := by rw [HS4.out]; exact Nat.lt_succ_self _
    rw [← HG0'.out]
    have KEEP : Hid (∀ wx : World, Below w4.heap.size w4 wx → wx.cell? ⟨g0, 2, none⟩ = some (.slice (some ⟨g, o, none⟩) nd od)) := Lib.hid (fun wx hb => (hb.cell (p := ⟨g0, 2, none⟩) hl4).trans (Lib.cell_of_heap HX4.out 2))
    have hH0 := KEEP.out w4.drew (Below.drew (Below.refl _ _))
    refine AnyX.start (fun wx => wx.cell? ⟨g0, 2, none⟩ = some (.slice (some ⟨g, o, none⟩) nd od)) (fun k => decide (10 ≤ k)) (by kernel_rfl) ?_
    refine AnyX.move (i := 1) (v := ?_) rfl (by kernel_rfl) (by kernel_rfl) (by kernel_rfl) (by kernel_rfl) (fun _ _ _ h => h) (Or.inl ⟨by rfl, ?_⟩) ?_
    rotate_left
    · (intro wS _; go_simp; try with_reducible rfl)
    simp only [List.getElem_toArray, List.getElem_cons_succ, List.getElem_cons_zero]
    simp only [Act.put, List.setIfInBounds_toArray]
    simp only [List.set_cons_zero, List.set_cons_succ]
    refine AnyX.take (i := 2) (v := ?_) rfl (by kernel_rfl) (by kernel_rfl) (by kernel_rfl) (by kernel_rfl) (by kernel_rfl) (fun _ _ _ h => h) hH0 (Or.inl ⟨by rfl, ?_⟩) ?_
    rotate_left
    · (intro wS hS; (try obtain c0 := hS); go_simp; try with_reducible rfl)
    simp only [List.getElem_toArray, List.getElem_cons_succ, List.getElem_cons_zero]
    simp only [Act.put, List.setIfInBounds_toArray]
    simp only [List.set_cons_zero, List.set_cons_succ]
    refine AnyX.move (i := 3) (v := ?_) rfl (by kernel_rfl) (by kernel_rfl) (by kernel_rfl) (by kernel_rfl) (fun _ _ _ h => h) (Or.inl ⟨by rfl, ?_⟩) ?_
    rotate_left
    · (intro wS _; go_simp; try with_reducible rfl)
    simp only [List.getElem_toArray, List.getElem_cons_succ, List.getElem_cons_zero]
    simp only [Act.put, List.setIfInBounds_toArray]
    simp only [List.set_cons_zero, List.set_cons_succ]
    refine AnyX.move (i := 4) (v := ?_) rfl (by kernel_rfl) (by kernel_rfl) (by kernel_rfl) (by kernel_rfl) (fun _ _ _ h => h) (Or.inl ⟨by rfl, ?_⟩) ?_
    rotate_left
    · (intro wS _; go_simp; try with_reducible rfl)
    simp only [List.getElem_toArray, List.getElem_cons_succ, List.getElem_cons_zero]
    simp only [Act.put, List.setIfInBounds_toArray]
    simp only [List.set_cons_zero, List.set_cons_succ]
    refine AnyX.move (i := 6) (v := ?_) rfl (by kernel_rfl) (by kernel_rfl) (by kernel_rfl) (by kernel_rfl) (fun _ _ _ h => h) (Or.inl ⟨by rfl, ?_⟩) ?_
    rotate_left
    · (intro wS _; go_simp; try with_reducible rfl)
    simp only [List.getElem_toArray, List.getElem_cons_succ, List.getElem_cons_zero]
    simp only [Act.put, List.setIfInBounds_toArray]
    simp only [List.set_cons_zero, List.set_cons_succ]
    refine AnyX.take (i := 7) (v := ?_) rfl (by kernel_rfl) (by kernel_rfl) (by kernel_rfl) (by kernel_rfl) (by kernel_rfl) (fun _ _ _ h => h) hH0 (Or.inl ⟨by rfl, ?_⟩) ?_
    rotate_left
    · (intro wS hS; (try obtain c0 := hS); go_simp; try with_reducible rfl)
    simp only [List.getElem_toArray, List.getElem_cons_succ, List.getElem_cons_zero]
    simp only [Act.put, List.setIfInBounds_toArray]
    simp only [List.set_cons_zero, List.set_cons_succ]
    refine AnyX.move (i := 8) (v := ?_) rfl (by kernel_rfl) (by kernel_rfl) (by kernel_rfl) (by kernel_rfl) (fun _ _ _ h => h) (Or.inl ⟨by rfl, ?_⟩) ?_
    rotate_left
    · (intro wS _; go_simp; try with_reducible rfl)
    simp only [List.getElem_toArray, List.getElem_cons_succ, List.getElem_cons_zero]
    simp only [Act.put, List.setIfInBounds_toArray]
    simp only [List.set_cons_zero, List.set_cons_succ]
    refine AnyX.move (i := 9) (v := ?_) rfl (by kernel_rfl) (by kernel_rfl) (by kernel_rfl) (by kernel_rfl) (fun _ _ _ h => h) (Or.inl ⟨by rfl, ?_⟩) ?_
    rotate_left
    · (intro wS _; go_simp; try with_reducible rfl)
    simp only [List.getElem_toArray, List.getElem_cons_succ, List.getElem_cons_zero]
    simp only [Act.put, List.setIfInBounds_toArray]
    simp only [List.set_cons_zero, List.set_cons_succ]
    clear hH0
    obtain ⟨inf, hi1, hy0, hy1, hy2⟩ := info_parts dec_info
    have own0 : (w4.drew.alloc (.cells #[] 45)).ownsRow w4.heap.size 45 9 (.slice (some ⟨w4.heap.size, 0, none⟩) 0 0) 0 [] := World.ownsRow_lit (base := w4.heap.size) (e := 45) (size := 9) w4.drew #[] 0 (Nat.le_refl _) (by decide) rfl
    have hlCd : (C.drop k).flatten.length = (nd - k) * 9 := by rw [flatC_len _ (fun l hl => HC9.out l (List.mem_of_mem_drop hl)), List.length_drop, HCl.out, ← HND.out]; rfl
    have hlCt : (C.take k).flatten.length = k * 9 := by rw [flatC_len _ (fun l hl => HC9.out l (List.mem_of_mem_take hl)), List.length_take, HCl.out, ← HND.out, Nat.min_eq_left hk4]; rfl
    have hcell : ∀ wx : World, Below w4.heap.size w4 wx → ∀ j u, C.flatten[j]? = some u → wx.cell? ⟨g, o + j, none⟩ = some u := fun wx hb j u hu => by
      have h3 := HCc.out j u hu
      have hb' : Below w3.heap.size w3 wx := below_over HB4.out hb
      exact (hb'.cell (p := ⟨g, o + j, none⟩) (by rw [← HG0'.out]; exact hgl)).trans h3
    have hone : ∀ u ∈ C.flatten, u.oneCell' = true := fun u hu => by
      obtain ⟨l, hl, hu⟩ := List.mem_flatten.1 hu
      obtain ⟨i, hi⟩ := List.mem_iff_getElem?.1 hl
      have hil := (List.getElem?_eq_some_iff.1 hi).1
      rw [HCl.out] at hil
      exact de_one (HCE.out i l _ hi (List.getElem?_eq_getElem hil)) u hu
    refine AnyX.go 0 (by kernel_rfl) rfl rfl (fun K hK => ?_)
    simp only [List.getElem_toArray, List.getElem_cons_succ, List.getElem_cons_zero]
    go_simp
    refine hK.out _ _ (fun hoff _ => KEEP.out _ (below_new (Below.drew (Below.refl _ _)) _)) ?_
    clear hK
    try simp only [Act.put, List.setIfInBounds_toArray]
    try simp only [List.set_cons_zero, List.set_cons_succ]
    refine AnyX.go 5 (by kernel_rfl) rfl rfl (fun K hK => ?_)
    simp only [List.getElem_toArray, List.getElem_cons_succ, List.getElem_cons_zero]
    refine wp_append_own _ (.tmp 35) (.tmp 39) 23 rfl w4.heap.size 45 inf _ 9 136 Tryz.underlying23 hi1 hy0 hy1 hy2 (by rfl) (Nat.zero_lt_succ 8) (.slice (some ⟨w4.heap.size, 0, none⟩) 0 0) 0 [] rfl own0 _ (nd - k) _ (C.drop k).flatten rfl hlCd (fun j u hu => ?_) (fun u hu => ?_) ?_ ?_ ?_ ?_
    · rw [flat_drop (k := 9) HC9.out k (by rw [HCl.out, ← HND.out]; exact hk4)] at hu
      have := hcell _ (below_new (Below.drew (Below.refl _ _)) (.cells #[] 45)) _ _ hu
      rw [← Nat.add_assoc] at this
      rw [WideShapes.add_plain]
      exact this
    · obtain ⟨l, hl, hu⟩ := List.mem_flatten.1 hu
      exact hone u (List.mem_flatten.2 ⟨l, List.mem_of_mem_drop hl, hu⟩)
    · unfold maxLen; omega
    · omega
    · simp
    intro v5 w5 hown5 hgrow5 hat5
    rw [Nat.zero_add, List.nil_append] at hown5
    have hb5 : Below w4.heap.size w4 w5 := (below_new (Below.drew (Below.refl _ _)) (.cells #[] 45)).trans ⟨hgrow5.os, hgrow5.tape, hgrow5.output, hgrow5.size, fun b hb => hgrow5.block b (by simp; omega) (by simp [Value.ownBlock]; omega)⟩
    have HB5 := Lib.hid hb5
    have hlow5 : ∀ b, v5.ownBlock = some b → w4.heap.size ≤ b := fun b e => (hown5.lt b e).1
    clear hgrow5 hat5 own0 hb5
    refine hK.out _ _ (fun hoff _ => KEEP.out _ HB5.out) ?_
    clear hK
    try simp only [Act.put, List.setIfInBounds_toArray]
    try simp only [List.set_cons_zero, List.set_cons_succ]
    refine AnyX.go 10 (by kernel_rfl) rfl rfl (fun K hK => ?_)
    simp only [List.getElem_toArray, List.getElem_cons_succ, List.getElem_cons_zero]
    refine wp_append_own _ (.tmp 40) (.tmp 44) 23 rfl w4.heap.size 45 inf _ 9 136 Tryz.underlying23 hi1 hy0 hy1 hy2 (by rfl) (Nat.zero_lt_succ 8) v5 (nd - k) _ rfl hown5 _ k _ (C.take k).flatten rfl hlCt (fun j u hu => ?_) (fun u hu => ?_) ?_ ?_ ?_ ?_
    · have := hcell _ HB5.out _ _ (flat_take k j u hu)
      rw [WideShapes.add_plain]
      exact this
    · obtain ⟨l, hl, hu⟩ := List.mem_flatten.1 hu
      exact hone u (List.mem_flatten.2 ⟨l, List.mem_of_mem_take hl, hu⟩)
    · unfold maxLen; omega
    · omega
    · exact HB5.out.size
    intro v6 w6 hown6 hgrow6 hat6
    rw [show nd - k + k = nd by omega, ← List.flatten_append] at hown6
    have HB6 : Hid (Below w4.heap.size w4 w6) := Lib.hid (HB5.out.trans ⟨hgrow6.os, hgrow6.tape, hgrow6.output, hgrow6.size, fun b hb => hgrow6.block b (by have := HB5.out.size; omega) (fun e => by have := hlow5 b e.symm; omega)⟩)
    have HO6 := Lib.hid hown6
    clear hgrow6 hat6 hown5 hown6 hlow5 hone hcell hlCd hlCt hi1 hy0 hy1 hy2
    obtain ⟨A6, c6, rfl⟩ := own_slice HO6.out
    refine hK.out _ _ (fun hoff _ => absurd hoff (by decide)) ?_
    clear hK
    try simp only [Act.put, List.setIfInBounds_toArray]
    try simp only [List.set_cons_zero, List.set_cons_succ]
    have X6 := (HB6.out.block _ hl4).trans HX4.out
    have z6 := Lib.cell_of_heap X6 2
    have y6 := Lib.frozen_of_heap X6 2
    simp at z6
    refine AnyX.move (i := 11) (v := ?_) rfl (by kernel_rfl) (by kernel_rfl) (by kernel_rfl) (by kernel_rfl) (fun _ _ _ h => h) (Or.inl ⟨by rfl, ?_⟩) ?_
    rotate_left
    · (intro wS _; go_simp; try with_reducible rfl)
    simp only [List.getElem_toArray, List.getElem_cons_succ, List.getElem_cons_zero]
    simp only [Act.put, List.setIfInBounds_toArray]
    simp only [List.set_cons_zero, List.set_cons_succ]
    refine AnyX.go 12 (by kernel_rfl) rfl rfl (fun K hK => ?_)
    simp only [List.getElem_toArray, List.getElem_cons_succ, List.getElem_cons_zero]
    go_simp
    obtain ⟨w7, hw7⟩ : ∃ w7, w7 = w6.setCell ⟨g0, 2, none⟩ (.slice A6 nd c6) := ⟨_, rfl⟩
    have ot : ∀ b, b ≠ g0 → w7.heap[b]? = w6.heap[b]? := fun b hb => by rw [hw7]; exact Below.heap_setCell _ _ _ _ (by show b ≠ g0; exact hb)
    have HB7 : Hid (Below w3.heap.size w3 w7) := Lib.hid (by rw [hw7]; exact (below_over HB4.out HB6.out).setCell (by show w3.heap.size ≤ g0; rw [HG0'.out]; exact Nat.le_refl _) _)
    have HX7 : Hid (w7.heap[g0]? = some (.cells #[.string m.name, .slice Oi m.imps.length oi, .slice A6 nd c6] 25 (0, 0))) := Lib.hid (by
      have := Joins.block_setCell (i := 2) X6 (.slice A6 nd c6)
      rw [hw7]; simpa using this)
    have HNM : Hid (MoAt w7 [.string m.name, .slice Oi m.imps.length oi, .slice A6 nd c6] (turned m k)) := Lib.hid (by
      have hlt : (turned m k).decs.length = nd := by rw [turned_len m k (by rw [← HND.out]; exact hk4), ← HND.out]
      have own7 : w7.ownsRow w4.heap.size 45 9 (.slice A6 nd c6) nd (C.drop k ++ C.take k).flatten := own_from HO6.out (fun b hb _ => ot b (by have := HS4.out; omega))
      refine ⟨Oi, oi, A6, c6, by rw [hlt]; rfl, zO1, zO2, by rw [hlt]; omega, HOI.out.below HB7.out, ?_⟩
      have := RowIn.of_own (R := deR) (xs := (turned m k).decs) (c := c6) (A := A6) (C := C.drop k ++ C.take k) (by rw [hlt]; exact own7) (by rw [hlt, List.length_append, List.length_drop, List.length_take, HCl.out, ← HND.out]; omega)
        (fun l hl => by rcases List.mem_append.1 hl with h | h; exact HC9.out l (List.mem_of_mem_drop h); exact HC9.out l (List.mem_of_mem_take h)) (fun i l x hl hx => deR.keep _ _ _ _ (pairs_turn HCl.out HCE.out k i l x hl hx) HB7.out)
      exact this)
    have HNC : Hid (CapsAt [.string m.name, .slice Oi m.imps.length oi, .slice A6 nd c6] (turned m k)) := Lib.hid (by
      have hlt : (turned m k).decs.length = nd := by rw [turned_len m k (by rw [← HND.out]; exact hk4), ← HND.out]
      exact CapsAt.of (m := turned m k) HCI.out (by rw [hlt]; exact own_cap HO6.out) hlt.symm)
    rw [← hw7]
    have HB37 : Hid (Below wb.heap.size wb w7) := Lib.hid (below_over HB3.out HB7.out)
    clear hw7 ot X6 z6 y6 HO6 HB6 HB5 HX4 KEEP
    refine hK.out _ _ (fun hoff _ => absurd hoff (by decide)) ?_
    clear hK
    try simp only [Act.put, List.setIfInBounds_toArray]
    try simp only [List.set_cons_zero, List.set_cons_succ]
    refine AnyX.done (by kernel_rfl) ?_ _
    have HTD : Hid (∀ d ∈ (turned m k).decs, many d.typ ≤ 9000) := Lib.hid (fun d hd => by
      refine (HD.out d ?_).1
      rcases List.mem_append.1 hd with h | h
      · exact List.mem_of_mem_drop h
      · exact List.mem_of_mem_take h)
    have hl7 : g0 < w7.heap.size := (Array.getElem?_eq_some_iff.1 HX7.out).1
    clear HB7 HB4 HW4 HCE HCc HC9 HCl HS4 HOI HCI
    have x0 := HX.out w7 HB37.out 0 _ rfl
    have x1 := HX.out w7 HB37.out 1 _ rfl
    have x2 := HX.out w7 HB37.out 2 _ rfl
    go_wp2_with fail
    refine (check7_any m _ w7 (HV0.out _ HB37.out) (fun d hd => (HD.out d hd).1) HCP'.out).mono ?_; rintro e w8 ⟨hck, hb8⟩
    have HB8 := Lib.hid (below_over HB37.out hb8)
    have HX8 := Lib.hid ((hb8.block _ hl7).trans HX7.out)
    have HNM8 := Lib.hid (HNM.out.below hb8)
    clear x0 x1 x2 hb8 HX7 HNM
    have y0 := Lib.cell_of_heap HX8.out 0
    have y1 := Lib.cell_of_heap HX8.out 1
    have y2 := Lib.cell_of_heap HX8.out 2
    simp at y0 y1 y2
    have HCK := Lib.hid (ck_cases hck)
    clear hck
    have TOK := Lib.hid (turned_ok m k (by rw [← HND.out]; exact hkn))
    have TMA := Lib.hid (turned_may m k (by rw [← HND.out]; exact hk4))
    rcases HCK.out with ⟨rfl, hm, ok⟩ | ⟨T, x, rfl, hno⟩
    · have HMO := Lib.hid (And.intro hm ok)
      clear hm ok HCK
      go_wp2_with fail
      refine (check7_any (turned m k) _ w8 HNM8.out HTD.out HNC.out).mono ?_; rintro e w9 ⟨hck, hb9⟩
      rcases ck_cases hck with ⟨rfl, hm, ok⟩ | ⟨T, x, rfl, hno⟩
      rotate_left
      · exact absurd ⟨by rw [TMA.out]; exact HMO.out.1, TOK.out.2 HMO.out.2⟩ hno
      have HB9 := Lib.hid (below_over HB8.out hb9)
      clear hck hb9 hm ok y0 y1 y2
      go_wp2_with fail
      go_quiet (fail)
      go_wp2_with fail
      go_ret
      exact ⟨rfl, below_drewN (below_over HBB.out HB9.out) _⟩
    · have HNO := Lib.hid hno
      clear hno HCK
      go_wp2_with fail
      refine (check7_any (turned m k) _ w8 HNM8.out HTD.out HNC.out).mono ?_; rintro e w9 ⟨hck, hb9⟩
      rcases ck_cases hck with ⟨rfl, hm, ok⟩ | ⟨T2, x2, rfl, hno⟩
      · exact absurd ⟨by rw [← TMA.out]; exact hm, TOK.out.1 ok⟩ HNO.out
      have HB9 := Lib.hid (below_over HB8.out hb9)
      clear hck hb9 hno y0 y1 y2
      go_wp2_with fail
      go_quiet (fail)
      go_wp2_with fail
      go_ret
      exact ⟨rfl, below_drewN (below_over HBB.out HB9.out) _⟩

end Go.Proofs.YtapjhmfbmkckaaaGreatDoor

/- The bounds of an int that is handed in. -/
namespace Go.Proofs.YtapjhmfbmkckaaaGreatDoor
open Go Go.RowKit

theorem wf_bd {n : Int} (h : (Lit.int .i64 n).wf = true) : -9223372036854775808 ≤ n ∧ n ≤ 9223372036854775807 := by
  simp [Lit.wf, IntKind.min, IntKind.max, IntKind.signed, IntKind.bits] at h
  omega

end Go.Proofs.YtapjhmfbmkckaaaGreatDoor

/- The library's variable errors.errorType: what a row's list gives of it; a world for the witnesses in which it lies as the program's text lays it. -/
namespace Go.Proofs.YtapjhmfbmkckaaaGreatDoor
open Go Go.ChangeShapes Go.WideShapes Go.ChangeAt Go.RowKit

theorem own : ownKnob Tryz.prog.godebug = none := by kernel_rfl
theorem laidOut : laidOutB Tryz.prog = true := by kernel_rfl
theorem errVar : Tryz.prog.globalNamed "errors.errorType" = some 0 := by kernel_rfl
theorem errRt : (Tryz.prog.cutTypes.find? (·.1 == "internal/reflectlite.rtype")).map (·.2) = some 194 := by kernel_rfl
theorem errRow : ((List.range 274).filter fun t => Tryz.prog.rowNamed t [101, 114, 114, 111, 114]) = [34] := by kernel_rfl
theorem typesSize : Tryz.prog.types.size = 274 := by kernel_rfl

/-- What the list gives a walk: the variable's one cell. -/
theorem errT_of {W : World} {l : List (String × DataW Unit)} (hl : l = [("errors.errorType", Rows.laid_errors_errorType)]) (h : laidMetH Tryz.prog l W) : ErrT W := by
  subst hl
  have h' : laidMet Tryz.prog [] W ∧ handlesMet Tryz.prog [("errors.errorType", Rows.laid_errors_errorType)] W := h
  obtain ⟨name, u, ty, e1, e2, e3, e4, e5⟩ := h'.2 _ (List.mem_singleton.2 rfl)
  have en : name = [101, 114, 114, 111, 114] := (Option.some.inj e1).symm
  subst en
  obtain rfl := Option.some.inj (errRt.symm.trans e2)
  have hm : ty ∈ (List.range 274).filter fun t => Tryz.prog.rowNamed t [101, 114, 114, 111, 114] := List.mem_filter.2 ⟨List.mem_range.2 (by rw [← typesSize]; exact e3), e4⟩
  rw [errRow] at hm
  obtain rfl := List.mem_singleton.1 hm
  have hh : typeHandle Tryz.prog 34 = .pointer (some ⟨4, 34, none⟩) := by kernel_rfl
  rw [hh] at e5
  unfold ErrT
  simpa using World.var?_cell errVar e5 0

/-- A world for the witness: the settled one, the variable's cell laid. -/
noncomputable def laidWorld (os : Os) : World :=
  let w0 := World.holding Tryz.prog os ⟨#[], #[], []⟩
  { w0 with heap := w0.heap.modify 0 fun
      | .cells _ t frozen => .cells #[.iface 194 (.agg #[.pointer (some ⟨4, 34, none⟩)])] t frozen
      | o => o }
theorem laidWorld_met (os : Os) (args : Array Value) : laidMetH Tryz.prog [("errors.errorType", Rows.laid_errors_errorType)] ((laidWorld os).forCall (fun _ _ => 0) ⟨#[], args, []⟩).memory :=
  laidMetH_of_parts (laidMet_nil _ _) (by kernel_rfl)

end Go.Proofs.YtapjhmfbmkckaaaGreatDoor

/- The last step of a law's row, over any program: a call that answers true and leaves all old memory as it was meets 'every argument reads as it read'. Nothing of this program is in it. -/
namespace Go.Proofs.YtapjhmfbmkckaaaGreatDoor
open Go Go.RowKit Go.WideShapes Go.ChangeShapes
section
variable {H : Type} {enc : TypeId × Value → H} {P : Program}

theorem post_of_below {f : Func} {s : ChangeSpec} {apart fresh handsOn again : Bool} {W W' : World} {args : Array Value} {v : Value} {ds gs : List (DataW H)} {before pa pv : List MemPlace}
    (hW : DataW.Whole enc P f.params.toList s.vars apart W args.toList ds gs before)
    (hres : ∀ (b : Nat) (sp : Nat → Bool) (hd : Bool), DataW.TrodAll enc P W' b sp hd f.resultTypes.toList (v.resultList f.resultTypes.size) (s.fn H (ds ++ gs)).results [])
    (hargs : ∀ sp : Nat → Bool, (∀ p ∈ before, sp p.block = true) → DataW.TrodAll enc P W' 0 sp true f.params.toList args.toList (s.fn H (ds ++ gs)).args pa)
    (hvars : ∀ sp : Nat → Bool, (∀ p ∈ before, sp p.block = true) → DataW.TrodVars enc P W' sp s.vars (s.fn H (ds ++ gs)).vars pv)
    (hps : before = pa ++ pv) (hb : Below W.heap.size W W')
    (hok : ∀ (j : Nat) (t : TypeId) (r : Value), f.resultTypes[j]? = some t → (v.resultList f.resultTypes.size)[j]? = some r → Value.okWide P W' .any 0 t r) :
    s.post enc P f apart fresh handsOn again W args v W' := by
  have hlt : ∀ p ∈ before, p.block < W.heap.size := fun p hp => hW.lt p hp
  have hold : ∀ p ∈ before, (fun b => decide (b < W.heap.size)) p.block = true := fun p hp => by simpa using hlt p hp
  refine ⟨ds, gs, before, [], pa, pv, hW, hres _ _ _, hargs _ hold, hvars _ hold, World.keptBut_mono (fun p hp => ⟨hp, ?_⟩) (hb.frame (· ∈ before)), fun _ => ?_⟩
  · rw [hps, List.mem_append] at hp
    exact Or.inr hp
  · obtain ⟨_, _, _, _, _, hz, hn⟩ := hW
    refine ⟨hok, _, _, ([] ++ pa) ++ pv, ⟨[] ++ pa, pv, trodAll_append (hargs _ (fun _ _ => rfl)) (hres _ _ _), hvars _ (fun _ _ => rfl), rfl, ?_, ?_⟩, ?_⟩
    · intro b off hp
      have hin : MemPlace.cell b off ∈ before := by rw [hps]; simpa using hp
      rw [hb.frozen (hlt _ hin)]
      exact hz b off hin
    · intro ha
      have := hn ha
      rw [hps] at this
      simpa using this
    · intro p hp _
      rw [hps]
      simpa using hp

/-- Arguments that were only read read as they did. -/
theorem trodAll_stays (hl : laidOutB P = true) {W W' : World} {sp : Nat → Bool} (hb : Below W.heap.size W W') :
    ∀ (ts : List TypeId) (vs : List Value) (ds : List (DataW H)) (ps : List MemPlace), (∀ t ∈ ts, P.readableRec t = true ∧ t < P.types.size) →
      DataW.TrodAll enc P W 0 (fun _ => true) true ts vs ds ps → (∀ x ∈ ps, x.block < W.heap.size) → (∀ x ∈ ps, sp x.block = true) → DataW.TrodAll enc P W' 0 sp true ts vs ds ps
  | [], vs, ds, ps, _, h, _, _ => by
    obtain ⟨rfl, rfl, rfl⟩ := trodAll_nil h
    exact trodAll_mk0
  | t :: ts, vs, ds, ps, ht, h, hlt, hs => by
    obtain ⟨v, vs', d, ds', p, q, rfl, rfl, rfl, h0, h1⟩ := trodAll_cons h
    obtain ⟨hr, hrow⟩ := ht t (by simp)
    exact ⟨p, q, WideElems.Trod_stays hl hr hrow h0 (fun x hx => hb.same (hlt x (by simp [hx]))) (fun x hx => hs x (by simp [hx])),
      trodAll_stays hl hb ts vs' ds' q (fun u hu => ht u (by simp [hu])) h1 (fun x hx => hlt x (by simp [hx])) (fun x hx => hs x (by simp [hx])), rfl⟩

/-- The last step of a law: it answered true, and old memory stands. -/
theorem law_post {f : Func} {s : ChangeSpec} {apart fresh handsOn again : Bool} {W W' : World} {args : Array Value} {ds gs : List (DataW H)} {before : List MemPlace} {tb : TypeId}
    (hl : laidOutB P = true) (hro : f.params.toList.all (fun t => P.readableRec t && decide (t < P.types.size)) = true) (hres : f.resultTypes = #[tb]) (hbool : P.underlying tb = some .bool) (hvars : s.vars = [])
    (hW : DataW.Whole enc P f.params.toList s.vars apart W args.toList ds gs before) (hb : Below W.heap.size W W')
    (hs : s.fn H (ds ++ gs) = { results := [.lit (.bool true)], args := ds }) :
    s.post enc P f apart fresh handsOn again W args (.bool true) W' := by
  have hW' := hW
  obtain ⟨p, q, hA, hV, hpq, _, _⟩ := hW
  rw [hvars] at hV
  obtain ⟨rfl, rfl⟩ := trodVars_none hV
  rw [List.append_nil] at hpq
  subst hpq
  have hlt : ∀ x ∈ before, x.block < W.heap.size := fun x hx => hW'.lt x hx
  have hro' : ∀ t ∈ f.params.toList, P.readableRec t = true ∧ t < P.types.size := fun t ht => by
    have := List.all_eq_true.1 hro t ht
    simpa using this
  refine post_of_below (pa := before) (pv := []) hW' ?_ ?_ ?_ (by simp) hb ?_
  · intro b sp hd
    rw [hs, hres]
    exact trodAll_mk1 (shut_bool hbool true)
  · intro sp hsp
    rw [hs]
    exact trodAll_stays hl hb _ _ _ _ hro' hA hlt hsp
  · intro sp _
    rw [hs, hvars]
    exact rfl
  · exact ok_one hres rfl (okWide_bool_mk hbool true)
end
end Go.Proofs.YtapjhmfbmkckaaaGreatDoor

/- Plain mathematics for layer 7: what the reference's reading comes to, and that it is the code's. -/
namespace Go.Proofs.YtapjhmfbmkckaaaGreatDoor
open Go.RowKit
open M

-- All Locals of a type.
mutual
def locT : Ty → List Ty
  | .mk k p j d n ns ss => if k = 8 then .mk k p j d n ns ss :: locL ss else locL ss
def locL : List Ty → List Ty
  | [] => []
  | t :: r => locT t ++ locL r
end
theorem locT_eq (t : Ty) : locT t = (if t.kind = 8 then [t] else []) ++ locL t.subs := by
  cases t; unfold locT Ty.kind Ty.subs; split <;> rfl
theorem locL_append : ∀ a b : List Ty, locL (a ++ b) = locL a ++ locL b
  | [], b => rfl
  | t :: r, b => by simp [locL, locL_append r b]
theorem locL_take (l : List Ty) (k : Nat) (t : Ty) (h : l[k]? = some t) : locL (l.take (k + 1)) = locL (l.take k) ++ locT t := by
  rw [List.take_add_one, h, locL_append]; simp [locL]
mutual
theorem locT_len : ∀ t : Ty, (locT t).length ≤ many t
  | .mk k p j d n ns ss => by
    have := locL_len ss
    unfold locT many
    split <;> simp <;> omega
theorem locL_len : ∀ l : List Ty, (locL l).length ≤ manyL l
  | [] => by simp [locL]
  | t :: r => by
    have := locT_len t
    have := locL_len r
    unfold locL manyL
    rw [List.length_append]; omega
end
/-- The declaration that a Local names. -/
def oneN (m : Mo) (x : Ty) : List Nat := if x.mod.size = 0 then (typAt m x.name).toList else []
theorem local_subs {t : Ty} (h : ownOk t = true) (hk : t.kind = 8) : t.subs = [] := by
  unfold ownOk shapeOk at h
  rw [hk] at h
  simp only [Bool.and_eq_true, decide_eq_true_eq, reduceCtorEq, if_neg (show ¬ ((8 : Int) = 1 ∨ (8 : Int) = 2 ∨ (8 : Int) = 3) by decide), if_neg (show ¬ (8 : Int) = 4 by decide), if_neg (show ¬ (8 : Int) = 5 by decide), if_neg (show ¬ (8 : Int) = 6 by decide), if_neg (show ¬ (8 : Int) = 7 by decide), if_pos] at h
  exact List.length_eq_zero_iff.1 h.2.1.1.1.1.1
mutual
theorem loc_ok (m : Mo) : ∀ t : Ty, allOk t = true → saidT m t = (locT t).flatMap (oneN m) ∧ wholeT m t = (locT t).all (knoN m)
  | .mk k p j d n ns ss, h => by
    rw [allOk_eq, Bool.and_eq_true] at h
    by_cases hk : k = 8
    · have hs : ss = [] := local_subs h.1 hk
      subst hs
      unfold saidT wholeT locT
      simp only [if_pos hk]
      refine ⟨by simp [locL, oneN, Ty.mod, Ty.name], by simp [locL, knoN, Ty.mod, Ty.name]⟩
    · unfold saidT wholeT locT
      simp only [if_neg hk]
      exact locL_ok m ss h.2
theorem locL_ok (m : Mo) : ∀ l : List Ty, allOkL l = true → saidL m l = (locL l).flatMap (oneN m) ∧ wholeL m l = (locL l).all (knoN m)
  | [], _ => ⟨rfl, rfl⟩
  | t :: r, h => by
    unfold allOkL at h
    rw [Bool.and_eq_true] at h
    have h1 := loc_ok m t h.1
    have h2 := locL_ok m r h.2
    unfold saidL wholeL locL
    rw [h1.1, h2.1, h1.2, h2.2, List.flatMap_append, List.all_append]
    exact ⟨rfl, rfl⟩
end
theorem loc_may (m : Mo) {t : Ty} (h : mayT t = true) : saidT m t = (locT t).flatMap (oneN m) ∧ wholeT m t = (locT t).all (knoN m) := by
  unfold mayT at h
  simp only [Bool.and_eq_true] at h
  exact loc_ok m t h.1.1
theorem loc_noT (m : Mo) : saidT m noT = (locT noT).flatMap (oneN m) ∧ wholeT m noT = (locT noT).all (knoN m) := by
  unfold noT saidT wholeT locT
  exact ⟨rfl, rfl⟩
/-- A declaration's sorts. -/
theorem mayD_sorts {d : De} (h : mayD d = true) : ((d.kind = 1 ∨ d.kind = 2) ∧ d.typ = noT ∧ greatB d.name.data.toList = true) ∨ (d.kind = 3 ∧ mayT d.typ = true ∧ greatB d.name.data.toList = true) ∨ (d.kind = 4 ∧ mayT d.typ = true ∧ smallB d.name.data.toList = true) := by
  unfold mayD at h
  split at h
  · rename_i hk
    rw [Bool.and_eq_true] at h
    exact .inl ⟨hk, (sameT_iff _ _).1 h.2, h.1⟩
  · split at h
    · rename_i hk
      rw [Bool.and_eq_true] at h
      exact .inr (.inl ⟨hk, h.2, h.1⟩)
    · split at h
      · rename_i hk
        rw [Bool.and_eq_true] at h
        exact .inr (.inr ⟨hk, h.2, h.1⟩)
      · cases h
theorem loc_dec (m : Mo) {d : De} (h : mayD d = true) : saidT m d.typ = (locT d.typ).flatMap (oneN m) ∧ wholeT m d.typ = (locT d.typ).all (knoN m) := by
  rcases mayD_sorts h with ⟨-, e, -⟩ | ⟨-, e, -⟩ | ⟨-, e, -⟩
  · rw [e]; exact loc_noT m
  · exact loc_may m e
  · exact loc_may m e
/-- Of one name, those of unlike sorts are unlike. -/
theorem sort_alike {d e : De} (hd : mayD d = true) (he : mayD e = true) (h : d.name = e.name) : (d.kind == 4) = (e.kind == 4) := by
  rcases mayD_sorts hd with ⟨k, -, g⟩ | ⟨k, -, g⟩ | ⟨k, -, g⟩ <;> rcases mayD_sorts he with ⟨k', -, g'⟩ | ⟨k', -, g'⟩ | ⟨k', -, g'⟩
  all_goals (rw [h] at g)
  all_goals first
    | (rw [small_not_great g] at g'; cases g'; done)
    | (rw [small_not_great g'] at g; cases g; done)
    | skip
  all_goals (first | (rcases k with k | k <;> rcases k' with k' | k' <;> rw [k, k'] <;> rfl) | (rcases k with k | k <;> rw [k, k'] <;> rfl) | (rcases k' with k' | k' <;> rw [k, k'] <;> rfl) | (rw [k, k']))

/-- How far the reference has found what is mentioned. -/
structure Rch (m : Mo) (t : Ty) (F : Nat → Bool) (L : List Ty) : Prop where
  only : ∀ i, F i = true → Reach (entries m) (saidT m t) i
  says : ∀ x ∈ L, ∀ i ∈ oneN m x, Reach (entries m) (saidT m t) i
  own : ∀ x ∈ locT t, x ∈ L
  on : ∀ (k : Nat) (d : De), F k = true → m.decs[k]? = some d → d.kind = 3 → ∀ x ∈ locT d.typ, x ∈ L
theorem Rch.start {m : Mo} {t : Ty} (h : saidT m t = (locT t).flatMap (oneN m)) : Rch m t (fun _ => false) (locT t) :=
  ⟨fun i h => (by cases h), fun x hx i hi => .one (by rw [h]; exact List.mem_flatMap.2 ⟨x, hx, hi⟩), fun _ h => h, fun k d h => (by cases h)⟩
/-- One more that is no alias. -/
theorem Rch.leaf {m : Mo} {t : Ty} {F : Nat → Bool} {L : List Ty} {x : Ty} {k : Nat} {d : De} (h : Rch m t F L) (hx : x ∈ L) (hk : k ∈ oneN m x) (hd : m.decs[k]? = some d) (hd3 : d.kind ≠ 3) : Rch m t (fun j => if j = k then true else F j) L := by
  refine ⟨fun i hi => ?_, h.says, h.own, fun i e hi he h3 => ?_⟩
  · replace hi : (if i = k then true else F i) = true := hi
    split at hi
    · rename_i e; subst e; exact h.says x hx _ hk
    · exact h.only i hi
  · replace hi : (if i = k then true else F i) = true := hi
    split at hi
    · rename_i e2; subst e2
      rw [hd] at he; cases he
      exact absurd h3 hd3
    · exact h.on i e hi he h3
/-- One more that is an alias. -/
theorem Rch.alias {m : Mo} {t : Ty} {F : Nat → Bool} {L : List Ty} {x : Ty} {k : Nat} {d : De} (h : Rch m t F L) (hx : x ∈ L) (hk : k ∈ oneN m x) (hd : m.decs[k]? = some d) (hs : saidT m d.typ = (locT d.typ).flatMap (oneN m)) :
    Rch m t (fun j => if j = k then true else F j) (L ++ locT d.typ) := by
  have hr := h.says x hx _ hk
  refine ⟨fun i hi => ?_, fun y hy i hi => ?_, fun y hy => List.mem_append_left _ (h.own y hy), fun i e hi he h3 y hy => ?_⟩
  · replace hi : (if i = k then true else F i) = true := hi
    split at hi
    · rename_i e; subst e; exact hr
    · exact h.only i hi
  · rcases List.mem_append.1 hy with hy | hy
    · exact h.says y hy i hi
    · refine .step hr (entries_at hd) ?_
      show i ∈ saidT m d.typ
      rw [hs]; exact List.mem_flatMap.2 ⟨y, hy, hi⟩
  · replace hi : (if i = k then true else F i) = true := hi
    split at hi
    · rename_i e2; subst e2
      rw [hd] at he; cases he
      exact List.mem_append_right _ hy
    · exact List.mem_append_left _ (h.on i e hi he h3 y hy)
/-- When no more is found, all is. -/
theorem Rch.all {m : Mo} {t : Ty} {F : Nat → Bool} {L : List Ty} (h : Rch m t F L) (hm : ∀ d ∈ m.decs, mayD d = true) (ht : saidT m t = (locT t).flatMap (oneN m)) (hc : ∀ x ∈ L, ∀ i ∈ oneN m x, F i = true) (i : Nat) : F i = reachB (entries m) (saidT m t) i := by
  rw [Bool.eq_iff_iff, reachB_iff]
  refine ⟨h.only i, fun hr => ?_⟩
  induction hr with
  | one hi =>
    rw [ht] at hi
    obtain ⟨x, hx, hi⟩ := List.mem_flatMap.1 hi
    exact hc x (h.own x hx) _ hi
  | @step i j x hrj hx hi ih =>
    have hj : j < m.decs.length := by
      have := (List.getElem?_eq_some_iff.1 hx).1
      rwa [entries_len] at this
    obtain ⟨d, hd⟩ := dec_at hj
    rw [entries_at hd] at hx
    cases hx
    have hmd := hm d (List.mem_of_getElem? hd)
    replace hi : i ∈ saidT m d.typ := hi
    by_cases h3 : d.kind = 3
    · rw [(loc_dec m hmd).1] at hi
      obtain ⟨y, hy, hi⟩ := List.mem_flatMap.1 hi
      exact hc y (h.on j d ih hd h3 y hy) _ hi
    · obtain ⟨e, he, hk4⟩ := reach_typ hrj
      rw [hd] at he
      cases he
      rcases mayD_sorts hmd with ⟨-, e, -⟩ | ⟨k, -⟩ | ⟨k, -⟩
      · rw [e, said_noT] at hi; cases hi
      · exact absurd k h3
      · exact absurd k hk4

/-- Does a declaration fail by an error? (As the reference asks.) -/
noncomputable def badN (m : Mo) (i : Nat) (code : Int) : Bool := match m.decs[i]? with
  | none => false
  | some d => if code = 5 then (m.decs.take i).any fun y => decide (y.name = d.name) && ((y.kind == 4) == (d.kind == 4))
    else if code = 4 then !((locT d.typ).all (knoN m))
    else if code = 6 then (d.kind == 3) && (match typAt m d.name with | some k => reachB (entries m) (saidT m d.typ) k | none => false)
    else hidB (entries m) (saidT m d.typ)
theorem bad5 {m : Mo} (hm : ∀ d ∈ m.decs, mayD d = true) {i : Nat} (hi : i < m.decs.length) : badN m i 5 = dupB (·.name) m.decs i := by
  obtain ⟨d, hd⟩ := dec_at hi
  unfold badN
  rw [hd, dupB_some hd]
  simp only [if_pos]
  rw [Bool.eq_iff_iff, List.any_eq_true, List.any_eq_true]
  constructor
  · rintro ⟨y, hy, h⟩
    rw [Bool.and_eq_true] at h
    exact ⟨y, hy, h.1⟩
  · rintro ⟨y, hy, h⟩
    refine ⟨y, hy, ?_⟩
    rw [h, Bool.true_and, sort_alike (hm y (List.mem_of_mem_take hy)) (hm d (List.mem_of_getElem? hd)) (of_decide_eq_true h)]
    simp
theorem bad4 {m : Mo} (hm : ∀ d ∈ m.decs, mayD d = true) {i : Nat} (hi : i < m.decs.length) : badN m i 4 = atE (entries m) (fun x => !x.whole) i := by
  obtain ⟨d, hd⟩ := dec_at hi
  unfold badN
  rw [hd, atE_some (entries_at hd)]
  simp only [if_neg (show ¬ (4 : Int) = 5 by decide), if_pos]
  rw [(loc_dec m (hm d (List.mem_of_getElem? hd))).2]
theorem bad6 {m : Mo} (hm : ∀ d ∈ m.decs, mayD d = true) (hu : ∀ i, i < m.decs.length → dupB (·.name) m.decs i = false) {i : Nat} (hi : i < m.decs.length) : badN m i 6 = atE (entries m) (fun x => reachB (entries m) x.said x.at_) i := by
  obtain ⟨d, hd⟩ := dec_at hi
  have hmd := hm d (List.mem_of_getElem? hd)
  unfold badN
  rw [hd, atE_some (entries_at hd)]
  simp only [if_neg (show ¬ (6 : Int) = 5 by decide), if_neg (show ¬ (6 : Int) = 4 by decide), if_pos]
  rcases mayD_sorts hmd with ⟨k, e, -⟩ | ⟨k, -⟩ | ⟨k, -⟩
  · rw [e, said_noT]
    have h1 : (d.kind == 3) = false := by rcases k with k | k <;> rw [k] <;> rfl
    rw [h1, Bool.false_and]
    cases h2 : reachB (entries m) [] i with
    | false => rfl
    | true => exact absurd (reachB_iff.1 h2) (fun h => reach_nil h)
  · have h1 : typAt m d.name = some i := (typAt_iff hu).2 ⟨d, hd, by simp [isTyp, k]⟩
    rw [k, h1]
    rfl
  · have h1 : (d.kind == 3) = false := by rw [k]; rfl
    rw [h1, Bool.false_and]
    cases h2 : reachB (entries m) (saidT m d.typ) i with
    | false => rfl
    | true =>
      obtain ⟨e, he, hk⟩ := reach_typ (reachB_iff.1 h2)
      rw [hd] at he
      cases he
      exact absurd k hk
theorem bad10 {m : Mo} {i : Nat} (hi : i < m.decs.length) : badN m i 10 = atE (entries m) (fun x => hidB (entries m) x.said) i := by
  obtain ⟨d, hd⟩ := dec_at hi
  unfold badN
  rw [hd, atE_some (entries_at hd)]
  rfl

/-- The codes, in their order. -/
def codeN (c : Nat) : Int := if c = 0 then 5 else if c = 1 then 4 else if c = 2 then 6 else 10
/-- What the reference's Check tells. -/
def RkOut (m : Mo) (b p : Int) : Prop := (mayM m = false ∧ b = 1 ∧ p = -1) ∨ (mayM m = true ∧ match check7 m with | none => b = 0 ∧ p = -1 | some (i, c) => b = c ∧ p = i)
theorem rk_imp {m : Mo} (hm : mayM m = true) {i : Nat} (hi : i < m.imps.length) (hno : ∀ j, j < i → dupB (·.asn) m.imps j = false) (h : dupB (·.asn) m.imps i = true) : RkOut m 5 i := by
  refine .inr ⟨hm, ?_⟩
  have e : check7 m = some ((i : Int), 5) := by
    unfold check7 faults7
    rw [fstN_yes hi hno h]
    simp
  rw [e]
  exact ⟨rfl, rfl⟩
theorem fst_part {m : Mo} (hm : mayM m = true) (c : Nat) (hc : c < 4) (hu : c = 2 → ∀ i, i < m.decs.length → dupB (·.name) m.decs i = false) : (faults7 m)[c + 1]? = some (fstN (fun i => badN m i (codeN c)) m.decs.length, codeN c) := by
  have hd := (mayM_parts hm).2.2.2
  have ext : ∀ (p q : Nat → Bool) (n : Nat), (∀ i, i < n → p i = q i) → fstN p n = fstN q n := by
    intro p q n h
    unfold fstN
    have : (List.range n).find? p = (List.range n).find? q := by
      have key : ∀ l : List Nat, (∀ i ∈ l, p i = q i) → l.find? p = l.find? q := by
        intro l
        induction l with
        | nil => intro _; rfl
        | cons a r ih =>
          intro h
          rw [List.find?_cons, List.find?_cons, h a List.mem_cons_self, ih (fun i hi => h i (List.mem_cons_of_mem _ hi))]
      exact key _ (fun i hi => h i (List.mem_range.1 hi))
    rw [this]
  have h4 : c = 0 ∨ c = 1 ∨ c = 2 ∨ c = 3 := by omega
  rcases h4 with rfl | rfl | rfl | rfl
  · show _ = some (fstN (fun i => badN m i 5) m.decs.length, (5 : Int))
    rw [ext _ _ _ (fun i hi => bad5 hd hi)]
    rfl
  · show _ = some (fstN (fun i => badN m i 4) m.decs.length, (4 : Int))
    rw [ext _ _ _ (fun i hi => bad4 hd hi)]
    show some (fstN (atE (entries m) (fun x => !x.whole)) (entries m).length, (4 : Int)) = _
    rw [entries_len]
  · show _ = some (fstN (fun i => badN m i 6) m.decs.length, (6 : Int))
    rw [ext _ _ _ (fun i hi => bad6 hd (hu rfl) hi)]
    show some (fstN (atE (entries m) (fun x => reachB (entries m) x.said x.at_)) (entries m).length, (6 : Int)) = _
    rw [entries_len]
  · show _ = some (fstN (fun i => badN m i 10) m.decs.length, (10 : Int))
    rw [ext _ _ _ (fun i hi => bad10 hi)]
    show some (fstN (atE (entries m) (fun x => hidB (entries m) x.said)) (entries m).length, (10 : Int)) = _
    rw [entries_len]
theorem rk_pre {m : Mo} (hm : mayM m = true) (hno : ∀ j, j < m.imps.length → dupB (·.asn) m.imps j = false) (c : Nat) (hc : c ≤ 4) (h : ∀ c', c' < c → ∀ i, i < m.decs.length → badN m i (codeN c') = false) : ∀ y ∈ (faults7 m).take (c + 1), (!decide (0 ≤ y.1)) = true := by
  have hu : 0 < c → ∀ i, i < m.decs.length → dupB (·.name) m.decs i = false := fun h0 i hi => by
    rw [← bad5 (mayM_parts hm).2.2.2 hi]; exact h 0 h0 i hi
  intro y hy
  obtain ⟨j, hj⟩ := List.mem_iff_getElem?.1 hy
  rw [List.getElem?_take] at hj
  split at hj
  · rename_i hlt
    cases j with
    | zero =>
      have e : (faults7 m)[0]? = some (fstN (dupB (·.asn) m.imps) m.imps.length, 5) := rfl
      rw [e, fstN_no hno] at hj
      cases hj; rfl
    | succ j =>
      rw [fst_part hm j (by omega) (fun e => hu (by omega)), fstN_no (h j (by omega))] at hj
      cases hj; rfl
  · cases hj
theorem rk_dec {m : Mo} (hm : mayM m = true) (hno : ∀ j, j < m.imps.length → dupB (·.asn) m.imps j = false) {c i : Nat} (hc : c < 4) (h : ∀ c', c' < c → ∀ i, i < m.decs.length → badN m i (codeN c') = false)
    (hi : i < m.decs.length) (hni : ∀ j, j < i → badN m j (codeN c) = false) (hb : badN m i (codeN c) = true) : RkOut m (codeN c) i := by
  refine .inr ⟨hm, ?_⟩
  have hu : 0 < c → ∀ i, i < m.decs.length → dupB (·.name) m.decs i = false := fun h0 i hi => by
    rw [← bad5 (mayM_parts hm).2.2.2 hi]; exact h 0 h0 i hi
  have e : check7 m = some ((i : Int), codeN c) := by
    refine find_at (k := c + 1) ?_ (rk_pre hm hno c (by omega) h) (by simp)
    rw [fst_part hm c hc (fun e => hu (by omega)), fstN_yes hi hni hb]
  rw [e]
  exact ⟨rfl, rfl⟩
theorem rk_none {m : Mo} (hm : mayM m = true) (hno : ∀ j, j < m.imps.length → dupB (·.asn) m.imps j = false) (h : ∀ c', c' < 4 → ∀ i, i < m.decs.length → badN m i (codeN c') = false) : RkOut m 0 (-1) := by
  refine .inr ⟨hm, ?_⟩
  have e : check7 m = none := by
    refine List.find?_eq_none.2 fun x hx => ?_
    have := rk_pre hm hno 4 (Nat.le_refl _) h x (by rw [List.take_of_length_le (by simp [faults7])]; exact hx)
    simpa using this
  rw [e]
  exact ⟨rfl, rfl⟩

end Go.Proofs.YtapjhmfbmkckaaaGreatDoor

/- append of a row of one's own onto another, however many. Nothing of any program. -/
namespace Go.Proofs.YtapjhmfbmkckaaaGreatDoor
open Go Go.RowKit
open Go.Sort

section
variable {P : Program} {w : World}
theorem run_append_rows (base base2 : Nat) (t ty e : TypeId) (i : TypeInfo) (z : Value) (size bytes : Nat) (ht : P.underlying t = some (.slice e)) (hi : P.info? e = some i) (hz : i.zero = some z)
    (hsize : i.size = size) (hby : i.bytes = bytes) (hzs : z.cells.size = size) (hsz : 0 < size)
    (v : Value) (n : Nat) (xs : List Value) (hown : w.ownsRow base e size v n xs) (vx : Value) (m : Nat) (ys : List Value) (hx : w.ownsRow base2 e size vx m ys) (h1 : ∀ u ∈ ys, u.oneCell' = true)
    (h63 : n + m ≤ maxLen) (hbytes : (n + m) * bytes ≤ 140737488355328) (hbase : base ≤ w.heap.size) :
    ∃ v' w', (Builtin.append_ #[t, t] ty #[v, vx]).run P w = .ok v' w' ∧ w'.ownsRow base e size v' (n + m) (xs ++ ys) ∧ w.grownBy w' v.ownBlock := by
  rcases hx.2 with ⟨rfl, rfl⟩ | ⟨g, cap, cur, rfl, hB, hg, hnc, hcm, hcs, htake⟩
  · have hy : ys = [] := List.length_eq_zero_iff.1 (by have := hx.1; simpa using this)
    subst hy
    exact ⟨v, w, run_append_empty base t ty e i size ht hi v n 0 xs hown, by rw [List.append_nil]; exact hown, ⟨rfl, rfl, rfl, Nat.le_refl _, fun _ _ _ => rfl⟩⟩
  · obtain ⟨v', w', hr, h2, h3, -, -⟩ := run_append_own_at (P := P) w base t ty e i z size bytes ht hi hz hsize hby hzs hsz v n xs hown ⟨g, 0, none⟩ m cap ys hx.1 (fun j u hj => by
      rw [WideShapes.add_plain, Nat.zero_add, Lib.cell_of_heap hg, ← Array.getElem?_toList]
      have e : (cur.toList.take (m * size))[j]? = some u := by rw [htake, hj]
      rw [List.getElem?_take] at e
      split at e
      · exact e
      · cases e) h1 h63 hbytes hbase
    exact ⟨v', w', hr, h2, h3⟩
theorem wp_append_rows {o : Oper} {a : Act} {K : Act → World → Prop} {Q : Exit → Act → World → Prop} (s x : Operand) (t : TypeId)
    (ho : o.op = .call { callee := .builtin .append, args := #[s, x], argTypes := #[t, t] })
    (base base2 : Nat) (e : TypeId) (i : TypeInfo) (z : Value) (size bytes : Nat) (ht : P.underlying t = some (.slice e)) (hi : P.info? e = some i) (hz : i.zero = some z)
    (hsize : i.size = size) (hby : i.bytes = bytes) (hzs : z.cells.size = size) (hsz : 0 < size)
    (v : Value) (n : Nat) (xs : List Value) (hs : a.eval s = v) (hown : w.ownsRow base e size v n xs) (vx : Value) (m : Nat) (ys : List Value) (hxe : a.eval x = vx) (hx : w.ownsRow base2 e size vx m ys) (h1 : ∀ u ∈ ys, u.oneCell' = true)
    (h63 : n + m ≤ maxLen) (hbytes : (n + m) * bytes ≤ 140737488355328) (hbase : base ≤ w.heap.size)
    (h : ∀ v' w', w'.ownsRow base e size v' (n + m) (xs ++ ys) → w.grownBy w' v.ownBlock → K (a.put o.dst v') w') : o.wp P a w K Q := by
  obtain ⟨v', w', hr, h2, h3⟩ := run_append_rows (P := P) base base2 t o.type e i z size bytes ht hi hz hsize hby hzs hsz v n xs hown vx m ys hx h1 h63 hbytes hbase
  unfold Oper.wp execOp
  simp only [ho, resolve, invoke, builtin, Sem.run_bind, Sem.run_pure, Result.andThen_ok, List.map_toArray, List.map_cons, List.map_nil, hs, hxe, hr]
  exact h v' w' h2 h3
theorem wpList_append_rows {ops : Array Oper} {rest : List Oper} {o : Oper} {a : Act} {Q : Exit → Act → World → Prop} (hgd : o.guard = none) (s x : Operand) (t : TypeId)
    (ho : o.op = .call { callee := .builtin .append, args := #[s, x], argTypes := #[t, t] })
    (base base2 : Nat) (e : TypeId) (i : TypeInfo) (z : Value) (size bytes : Nat) (ht : P.underlying t = some (.slice e)) (hi : P.info? e = some i) (hz : i.zero = some z)
    (hsize : i.size = size) (hby : i.bytes = bytes) (hzs : z.cells.size = size) (hsz : 0 < size)
    (v : Value) (n : Nat) (xs : List Value) (hs : a.eval s = v) (hown : w.ownsRow base e size v n xs) (vx : Value) (m : Nat) (ys : List Value) (hxe : a.eval x = vx) (hx : w.ownsRow base2 e size vx m ys) (h1 : ∀ u ∈ ys, u.oneCell' = true)
    (h63 : n + m ≤ maxLen) (hbytes : (n + m) * bytes ≤ 140737488355328) (hbase : base ≤ w.heap.size)
    (h : ∀ v' w', w'.ownsRow base e size v' (n + m) (xs ++ ys) → w.grownBy w' v.ownBlock → wpList P ops Q rest (a.put o.dst v') w') : wpList P ops Q (o :: rest) a w :=
  wpList_plain hgd fun _ hK => wp_append_rows s x t ho base base2 e i z size bytes ht hi hz hsize hby hzs hsz v n xs hs hown vx m ys hxe hx h1 h63 hbytes hbase fun v' w' h2 h3 => hK _ _ (h v' w' h2 h3)
end
/-- What is grown so leaves all that lies lower as it was. -/
theorem below_grown {B : Nat} {w w1 w2 : World} {v : Value} {e : TypeId} {z n : Nat} {xs : List Value} (hb : Below B w w1) (hB : B ≤ w1.heap.size) (hown : w1.ownsRow B e z v n xs) (hg : w1.grownBy w2 v.ownBlock) : Below B w w2 :=
  hb.trans ⟨hg.os, hg.tape, hg.output, hg.size, fun b h => hg.block b (Nat.lt_of_lt_of_le h hB) (fun e => by have := (hown.lt b e.symm).1; omega)⟩

end Go.Proofs.YtapjhmfbmkckaaaGreatDoor

/- The reference of layer 7: all Locals of a type. -/
namespace Go.Proofs.YtapjhmfbmkckaaaGreatDoor
open Go.RowKit Go.Shelf
open Go.Sort Go.Maps
open M

/-- Seven cells that are a type's, whatever lies behind its slices. -/
def ShL (l : List Value) (t : Ty) : Prop := ∃ (An : Option Addr) (cn : Nat) (As : Option Addr) (cs : Nat), l = [.int .i64 t.kind, .string t.pkg, .int .i64 t.major, .string t.mod, .string t.name, .slice An t.names.length cn, .slice As t.subs.length cs]
theorem ShL.one {l : List Value} {t : Ty} (h : ShL l t) : ∀ u ∈ l, u.oneCell' = true := by
  obtain ⟨An, cn, As, cs, rfl⟩ := h
  intro u hu
  simp at hu
  rcases hu with rfl | rfl | rfl | rfl | rfl | rfl | rfl <;> rfl
/-- Types in cells of one's own. -/
def OwnL (w : World) (lo : Nat) (v : Value) (xs : List Ty) : Prop :=
  ∃ C : List (List Value), C.length = xs.length ∧ (∀ l, l ∈ C → l.length = 7) ∧ w.ownsRow lo 29 7 v xs.length C.flatten ∧ ∀ (i : Nat) (l : List Value) (x : Ty), C[i]? = some l → xs[i]? = some x → ShL l x
theorem OwnL.nil (w : World) (lo : Nat) : OwnL w lo (.slice none 0 0) [] := ⟨[], rfl, fun l h => (by cases h), World.ownsRow_nil _ _ _ _, fun i l x h => by simp at h⟩
theorem OwnL.keep {w w' : World} {lo : Nat} {v : Value} {xs : List Ty} (h : OwnL w lo v xs) (hb : ∀ b, lo ≤ b → b < w.heap.size → w'.heap[b]? = w.heap[b]?) : OwnL w' lo v xs := by
  obtain ⟨C, h1, h2, h3, h4⟩ := h
  exact ⟨C, h1, h2, own_from h3 hb, h4⟩
theorem OwnL.mono {w : World} {lo lo' : Nat} {v : Value} {xs : List Ty} (h : OwnL w lo v xs) (hl : lo' ≤ lo) : OwnL w lo' v xs := by
  obtain ⟨C, h1, h2, h3, h4⟩ := h
  refine ⟨C, h1, h2, ⟨h3.1, ?_⟩, h4⟩
  rcases h3.2 with h | ⟨g, cap, cur, hv, hB, rest⟩
  · exact .inl h
  · exact .inr ⟨g, cap, cur, hv, Nat.le_trans hl hB, rest⟩
theorem OwnL.joined {w : World} {lo : Nat} {v : Value} {xs ys : List Ty} {C D : List (List Value)} (h1 : C.length = xs.length) (h2 : ∀ l, l ∈ C → l.length = 7) (h4 : ∀ (i : Nat) (l : List Value) (x : Ty), C[i]? = some l → xs[i]? = some x → ShL l x)
    (k1 : D.length = ys.length) (k2 : ∀ l, l ∈ D → l.length = 7) (k4 : ∀ (i : Nat) (l : List Value) (x : Ty), D[i]? = some l → ys[i]? = some x → ShL l x) (hown : w.ownsRow lo 29 7 v (xs.length + ys.length) (C.flatten ++ D.flatten)) : OwnL w lo v (xs ++ ys) := by
  refine ⟨C ++ D, by simp [h1, k1], fun l hl => ?_, by rw [List.length_append, List.flatten_append]; exact hown, fun i l x hl hx => ?_⟩
  · rcases List.mem_append.1 hl with h | h
    · exact h2 l h
    · exact k2 l h
  · rcases Nat.lt_or_ge i xs.length with hi | hi
    · rw [List.getElem?_append_left (by omega)] at hl hx
      exact h4 i l x hl hx
    · rw [List.getElem?_append_right (by omega)] at hl hx
      rw [h1] at hl
      exact k4 _ l x hl hx
/-- The cells of one that is there. -/
theorem OwnL.get {w : World} {lo : Nat} {A : Option Addr} {n c : Nat} {xs : List Ty} (h : OwnL w lo (.slice A n c) xs) {i : Nat} {x : Ty} (hx : xs[i]? = some x) : ∃ (g : Nat) (An : Option Addr) (cn : Nat) (As : Option Addr) (cs : Nat), A = some ⟨g, 0, none⟩ ∧ lo ≤ g ∧ g < w.heap.size ∧
    ∀ (j : Nat) (v : Value), ([.int .i64 x.kind, .string x.pkg, .int .i64 x.major, .string x.mod, .string x.name, .slice An x.names.length cn, .slice As x.subs.length cs] : List Value)[j]? = some v → w.cell? ⟨g, i * 7 + j, none⟩ = some v := by
  obtain ⟨C, h1, h2, h3, h4⟩ := h
  have hi := (List.getElem?_eq_some_iff.1 hx).1
  have hli : C[i]? = some C[i] := List.getElem?_eq_getElem (by omega)
  obtain ⟨An, cn, As, cs, e⟩ := h4 i _ x hli hx
  rcases h3.2 with ⟨e, h0⟩ | ⟨g, cap, cur, hv, hB, hg, -, -, hcl, htake⟩
  · omega
  · cases hv
    refine ⟨g, An, cn, As, cs, rfl, hB, (Array.getElem?_eq_some_iff.1 hg).1, fun j v hv => ?_⟩
    rw [← e] at hv
    have hj := (List.getElem?_eq_some_iff.1 hv).1
    rw [h2 _ (List.getElem_mem (by omega))] at hj
    have hf := flatk_at C h2 i j _ hli hj
    rw [Lib.cell_of_heap hg, ← Array.getElem?_toList]
    have e2 : (cur.toList.take (xs.length * 7))[i * 7 + j]? = C[i][j]? := by rw [htake, hf]
    rw [List.getElem?_take] at e2
    split at e2
    · rw [e2]; exact hv
    · omega

set_option maxRecDepth 100000 in
set_option maxHeartbeats 8000000 in
theorem rlocals_any (N : Nat) : ∀ (t : Ty), many t ≤ N → many t ≤ 9000 → ∀ (v : Value) (w : World), TyV w v t →
    Calls Tryz.prog 71 #[v] w fun e w' => ∃ v' : Value, e = .returned v' ∧ OwnL w' w.heap.size v' (locT t) ∧ Below w.heap.size w w' := by
  induction N with
  | zero => intro t h; have := many_pos t; omega
  | succ N ih =>
  intro t hN hM v w hv
  obtain ⟨l, rfl, hT⟩ := hv
  obtain ⟨An, cn, As, cs, rfl, -, -, -, -, hz, -, hS⟩ := hT.parts
  obtain ⟨W1, hW1⟩ : ∃ W1, W1 = w.alloc (.cells #[.int .i64 t.kind, .string t.pkg, .int .i64 t.major, .string t.mod, .string t.name, .slice An t.names.length cn, .slice As t.subs.length cs] 29) := ⟨_, rfl⟩
  have hB : Below w.heap.size w W1 := by rw [hW1]; exact below_new (Below.refl _ _) _
  have X1 : W1.heap[w.heap.size]? = some (.cells #[.int .i64 t.kind, .string t.pkg, .int .i64 t.major, .string t.mod, .string t.name, .slice An t.names.length cn, .slice As t.subs.length cs] 29 (0, 0)) := by rw [hW1]; exact heap_alloc_new w _
  have hlo : w.heap.size < W1.heap.size := by rw [hW1]; simp
  have HS := Lib.hid (hS.below hB)
  have HB := Lib.hid hB
  have HW1 := Lib.hid hW1
  have HX1 := Lib.hid X1
  have HMN : Hid (∀ s ∈ t.subs, many s ≤ N ∧ many s ≤ 9000) := Lib.hid (fun s hs => by have h1 := manyL_mem _ _ hs; have h2 := manyL_eq t; omega)
  have hml : t.subs.length ≤ 9000 := by have := manyL_len t.subs; have := manyL_eq t; omega
  obtain ⟨L0, hL0⟩ : ∃ L0, L0 = (if t.kind = 8 then [t] else []) := ⟨_, rfl⟩
  have RS : Hid (locT t = L0 ++ locL t.subs) := Lib.hid (by rw [hL0]; exact locT_eq t)
  have HLN : Hid (∀ k, (L0 ++ locL (t.subs.take k)).length ≤ 9000) := Lib.hid (fun k => by
    have h1 := locT_len t
    rw [RS.out] at h1
    have h2 : locL t.subs = locL (t.subs.take k) ++ locL (t.subs.drop k) := by rw [← locL_append, List.take_append_drop]
    rw [h2, ← List.append_assoc, List.length_append] at h1
    omega)
  obtain ⟨q, hq⟩ : ∃ q, q = t.subs.length := ⟨_, rfl⟩
  have HQ := Lib.hid hq
  rw [← hq] at hml
  obtain ⟨i0, hi, hz0, hz1, hz2⟩ := info_parts typ_info
  clear hT hS hB hW1 X1 hN hM hz hq
  have X1 := HX1.out
  have y0 := Lib.cell_of_heap X1 0
  have y1 := Lib.cell_of_heap X1 1
  have y2 := Lib.cell_of_heap X1 2
  have y3 := Lib.cell_of_heap X1 3
  have y4 := Lib.cell_of_heap X1 4
  have y5 := Lib.cell_of_heap X1 5
  have y6 := Lib.cell_of_heap X1 6
  simp at y0 y1 y2 y3 y4 y5 y6
  clear X1
  by_cases hk : t.kind = 8
  · have q8 : (t.kind == 8) = true := by rw [hk]; rfl
    rw [if_pos hk] at hL0
    clear hk
    go_enter Tryz.func71, Tryz.ntmps71
    go_upto_region 3 with fail
    rw [← HW1.out]
    have hAL : ∀ oo, W1.heap.size ≤ (W1.alloc oo).heap.size := fun oo => by simp
    go_wp2_with (first | (refine wpList_append_lies _ rfl (.tmp 8) (.tmp 10) 27 rfl W1.heap.size 29 i0 _ 7 112 Tryz.underlying27 hi hz0 hz1 hz2 (by rfl) (by decide) (.slice none 0 0) 0 [] rfl (World.ownsRow_nil _ _ _ _) ⟨W1.heap.size, 0, none⟩ 1 1 [.int .i64 t.kind, .string t.pkg, .int .i64 t.major, .string t.mod, .string t.name, .slice An t.names.length cn, .slice As t.subs.length cs] rfl rfl (fun p u hq => by rw [WideShapes.add_plain, Nat.zero_add, Lib.cell_of_heap (heap_alloc_new W1 _), ← hq, ← List.getElem?_toArray]) (fun u hu => by simp at hu; rcases hu with rfl | rfl | rfl | rfl | rfl | rfl | rfl <;> rfl) Nat.one_pos (by unfold maxLen; omega) (by omega) (hAL _) _ rfl ?_; intro gb cap w3 hown hgrow hat hlt3))
    have START : Hid (OwnL w3 W1.heap.size (.slice (some ⟨gb, 0, none⟩) 1 cap) (L0 ++ locL (t.subs.take 0))) := Lib.hid (by
      rw [hL0]
      exact ⟨[[.int .i64 t.kind, .string t.pkg, .int .i64 t.major, .string t.mod, .string t.name, .slice An t.names.length cn, .slice As t.subs.length cs]], rfl, fun l hl => by rw [List.mem_singleton.1 hl]; rfl, hown, fun i l x hl hx => by
        have hi0 : i = 0 := by have := (List.getElem?_eq_some_iff.1 hl).1; simp at this; exact this
        subst hi0
        simp [locL] at hl hx
        rw [← hl, ← hx]; exact ⟨An, cn, As, cs, rfl⟩⟩)
    have STARTB : Hid (Below W1.heap.size W1 w3) := Lib.hid ⟨hgrow.os, hgrow.tape, hgrow.output, Nat.le_trans (by simp) hgrow.size, fun b hb => (hgrow.block b (by simp; omega) (by simp [Value.ownBlock])).trans (Lib.alloc_old _ _ _ hb)⟩
    clear hown hgrow hat hlt3 hAL y0 y1 y2 y3 y4 y5 y6 q8 hL0
    go_wp2_with fail
    go_loopw [3, 4] (fun s3 iv wr => ∃ (k : Nat) (v3 : Value), v3 = s3 ∧ k ≤ q ∧ iv = .int .i64 k ∧ Hid (OwnL wr W1.heap.size v3 (L0 ++ locL (t.subs.take k))) ∧ Hid (Below W1.heap.size W1 wr)) (fun _ iv _ => q - (intOf iv).toNat)
    case atStart => exact ⟨0, _, rfl, by omega, rfl, START, STARTB⟩
    case round =>
      obtain ⟨k, v3, rfl, hkq, rfl, HO, HBo⟩ := hrel
      obtain ⟨wo, rfl⟩ : ∃ wo : World, wo = wr := ⟨_, rfl⟩
      have hl1 := Nat.lt_of_lt_of_le hlo HBo.out.size
      have y6 := Lib.cell_of_heap ((HBo.out.block w.heap.size hlo).trans HX1.out) 6
      simp at y6
      rw [← HQ.out] at y6
      by_cases hlt : k < q
      · obtain ⟨s, hs⟩ : ∃ s, t.subs[k]? = some s := ⟨_, List.getElem?_eq_getElem (by rw [← HQ.out]; exact hlt)⟩
        obtain ⟨g, o, v0, v1, v2, v3', v4, v5, v6, rfl, hg, h0, h1, h2, h3, h4, h5, h6, hs7⟩ := HS.out.below HBo.out k s hs
        obtain ⟨Am, cm, At, ct, rfl, rfl, rfl, rfl, rfl, rfl, rfl⟩ := hs7.seven
        have IH := Lib.hid (ih s (HMN.out s (List.mem_of_getElem? hs)).1 (HMN.out s (List.mem_of_getElem? hs)).2 (.agg #[.int .i64 s.kind, .string s.pkg, .int .i64 s.major, .string s.mod, .string s.name, .slice Am s.names.length cm, .slice At s.subs.length ct]) wo ⟨_, rfl, hs7⟩)
        have RL : Hid (L0 ++ locL (t.subs.take (k + 1)) = L0 ++ locL (t.subs.take k) ++ locT s) := Lib.hid (by rw [locL_take _ _ _ hs, List.append_assoc])
        have hlen := HLN.out (k + 1)
        rw [RL.out, List.length_append] at hlen
        have hk0 : (0 : Int) ≤ k := by omega
        have hk1 : (k : Int) < q := by omega
        clear hs7 hs
        go_wp2_with fail
        refine IH.out.mono ?_; rintro e w4 ⟨v', rfl, ho4, hb4⟩
        have hs4 := hb4.size
        have O4 := HO.out.keep (w' := w4) (fun b _ h => hb4.block b h)
        have HB4 : Hid (Below W1.heap.size W1 w4) := Lib.hid (below_over HBo.out hb4)
        obtain ⟨L, hL⟩ : ∃ L, L = L0 ++ locL (t.subs.take k) := ⟨_, rfl⟩
        obtain ⟨P, hP⟩ : ∃ P, P = locT s := ⟨_, rfl⟩
        rw [← hL] at O4 hlen RL
        rw [← hP] at ho4 hlen RL
        clear h0 h1 h2 h3 h4 h5 h6 y6 IH HO hL hP hb4
        obtain ⟨C4, c4l, c47, c4o, c4e⟩ := O4
        obtain ⟨D4, d4l, d47, d4o, d4e⟩ := ho4
        have hone : ∀ u ∈ D4.flatten, u.oneCell' = true := fun u hu => by
          obtain ⟨l, hl, hu⟩ := List.mem_flatten.1 hu
          obtain ⟨i, hi⟩ := List.mem_iff_getElem?.1 hl
          have hil := (List.getElem?_eq_some_iff.1 hi).1
          exact (d4e i l _ hi (List.getElem?_eq_getElem (by omega))).one u hu
        have hMX : L.length + P.length ≤ maxLen := by unfold maxLen; omega
        go_wp2_with (at_builtin; go_loud (refine wpList_append_rows rfl _ _ 27 rfl W1.heap.size wo.heap.size 29 i0 _ 7 112 Tryz.underlying27 hi hz0 hz1 hz2 rfl (by decide) v3 L.length C4.flatten rfl c4o v' P.length D4.flatten rfl d4o hone hMX (by omega) HB4.out.size ?_))
        intro v5 w5 hown hgrow
        have FIN : Hid (OwnL w5 W1.heap.size v5 (L0 ++ locL (t.subs.take (k + 1)))) := Lib.hid (by
          rw [RL.out]
          exact OwnL.joined c4l c47 c4e d4l d47 d4e hown)
        have FB : Hid (Below W1.heap.size W1 w5) := Lib.hid (below_grown HB4.out HB4.out.size c4o hgrow)
        clear hown hgrow
        go_wp2_with fail
        go_roundw
        case rel => exact ⟨k + 1, v5, rfl, by omega, by go_num, FIN, FB⟩
        case measure => simp [intOf]; omega
      · obtain rfl : k = q := by omega
        have hfull : t.subs.take k = t.subs := List.take_of_length_le (by rw [← HQ.out]; exact Nat.le_refl _)
        have FIN : Hid (OwnL wo w.heap.size v3 (locT t)) := Lib.hid (by rw [RS.out, ← hfull]; exact HO.out.mono (by omega))
        have FB := Lib.hid (HB.out.trans (HBo.out.mono HB.out.size))
        clear HO
        go_wp2_with fail
        go_ret
        exact ⟨_, rfl, FIN.out, FB.out⟩
  · have q8 : (t.kind == 8) = false := by simpa using hk
    rw [if_neg hk] at hL0
    clear hk
    have START : Hid (OwnL W1 W1.heap.size (.slice none 0 0) (L0 ++ locL (t.subs.take 0))) := Lib.hid (by rw [hL0]; exact OwnL.nil _ _)
    have STARTB : Hid (Below W1.heap.size W1 W1) := Lib.hid (Below.refl _ _)
    go_enter Tryz.func71, Tryz.ntmps71
    go_upto_region 2 with fail
    rw [← HW1.out]
    go_wp2_with fail
    clear y0 y1 y2 y3 y4 y5 y6 q8 hL0
    go_loopw [3, 4] (fun s3 iv wr => ∃ (k : Nat) (v3 : Value), v3 = s3 ∧ k ≤ q ∧ iv = .int .i64 k ∧ Hid (OwnL wr W1.heap.size v3 (L0 ++ locL (t.subs.take k))) ∧ Hid (Below W1.heap.size W1 wr)) (fun _ iv _ => q - (intOf iv).toNat)
    case atStart => exact ⟨0, _, rfl, by omega, rfl, START, STARTB⟩
    case round =>
      obtain ⟨k, v3, rfl, hkq, rfl, HO, HBo⟩ := hrel
      obtain ⟨wo, rfl⟩ : ∃ wo : World, wo = wr := ⟨_, rfl⟩
      have hl1 := Nat.lt_of_lt_of_le hlo HBo.out.size
      have y6 := Lib.cell_of_heap ((HBo.out.block w.heap.size hlo).trans HX1.out) 6
      simp at y6
      rw [← HQ.out] at y6
      by_cases hlt : k < q
      · obtain ⟨s, hs⟩ : ∃ s, t.subs[k]? = some s := ⟨_, List.getElem?_eq_getElem (by rw [← HQ.out]; exact hlt)⟩
        obtain ⟨g, o, v0, v1, v2, v3', v4, v5, v6, rfl, hg, h0, h1, h2, h3, h4, h5, h6, hs7⟩ := HS.out.below HBo.out k s hs
        obtain ⟨Am, cm, At, ct, rfl, rfl, rfl, rfl, rfl, rfl, rfl⟩ := hs7.seven
        have IH := Lib.hid (ih s (HMN.out s (List.mem_of_getElem? hs)).1 (HMN.out s (List.mem_of_getElem? hs)).2 (.agg #[.int .i64 s.kind, .string s.pkg, .int .i64 s.major, .string s.mod, .string s.name, .slice Am s.names.length cm, .slice At s.subs.length ct]) wo ⟨_, rfl, hs7⟩)
        have RL : Hid (L0 ++ locL (t.subs.take (k + 1)) = L0 ++ locL (t.subs.take k) ++ locT s) := Lib.hid (by rw [locL_take _ _ _ hs, List.append_assoc])
        have hlen := HLN.out (k + 1)
        rw [RL.out, List.length_append] at hlen
        have hk0 : (0 : Int) ≤ k := by omega
        have hk1 : (k : Int) < q := by omega
        clear hs7 hs
        go_wp2_with fail
        refine IH.out.mono ?_; rintro e w4 ⟨v', rfl, ho4, hb4⟩
        have hs4 := hb4.size
        have O4 := HO.out.keep (w' := w4) (fun b _ h => hb4.block b h)
        have HB4 : Hid (Below W1.heap.size W1 w4) := Lib.hid (below_over HBo.out hb4)
        obtain ⟨L, hL⟩ : ∃ L, L = L0 ++ locL (t.subs.take k) := ⟨_, rfl⟩
        obtain ⟨P, hP⟩ : ∃ P, P = locT s := ⟨_, rfl⟩
        rw [← hL] at O4 hlen RL
        rw [← hP] at ho4 hlen RL
        clear h0 h1 h2 h3 h4 h5 h6 y6 IH HO hL hP hb4
        obtain ⟨C4, c4l, c47, c4o, c4e⟩ := O4
        obtain ⟨D4, d4l, d47, d4o, d4e⟩ := ho4
        have hone : ∀ u ∈ D4.flatten, u.oneCell' = true := fun u hu => by
          obtain ⟨l, hl, hu⟩ := List.mem_flatten.1 hu
          obtain ⟨i, hi⟩ := List.mem_iff_getElem?.1 hl
          have hil := (List.getElem?_eq_some_iff.1 hi).1
          exact (d4e i l _ hi (List.getElem?_eq_getElem (by omega))).one u hu
        have hMX : L.length + P.length ≤ maxLen := by unfold maxLen; omega
        go_wp2_with (at_builtin; go_loud (refine wpList_append_rows rfl _ _ 27 rfl W1.heap.size wo.heap.size 29 i0 _ 7 112 Tryz.underlying27 hi hz0 hz1 hz2 rfl (by decide) v3 L.length C4.flatten rfl c4o v' P.length D4.flatten rfl d4o hone hMX (by omega) HB4.out.size ?_))
        intro v5 w5 hown hgrow
        have FIN : Hid (OwnL w5 W1.heap.size v5 (L0 ++ locL (t.subs.take (k + 1)))) := Lib.hid (by
          rw [RL.out]
          exact OwnL.joined c4l c47 c4e d4l d47 d4e hown)
        have FB : Hid (Below W1.heap.size W1 w5) := Lib.hid (below_grown HB4.out HB4.out.size c4o hgrow)
        clear hown hgrow
        go_wp2_with fail
        go_roundw
        case rel => exact ⟨k + 1, v5, rfl, by omega, by go_num, FIN, FB⟩
        case measure => simp [intOf]; omega
      · obtain rfl : k = q := by omega
        have hfull : t.subs.take k = t.subs := List.take_of_length_le (by rw [← HQ.out]; exact Nat.le_refl _)
        have FIN : Hid (OwnL wo w.heap.size v3 (locT t)) := Lib.hid (by rw [RS.out, ← hfull]; exact HO.out.mono (by omega))
        have FB := Lib.hid (HB.out.trans (HBo.out.mono HB.out.size))
        clear HO
        go_wp2_with fail
        go_ret
        exact ⟨_, rfl, FIN.out, FB.out⟩

end Go.Proofs.YtapjhmfbmkckaaaGreatDoor
