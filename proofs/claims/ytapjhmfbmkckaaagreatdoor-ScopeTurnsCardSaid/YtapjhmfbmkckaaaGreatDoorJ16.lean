/-
  Several texts in one: The walk of ScopeTurns: whatever module, whatever place. · The bounds of an int that is handed in. · The library's variable errors.errorType: what a row's list gives of it; a world for the witnesses in which it lies as the program's text lays it. · The last step of a law's row, over any program: a call that answers true and leaves all old memory as it was meets 'every argument reads as it read'. Nothing of this program is in it. · errors.As at an error that is a Code, and at none; what the laws ask of a Code, of a Spot, of none. · The law's own question, which Code an error is: none, or a Code. · The law's own question, which Code an error is or tells of, and at which place.
-/
import Derived.Test.YtapjhmfbmkckaaaGreatDoorJ15
import Derived.Test.YtapjhmfbmkckaaaGreatDoorJ02
import Derived.Test.YtapjhmfbmkckaaaGreatDoorRows
import Derived.Test.YtapjhmfbmkckaaaGreatDoorJ09
import Derived.LaidLaws
import Derived.LaidHandle
import Derived.Stop.LaidErr
import Derived.Stop.Joined
import Derived.Deep.DeepHandedRow
import Derived.ProofKit
import Derived.OpenShut
import Derived.Lib.SmallJoins
import Derived.Below
import Derived.Carry
import Derived.ChangeSame
import Derived.WideKeyArgs
import Derived.Lib.QuietBelow
import Derived.BigQuiet
import Derived.LoopTactic
import Derived.Deep.DeepCutAuto
import Derived.Deep.CutBlock
/- The walk of ScopeTurns: whatever module, whatever place. -/
namespace Go.Proofs.YtapjhmfbmkckaaaGreatDoor
open Go.RowKit Go.Shelf
open Go.Sort Go.Maps
open M

theorem pairs_turn {α : Type} {P : List Value → α → Prop} {C : List (List Value)} {xs : List α} (hl : C.length = xs.length) (h : ∀ (i : Nat) (l : List Value) (x : α), C[i]? = some l → xs[i]? = some x → P l x) (k : Nat) :
    ∀ (i : Nat) (l : List Value) (x : α), (C.drop k ++ C.take k)[i]? = some l → (xs.drop k ++ xs.take k)[i]? = some x → P l x := by
  intro i l x h1 h2
  rw [List.getElem?_append] at h1 h2
  rw [List.length_drop] at h1 h2
  rw [hl] at h1
  split at h1
  · rename_i hi
    rw [if_pos hi] at h2
    rw [List.getElem?_drop] at h1 h2
    exact h _ _ _ h1 h2
  · rename_i hi
    rw [if_neg hi] at h2
    rw [List.getElem?_take] at h1 h2
    split at h1
    · rename_i hj
      rw [if_pos hj] at h2
      exact h _ _ _ h1 h2
    · cases h1
theorem ck_cases {w w' : World} {m : Mo} {e : Ending} (h : CkAny w m e w') : (e = .returned .nilIface ∧ mayM m = true ∧ Ok7 m) ∨ (∃ T x, e = .returned (.iface T x) ∧ ¬ (mayM m = true ∧ Ok7 m)) := by
  rcases h with ⟨hm, rfl⟩ | ⟨hm, h⟩
  · exact .inr ⟨_, _, rfl, fun h => by rw [hm] at h; cases h.1⟩
  · unfold CkOut at h
    cases hc : check7 m with
    | none => rw [hc] at h; exact .inl ⟨h, hm, check7_none.1 hc⟩
    | some q =>
      rw [hc] at h
      obtain ⟨g, rfl, -⟩ := h
      exact .inr ⟨_, _, rfl, fun h => by have := check7_none.2 h.2; rw [hc] at this; cases this⟩

set_option maxRecDepth 100000 in
set_option maxHeartbeats 16000000 in
theorem scopeTurns_any (m : Mo) (l : List Value) (a : Int) (w : World) (hv : MoAt w l m) (hcap : CapsAt l m) (ha1 : -9223372036854775808 ≤ a) (ha2 : a ≤ 9223372036854775807) (hg : ErrT w) :
    Calls Tryz.prog 4 #[.agg l.toArray, .int .i64 a] w fun e w' => e = .returned (.bool true) ∧ Below w.heap.size w w' := by
  have HV := Lib.hid hv
  have HG := Lib.hid hg
  have HCP := Lib.hid hcap
  obtain ⟨Ai, ci, Ad, cd, rfl, -, -, -, -, -⟩ := hv
  clear hg hcap
  obtain ⟨nd, hnd⟩ : ∃ nd, nd = m.decs.length := ⟨_, rfl⟩
  have HND := Lib.hid hnd
  rw [← hnd]
  obtain ⟨wb, hwb⟩ : ∃ wb, wb = w.alloc (.cells #[.string m.name, .slice Ai m.imps.length ci, .slice Ad nd cd] 25) := ⟨_, rfl⟩
  have HBB : Hid (Below w.heap.size w wb) := Lib.hid (by rw [hwb]; exact below_new (Below.refl _ _) _)
  have HX : Hid (∀ w', Below wb.heap.size wb w' → ∀ i v, (#[.string m.name, .slice Ai m.imps.length ci, .slice Ad nd cd] : Array Value)[i]? = some v → w'.cell? ⟨w.heap.size, i, none⟩ = some v) := Lib.hid (fun w' hb i v hv => by
    have h1 : wb.heap[w.heap.size]? = some (.cells #[.string m.name, .slice Ai m.imps.length ci, .slice Ad nd cd] 25 (0, 0)) := by rw [hwb]; exact heap_alloc_new w _
    rw [(bcell hb).1 _ _ (Array.getElem?_eq_some_iff.1 h1).1, Lib.cell_of_heap h1]; exact hv)
  have HV0 : Hid (∀ w', Below wb.heap.size wb w' → MoAt w' [.string m.name, .slice Ai m.imps.length ci, .slice Ad nd cd] m) := Lib.hid (fun w' hb => by rw [hnd]; exact HV.out.below (below_over HBB.out hb))
  have HCP' : Hid (CapsAt [.string m.name, .slice Ai m.imps.length ci, .slice Ad nd cd] m) := Lib.hid (by rw [hnd]; exact HCP.out)
  have HG0 : Hid (∀ w', Below wb.heap.size wb w' → ErrT w') := Lib.hid (fun w' hb => HG.out.on (below_over HBB.out hb))
  have HWB := Lib.hid hwb
  clear hwb HV HG HCP hnd
  go_enter Tryz.func4, Tryz.ntmps4
  go_wp2_with fail
  rw [← HWB.out]
  refine (up7_any _ (HG0.out _ (Below.refl _ _))).mono ?_; rintro e w1 ⟨rfl, hb1⟩
  have HB1 := Lib.hid hb1
  clear hb1
  have x0 := HX.out w1 HB1.out 0 _ rfl
  have x1 := HX.out w1 HB1.out 1 _ rfl
  have x2 := HX.out w1 HB1.out 2 _ rfl
  go_wp2_with fail
  refine (rfew6_any m _ _ (HV0.out _ HB1.out)).mono ?_; rintro e w2 ⟨rfl, hb2⟩
  have HB2 := Lib.hid (below_over HB1.out hb2)
  clear x0 x1 x2 hb2
  rcases hid_or (fewM m) with hf | hf
  · rw [hf.out]
    go_wp2_with fail
    go_ret
    exact ⟨rfl, below_over HBB.out HB2.out⟩
  have HD := Lib.hid (few7 hf.out).2.2
  have hI100 := (few7 hf.out).1
  have hD100 := (few7 hf.out).2.1
  have hnd100 : nd ≤ 100 := by rw [HND.out]; exact hD100
  rw [hf.out]
  clear hf
  have x2 := HX.out w2 HB2.out 2 _ rfl
  by_cases hne : nd = 0
  · have he0 : ((nd : Int) == 0) = true := by rw [hne]; rfl
    clear hne
    go_wp2_with fail
    go_ret
    exact ⟨rfl, below_over HBB.out HB2.out⟩
  have he0 : ((nd : Int) == 0) = false := by simp; exact hne
  go_upto_region 5 with fail
  clear x2 he0
  by_cases ha : a < 0
  · obtain ⟨z, hz⟩ : ∃ z : Nat, -(a + 1) = (z : Int) := ⟨(-(a + 1)).toNat, by omega⟩
    have hw1 : IntKind.i64.wrap (a + 1) = a + 1 := IntWalk.i64_in _ (by omega)
    have hw2 : IntKind.i64.wrap (-(a + 1)) = (z : Int) := by rw [hz]; exact IntWalk.i64_in _ (by omega)
    obtain ⟨k, hk⟩ : ∃ k, z % nd = k := ⟨_, rfl⟩
    have hkn : k < nd := by rw [← hk]; exact Nat.mod_lt _ (by omega)
    go_upto_region 7 with fail
    clear hw1 hw2 ha
    have hrem : (z : Int).tmod (nd : Int) = (k : Int) := by rw [← Int.ofNat_tmod, hk]
    have hn0 : ¬ nd = 0 := hne
    have hz0 : ¬ (z : Int) < 0 := by omega
    have x0 := HX.out w2 HB2.out 0 _ rfl
    have x1 := HX.out w2 HB2.out 1 _ rfl
    have x2 := HX.out w2 HB2.out 2 _ rfl
    go_upto_region 8 with fail
    go_wp2_with fail
    refine (copy7_any m _ _ (HV0.out _ HB2.out) (by omega) (by omega) HD.out).mono ?_; rintro e w3 ⟨lo, rfl, hO, hOc, hb3⟩
    have HB3 := Lib.hid (below_over HB2.out hb3)
    clear x0 x1 x2 hb3 hrem hn0 hz0
    obtain ⟨Oi, oi, Od, od, rfl, zO1, zO2, zO3, hOI, hOD⟩ := hO
    rw [← HND.out]
    obtain ⟨g, o, rfl⟩ : ∃ g o, Od = some ⟨g, o, none⟩ := by
      obtain ⟨d, hd⟩ : ∃ d, m.decs[0]? = some d := ⟨_, List.getElem?_eq_getElem (by rw [← HND.out]; omega)⟩
      obtain ⟨g, o, l, e, -⟩ := hOD 0 d hd
      exact ⟨g, o, e⟩
    obtain ⟨C, hCl, hC9, hCE, hCc⟩ := hOD.lists (by decide)
    obtain ⟨g0, hg0⟩ : ∃ g0, g0 = w3.heap.size := ⟨_, rfl⟩
    have hgl : g < g0 := by
      obtain ⟨d, hd⟩ : ∃ d, m.decs[0]? = some d := ⟨_, List.getElem?_eq_getElem (by rw [← HND.out]; omega)⟩
      obtain ⟨g', o', l, e, hg, -⟩ := hOD 0 d hd
      cases e
      rw [hg0]; exact hg
    have hcaps := hOc Oi oi (some ⟨g, o, none⟩) od rfl
    have hod : nd ≤ od := by rw [HND.out]; exact hcaps.2
    have HCI : Hid (m.imps.length ≤ oi) := Lib.hid hcaps.1
    obtain ⟨w4, hw4⟩ : ∃ w4, w4 = w3.alloc (.cells #[.string m.name, .slice Oi m.imps.length oi, .slice (some ⟨g, o, none⟩) nd od] 25) := ⟨_, rfl⟩
    have hb4 : Below w3.heap.size w3 w4 := by rw [hw4]; exact below_new (Below.refl _ _) _
    have X4 : w4.heap[g0]? = some (.cells #[.string m.name, .slice Oi m.imps.length oi, .slice (some ⟨g, o, none⟩) nd od] 25 (0, 0)) := by rw [hw4, hg0]; exact heap_alloc_new w3 _
    have s4 : w4.heap.size = g0 + 1 := by rw [hw4, hg0]; simp
    have HX4 := Lib.hid X4
    have HB4 : Hid (Below w3.heap.size w3 w4) := Lib.hid hb4
    have HW4 := Lib.hid hw4
    have HOI := Lib.hid hOI
    have HG0' := Lib.hid hg0
    have HCE := Lib.hid hCE
    have HCc := Lib.hid hCc
    have HC9 := Lib.hid hC9
    have HCl := Lib.hid hCl
    have HS4 := Lib.hid s4
    have hk1 : (k : Int) ≤ nd := by omega
    have hk2 : (0 : Int) ≤ k := by omega
    have hk3 : (nd : Int) ≤ od := by omega
    have hk4 : k ≤ nd := by omega
    have hk5 : k ≤ od := by omega
    have hk6 : ¬ od = k := by omega
    clear hw4 hb4 X4 s4 hOI hOD hOc hcaps hg0 hCE hCc hC9 hCl
    go_upto_region 9 with fail
    rw [← HW4.out]
    have hl4 : g0 < w4.heap.size := by rw [HS4.out]; exact Nat.lt_succ_self _
    rw [← HG0'.out]
    have KEEP : Hid (∀ wx : World, Below w4.heap.size w4 wx → wx.cell? ⟨g0, 2, none⟩ = some (.slice (some ⟨g, o, none⟩) nd od)) := Lib.hid (fun wx hb => (hb.cell (p := ⟨g0, 2, none⟩) hl4).trans (Lib.cell_of_heap HX4.out 2))
    have hH0 := KEEP.out w4.drew (Below.drew (Below.refl _ _))
    refine AnyX.start (fun wx => wx.cell? ⟨g0, 2, none⟩ = some (.slice (some ⟨g, o, none⟩) nd od)) (fun k => decide (10 ≤ k)) (by kernel_rfl) ?_
    refine AnyX.move (i := 1) (v := ?_) rfl (by kernel_rfl) (by kernel_rfl) (by kernel_rfl) (by kernel_rfl) (fun _ _ _ h => h) (Or.inl ⟨by rfl, ?_⟩) ?_
    rotate_left
    · (intro wS _; go_simp; try with_reducible rfl)
    simp only [List.getElem_toArray, List.getElem_cons_succ, List.getElem_cons_zero]
    simp only [Act.put, List.setIfInBounds_toArray]
    simp only [List.set_cons_zero, List.set_cons_succ]
    refine AnyX.take (i := 2) (v := ?_) rfl (by kernel_rfl) (by kernel_rfl) (by kernel_rfl) (by kernel_rfl) (by kernel_rfl) (fun _ _ _ h => h) hH0 (Or.inl ⟨by rfl, ?_⟩) ?_
    rotate_left
    · (intro wS hS; (try obtain c0 := hS); go_simp; try with_reducible rfl)
    simp only [List.getElem_toArray, List.getElem_cons_succ, List.getElem_cons_zero]
    simp only [Act.put, List.setIfInBounds_toArray]
    simp only [List.set_cons_zero, List.set_cons_succ]
    refine AnyX.move (i := 3) (v := ?_) rfl (by kernel_rfl) (by kernel_rfl) (by kernel_rfl) (by kernel_rfl) (fun _ _ _ h => h) (Or.inl ⟨by rfl, ?_⟩) ?_
    rotate_left
    · (intro wS _; go_simp; try with_reducible rfl)
    simp only [List.getElem_toArray, List.getElem_cons_succ, List.getElem_cons_zero]
    simp only [Act.put, List.setIfInBounds_toArray]
    simp only [List.set_cons_zero, List.set_cons_succ]
    refine AnyX.move (i := 4) (v := ?_) rfl (by kernel_rfl) (by kernel_rfl) (by kernel_rfl) (by kernel_rfl) (fun _ _ _ h => h) (Or.inl ⟨by rfl, ?_⟩) ?_
    rotate_left
    · (intro wS _; go_simp; try with_reducible rfl)
    simp only [List.getElem_toArray, List.getElem_cons_succ, List.getElem_cons_zero]
    simp only [Act.put, List.setIfInBounds_toArray]
    simp only [List.set_cons_zero, List.set_cons_succ]
    refine AnyX.move (i := 6) (v := ?_) rfl (by kernel_rfl) (by kernel_rfl) (by kernel_rfl) (by kernel_rfl) (fun _ _ _ h => h) (Or.inl ⟨by rfl, ?_⟩) ?_
    rotate_left
    · (intro wS _; go_simp; try with_reducible rfl)
    simp only [List.getElem_toArray, List.getElem_cons_succ, List.getElem_cons_zero]
    simp only [Act.put, List.setIfInBounds_toArray]
    simp only [List.set_cons_zero, List.set_cons_succ]
    refine AnyX.take (i := 7) (v := ?_) rfl (by kernel_rfl) (by kernel_rfl) (by kernel_rfl) (by kernel_rfl) (by kernel_rfl) (fun _ _ _ h => h) hH0 (Or.inl ⟨by rfl, ?_⟩) ?_
    rotate_left
    · (intro wS hS; (try obtain c0 := hS); go_simp; try with_reducible rfl)
    simp only [List.getElem_toArray, List.getElem_cons_succ, List.getElem_cons_zero]
    simp only [Act.put, List.setIfInBounds_toArray]
    simp only [List.set_cons_zero, List.set_cons_succ]
    refine AnyX.move (i := 8) (v := ?_) rfl (by kernel_rfl) (by kernel_rfl) (by kernel_rfl) (by kernel_rfl) (fun _ _ _ h => h) (Or.inl ⟨by rfl, ?_⟩) ?_
    rotate_left
    · (intro wS _; go_simp; try with_reducible rfl)
    simp only [List.getElem_toArray, List.getElem_cons_succ, List.getElem_cons_zero]
    simp only [Act.put, List.setIfInBounds_toArray]
    simp only [List.set_cons_zero, List.set_cons_succ]
    refine AnyX.move (i := 9) (v := ?_) rfl (by kernel_rfl) (by kernel_rfl) (by kernel_rfl) (by kernel_rfl) (fun _ _ _ h => h) (Or.inl ⟨by rfl, ?_⟩) ?_
    rotate_left
    · (intro wS _; go_simp; try with_reducible rfl)
    simp only [List.getElem_toArray, List.getElem_cons_succ, List.getElem_cons_zero]
    simp only [Act.put, List.setIfInBounds_toArray]
    simp only [List.set_cons_zero, List.set_cons_succ]
    clear hH0
    obtain ⟨inf, hi1, hy0, hy1, hy2⟩ := info_parts dec_info
    have own0 : (w4.drew.alloc (.cells #[] 45)).ownsRow w4.heap.size 45 9 (.slice (some ⟨w4.heap.size, 0, none⟩) 0 0) 0 [] := World.ownsRow_lit (base := w4.heap.size) (e := 45) (size := 9) w4.drew #[] 0 (Nat.le_refl _) (by decide) rfl
    have hlCd : (C.drop k).flatten.length = (nd - k) * 9 := by rw [flatC_len _ (fun l hl => HC9.out l (List.mem_of_mem_drop hl)), List.length_drop, HCl.out, ← HND.out]; rfl
    have hlCt : (C.take k).flatten.length = k * 9 := by rw [flatC_len _ (fun l hl => HC9.out l (List.mem_of_mem_take hl)), List.length_take, HCl.out, ← HND.out, Nat.min_eq_left hk4]; rfl
    have hcell : ∀ wx : World, Below w4.heap.size w4 wx → ∀ j u, C.flatten[j]? = some u → wx.cell? ⟨g, o + j, none⟩ = some u := fun wx hb j u hu => by
      have h3 := HCc.out j u hu
      have hb' : Below w3.heap.size w3 wx := below_over HB4.out hb
      exact (hb'.cell (p := ⟨g, o + j, none⟩) (by rw [← HG0'.out]; exact hgl)).trans h3
    have hone : ∀ u ∈ C.flatten, u.oneCell' = true := fun u hu => by
      obtain ⟨l, hl, hu⟩ := List.mem_flatten.1 hu
      obtain ⟨i, hi⟩ := List.mem_iff_getElem?.1 hl
      have hil := (List.getElem?_eq_some_iff.1 hi).1
      rw [HCl.out] at hil
      exact de_one (HCE.out i l _ hi (List.getElem?_eq_getElem hil)) u hu
    refine AnyX.go 0 (by kernel_rfl) rfl rfl (fun K hK => ?_)
    simp only [List.getElem_toArray, List.getElem_cons_succ, List.getElem_cons_zero]
    go_simp
    refine hK.out _ _ (fun hoff _ => KEEP.out _ (below_new (Below.drew (Below.refl _ _)) _)) ?_
    clear hK
    try simp only [Act.put, List.setIfInBounds_toArray]
    try simp only [List.set_cons_zero, List.set_cons_succ]
    refine AnyX.go 5 (by kernel_rfl) rfl rfl (fun K hK => ?_)
    simp only [List.getElem_toArray, List.getElem_cons_succ, List.getElem_cons_zero]
    refine wp_append_own _ (.tmp 35) (.tmp 39) 23 rfl w4.heap.size 45 inf _ 9 136 Tryz.underlying23 hi1 hy0 hy1 hy2 (by rfl) (Nat.zero_lt_succ 8) (.slice (some ⟨w4.heap.size, 0, none⟩) 0 0) 0 [] rfl own0 _ (nd - k) _ (C.drop k).flatten rfl hlCd (fun j u hu => ?_) (fun u hu => ?_) ?_ ?_ ?_ ?_
    · rw [flat_drop (k := 9) HC9.out k (by rw [HCl.out, ← HND.out]; exact hk4)] at hu
      have := hcell _ (below_new (Below.drew (Below.refl _ _)) (.cells #[] 45)) _ _ hu
      rw [← Nat.add_assoc] at this
      rw [WideShapes.add_plain]
      exact this
    · obtain ⟨l, hl, hu⟩ := List.mem_flatten.1 hu
      exact hone u (List.mem_flatten.2 ⟨l, List.mem_of_mem_drop hl, hu⟩)
    · unfold maxLen; omega
    · omega
    · simp
    intro v5 w5 hown5 hgrow5 hat5
    rw [Nat.zero_add, List.nil_append] at hown5
    have hb5 : Below w4.heap.size w4 w5 := (below_new (Below.drew (Below.refl _ _)) (.cells #[] 45)).trans ⟨hgrow5.os, hgrow5.tape, hgrow5.output, hgrow5.size, fun b hb => hgrow5.block b (by simp; omega) (by simp [Value.ownBlock]; omega)⟩
    have HB5 := Lib.hid hb5
    have hlow5 : ∀ b, v5.ownBlock = some b → w4.heap.size ≤ b := fun b e => (hown5.lt b e).1
    clear hgrow5 hat5 own0 hb5
    refine hK.out _ _ (fun hoff _ => KEEP.out _ HB5.out) ?_
    clear hK
    try simp only [Act.put, List.setIfInBounds_toArray]
    try simp only [List.set_cons_zero, List.set_cons_succ]
    refine AnyX.go 10 (by kernel_rfl) rfl rfl (fun K hK => ?_)
    simp only [List.getElem_toArray, List.getElem_cons_succ, List.getElem_cons_zero]
    refine wp_append_own _ (.tmp 40) (.tmp 44) 23 rfl w4.heap.size 45 inf _ 9 136 Tryz.underlying23 hi1 hy0 hy1 hy2 (by rfl) (Nat.zero_lt_succ 8) v5 (nd - k) _ rfl hown5 _ k _ (C.take k).flatten rfl hlCt (fun j u hu => ?_) (fun u hu => ?_) ?_ ?_ ?_ ?_
    · have := hcell _ HB5.out _ _ (flat_take k j u hu)
      rw [WideShapes.add_plain]
      exact this
    · obtain ⟨l, hl, hu⟩ := List.mem_flatten.1 hu
      exact hone u (List.mem_flatten.2 ⟨l, List.mem_of_mem_take hl, hu⟩)
    · unfold maxLen; omega
    · omega
    · exact HB5.out.size
    intro v6 w6 hown6 hgrow6 hat6
    rw [show nd - k + k = nd by omega, ← List.flatten_append] at hown6
    have HB6 : Hid (Below w4.heap.size w4 w6) := Lib.hid (HB5.out.trans ⟨hgrow6.os, hgrow6.tape, hgrow6.output, hgrow6.size, fun b hb => hgrow6.block b (by have := HB5.out.size; omega) (fun e => by have := hlow5 b e.symm; omega)⟩)
    have HO6 := Lib.hid hown6
    clear hgrow6 hat6 hown5 hown6 hlow5 hone hcell hlCd hlCt hi1 hy0 hy1 hy2
    obtain ⟨A6, c6, rfl⟩ := own_slice HO6.out
    refine hK.out _ _ (fun hoff _ => absurd hoff (by decide)) ?_
    clear hK
    try simp only [Act.put, List.setIfInBounds_toArray]
    try simp only [List.set_cons_zero, List.set_cons_succ]
    have X6 := (HB6.out.block _ hl4).trans HX4.out
    have z6 := Lib.cell_of_heap X6 2
    have y6 := Lib.frozen_of_heap X6 2
    simp at z6
    refine AnyX.move (i := 11) (v := ?_) rfl (by kernel_rfl) (by kernel_rfl) (by kernel_rfl) (by kernel_rfl) (fun _ _ _ h => h) (Or.inl ⟨by rfl, ?_⟩) ?_
    rotate_left
    · (intro wS _; go_simp; try with_reducible rfl)
    simp only [List.getElem_toArray, List.getElem_cons_succ, List.getElem_cons_zero]
    simp only [Act.put, List.setIfInBounds_toArray]
    simp only [List.set_cons_zero, List.set_cons_succ]
    refine AnyX.go 12 (by kernel_rfl) rfl rfl (fun K hK => ?_)
    simp only [List.getElem_toArray, List.getElem_cons_succ, List.getElem_cons_zero]
    go_simp
    obtain ⟨w7, hw7⟩ : ∃ w7, w7 = w6.setCell ⟨g0, 2, none⟩ (.slice A6 nd c6) := ⟨_, rfl⟩
    have ot : ∀ b, b ≠ g0 → w7.heap[b]? = w6.heap[b]? := fun b hb => by rw [hw7]; exact Below.heap_setCell _ _ _ _ (by show b ≠ g0; exact hb)
    have HB7 : Hid (Below w3.heap.size w3 w7) := Lib.hid (by rw [hw7]; exact (below_over HB4.out HB6.out).setCell (by show w3.heap.size ≤ g0; rw [HG0'.out]; exact Nat.le_refl _) _)
    have HX7 : Hid (w7.heap[g0]? = some (.cells #[.string m.name, .slice Oi m.imps.length oi, .slice A6 nd c6] 25 (0, 0))) := Lib.hid (by
      have := Joins.block_setCell (i := 2) X6 (.slice A6 nd c6)
      rw [hw7]; simpa using this)
    have HNM : Hid (MoAt w7 [.string m.name, .slice Oi m.imps.length oi, .slice A6 nd c6] (turned m k)) := Lib.hid (by
      have hlt : (turned m k).decs.length = nd := by rw [turned_len m k (by rw [← HND.out]; exact hk4), ← HND.out]
      have own7 : w7.ownsRow w4.heap.size 45 9 (.slice A6 nd c6) nd (C.drop k ++ C.take k).flatten := own_from HO6.out (fun b hb _ => ot b (by have := HS4.out; omega))
      refine ⟨Oi, oi, A6, c6, by rw [hlt]; rfl, zO1, zO2, by rw [hlt]; omega, HOI.out.below HB7.out, ?_⟩
      have := RowIn.of_own (R := deR) (xs := (turned m k).decs) (c := c6) (A := A6) (C := C.drop k ++ C.take k) (by rw [hlt]; exact own7) (by rw [hlt, List.length_append, List.length_drop, List.length_take, HCl.out, ← HND.out]; omega)
        (fun l hl => by rcases List.mem_append.1 hl with h | h; exact HC9.out l (List.mem_of_mem_drop h); exact HC9.out l (List.mem_of_mem_take h)) (fun i l x hl hx => deR.keep _ _ _ _ (pairs_turn HCl.out HCE.out k i l x hl hx) HB7.out)
      exact this)
    have HNC : Hid (CapsAt [.string m.name, .slice Oi m.imps.length oi, .slice A6 nd c6] (turned m k)) := Lib.hid (by
      have hlt : (turned m k).decs.length = nd := by rw [turned_len m k (by rw [← HND.out]; exact hk4), ← HND.out]
      exact CapsAt.of (m := turned m k) HCI.out (by rw [hlt]; exact own_cap HO6.out) hlt.symm)
    rw [← hw7]
    have HB37 : Hid (Below wb.heap.size wb w7) := Lib.hid (below_over HB3.out HB7.out)
    clear hw7 ot X6 z6 y6 HO6 HB6 HB5 HX4 KEEP
    refine hK.out _ _ (fun hoff _ => absurd hoff (by decide)) ?_
    clear hK
    try simp only [Act.put, List.setIfInBounds_toArray]
    try simp only [List.set_cons_zero, List.set_cons_succ]
    refine AnyX.done (by kernel_rfl) ?_ _
    have HTD : Hid (∀ d ∈ (turned m k).decs, many d.typ ≤ 9000) := Lib.hid (fun d hd => by
      refine (HD.out d ?_).1
      rcases List.mem_append.1 hd with h | h
      · exact List.mem_of_mem_drop h
      · exact List.mem_of_mem_take h)
    have hl7 : g0 < w7.heap.size := (Array.getElem?_eq_some_iff.1 HX7.out).1
    clear HB7 HB4 HW4 HCE HCc HC9 HCl HS4 HOI HCI
    have x0 := HX.out w7 HB37.out 0 _ rfl
    have x1 := HX.out w7 HB37.out 1 _ rfl
    have x2 := HX.out w7 HB37.out 2 _ rfl
    go_wp2_with fail
    refine (check7_any m _ w7 (HV0.out _ HB37.out) (fun d hd => (HD.out d hd).1) HCP'.out).mono ?_; rintro e w8 ⟨hck, hb8⟩
    have HB8 := Lib.hid (below_over HB37.out hb8)
    have HX8 := Lib.hid ((hb8.block _ hl7).trans HX7.out)
    have HNM8 := Lib.hid (HNM.out.below hb8)
    clear x0 x1 x2 hb8 HX7 HNM
    have y0 := Lib.cell_of_heap HX8.out 0
    have y1 := Lib.cell_of_heap HX8.out 1
    have y2 := Lib.cell_of_heap HX8.out 2
    simp at y0 y1 y2
    have HCK := Lib.hid (ck_cases hck)
    clear hck
    have TOK := Lib.hid (turned_ok m k (by rw [← HND.out]; exact hkn))
    have TMA := Lib.hid (turned_may m k (by rw [← HND.out]; exact hk4))
    rcases HCK.out with ⟨rfl, hm, ok⟩ | ⟨T, x, rfl, hno⟩
    · have HMO := Lib.hid (And.intro hm ok)
      clear hm ok HCK
      go_wp2_with fail
      refine (check7_any (turned m k) _ w8 HNM8.out HTD.out HNC.out).mono ?_; rintro e w9 ⟨hck, hb9⟩
      rcases ck_cases hck with ⟨rfl, hm, ok⟩ | ⟨T, x, rfl, hno⟩
      rotate_left
      · exact absurd ⟨by rw [TMA.out]; exact HMO.out.1, TOK.out.2 HMO.out.2⟩ hno
      have HB9 := Lib.hid (below_over HB8.out hb9)
      clear hck hb9 hm ok y0 y1 y2
      go_wp2_with fail
      go_quiet (fail)
      go_wp2_with fail
      go_ret
      exact ⟨rfl, below_drewN (below_over HBB.out HB9.out) _⟩
    · have HNO := Lib.hid hno
      clear hno HCK
      go_wp2_with fail
      refine (check7_any (turned m k) _ w8 HNM8.out HTD.out HNC.out).mono ?_; rintro e w9 ⟨hck, hb9⟩
      rcases ck_cases hck with ⟨rfl, hm, ok⟩ | ⟨T2, x2, rfl, hno⟩
      · exact absurd ⟨by rw [← TMA.out]; exact hm, TOK.out.1 ok⟩ HNO.out
      have HB9 := Lib.hid (below_over HB8.out hb9)
      clear hck hb9 hno y0 y1 y2
      go_wp2_with fail
      go_quiet (fail)
      go_wp2_with fail
      go_ret
      exact ⟨rfl, below_drewN (below_over HBB.out HB9.out) _⟩
  · obtain ⟨z, hz⟩ : ∃ z : Nat, a = (z : Int) := ⟨a.toNat, by omega⟩
    subst hz
    obtain ⟨k, hk⟩ : ∃ k, z % nd = k := ⟨_, rfl⟩
    have hkn : k < nd := by rw [← hk]; exact Nat.mod_lt _ (by omega)
    go_upto_region 7 with fail
    clear ha
    have hrem : (z : Int).tmod (nd : Int) = (k : Int) := by rw [← Int.ofNat_tmod, hk]
    have hn0 : ¬ nd = 0 := hne
    have hz0 : ¬ (z : Int) < 0 := by omega
    have x0 := HX.out w2 HB2.out 0 _ rfl
    have x1 := HX.out w2 HB2.out 1 _ rfl
    have x2 := HX.out w2 HB2.out 2 _ rfl
    go_upto_region 8 with fail
    go_wp2_with fail
    refine (copy7_any m _ _ (HV0.out _ HB2.out) (by omega) (by omega) HD.out).mono ?_; rintro e w3 ⟨lo, rfl, hO, hOc, hb3⟩
    have HB3 := Lib.hid (below_over HB2.out hb3)
    clear x0 x1 x2 hb3 hrem hn0 hz0
    obtain ⟨Oi, oi, Od, od, rfl, zO1, zO2, zO3, hOI, hOD⟩ := hO
    rw [← HND.out]
    obtain ⟨g, o, rfl⟩ : ∃ g o, Od = some ⟨g, o, none⟩ := by
      obtain ⟨d, hd⟩ : ∃ d, m.decs[0]? = some d := ⟨_, List.getElem?_eq_getElem (by rw [← HND.out]; omega)⟩
      obtain ⟨g, o, l, e, -⟩ := hOD 0 d hd
      exact ⟨g, o, e⟩
    obtain ⟨C, hCl, hC9, hCE, hCc⟩ := hOD.lists (by decide)
    obtain ⟨g0, hg0⟩ : ∃ g0, g0 = w3.heap.size := ⟨_, rfl⟩
    have hgl : g < g0 := by
      obtain ⟨d, hd⟩ : ∃ d, m.decs[0]? = some d := ⟨_, List.getElem?_eq_getElem (by rw [← HND.out]; omega)⟩
      obtain ⟨g', o', l, e, hg, -⟩ := hOD 0 d hd
      cases e
      rw [hg0]; exact hg
    have hcaps := hOc Oi oi (some ⟨g, o, none⟩) od rfl
    have hod : nd ≤ od := by rw [HND.out]; exact hcaps.2
    have HCI : Hid (m.imps.length ≤ oi) := Lib.hid hcaps.1
    obtain ⟨w4, hw4⟩ : ∃ w4, w4 = w3.alloc (.cells #[.string m.name, .slice Oi m.imps.length oi, .slice (some ⟨g, o, none⟩) nd od] 25) := ⟨_, rfl⟩
    have hb4 : Below w3.heap.size w3 w4 := by rw [hw4]; exact below_new (Below.refl _ _) _
    have X4 : w4.heap[g0]? = some (.cells #[.string m.name, .slice Oi m.imps.length oi, .slice (some ⟨g, o, none⟩) nd od] 25 (0, 0)) := by rw [hw4, hg0]; exact heap_alloc_new w3 _
    have s4 : w4.heap.size = g0 + 1 := by rw [hw4, hg0]; simp
    have HX4 := Lib.hid X4
    have HB4 : Hid (Below w3.heap.size w3 w4) := Lib.hid hb4
    have HW4 := Lib.hid hw4
    have HOI := Lib.hid hOI
    have HG0' := Lib.hid hg0
    have HCE := Lib.hid hCE
    have HCc := Lib.hid hCc
    have HC9 := Lib.hid hC9
    have HCl := Lib.hid hCl
    have HS4 := Lib.hid s4
    have hk1 : (k : Int) ≤ nd := by omega
    have hk2 : (0 : Int) ≤ k := by omega
    have hk3 : (nd : Int) ≤ od := by omega
    have hk4 : k ≤ nd := by omega
    have hk5 : k ≤ od := by omega
    have hk6 : ¬ od = k := by omega
    clear hw4 hb4 X4 s4 hOI hOD hOc hcaps hg0 hCE hCc hC9 hCl
    go_upto_region 9 with fail
    rw [← HW4.out]
    have hl4 : g0 < w4.heap.size := by rw [HS4.out]; exact Nat.lt_succ_self _
    rw [← HG0'.out]
    have KEEP : Hid (∀ wx : World, Below w4.heap.size w4 wx → wx.cell? ⟨g0, 2, none⟩ = some (.slice (some ⟨g, o, none⟩) nd od)) := Lib.hid (fun wx hb => (hb.cell (p := ⟨g0, 2, none⟩) hl4).trans (Lib.cell_of_heap HX4.out 2))
    have hH0 := KEEP.out w4.drew (Below.drew (Below.refl _ _))
    refine AnyX.start (fun wx => wx.cell? ⟨g0, 2, none⟩ = some (.slice (some ⟨g, o, none⟩) nd od)) (fun k => decide (10 ≤ k)) (by kernel_rfl) ?_
    refine AnyX.move (i := 1) (v := ?_) rfl (by kernel_rfl) (by kernel_rfl) (by kernel_rfl) (by kernel_rfl) (fun _ _ _ h => h) (Or.inl ⟨by rfl, ?_⟩) ?_
    rotate_left
    · (intro wS _; go_simp; try with_reducible rfl)
    simp only [List.getElem_toArray, List.getElem_cons_succ, List.getElem_cons_zero]
    simp only [Act.put, List.setIfInBounds_toArray]
    simp only [List.set_cons_zero, List.set_cons_succ]
    refine AnyX.take (i := 2) (v := ?_) rfl (by kernel_rfl) (by kernel_rfl) (by kernel_rfl) (by kernel_rfl) (by kernel_rfl) (fun _ _ _ h => h) hH0 (Or.inl ⟨by rfl, ?_⟩) ?_
    rotate_left
    · (intro wS hS; (try obtain c0 := hS); go_simp; try with_reducible rfl)
    simp only [List.getElem_toArray, List.getElem_cons_succ, List.getElem_cons_zero]
    simp only [Act.put, List.setIfInBounds_toArray]
    simp only [List.set_cons_zero, List.set_cons_succ]
    refine AnyX.move (i := 3) (v := ?_) rfl (by kernel_rfl) (by kernel_rfl) (by kernel_rfl) (by kernel_rfl) (fun _ _ _ h => h) (Or.inl ⟨by rfl, ?_⟩) ?_
    rotate_left
    · (intro wS _; go_simp; try with_reducible rfl)
    simp only [List.getElem_toArray, List.getElem_cons_succ, List.getElem_cons_zero]
    simp only [Act.put, List.setIfInBounds_toArray]
    simp only [List.set_cons_zero, List.set_cons_succ]
    refine AnyX.move (i := 4) (v := ?_) rfl (by kernel_rfl) (by kernel_rfl) (by kernel_rfl) (by kernel_rfl) (fun _ _ _ h => h) (Or.inl ⟨by rfl, ?_⟩) ?_
    rotate_left
    · (intro wS _; go_simp; try with_reducible rfl)
    simp only [List.getElem_toArray, List.getElem_cons_succ, List.getElem_cons_zero]
    simp only [Act.put, List.setIfInBounds_toArray]
    simp only [List.set_cons_zero, List.set_cons_succ]
    refine AnyX.move (i := 6) (v := ?_) rfl (by kernel_rfl) (by kernel_rfl) (by kernel_rfl) (by kernel_rfl) (fun _ _ _ h => h) (Or.inl ⟨by rfl, ?_⟩) ?_
    rotate_left
    · (intro wS _; go_simp; try with_reducible rfl)
    simp only [List.getElem_toArray, List.getElem_cons_succ, List.getElem_cons_zero]
    simp only [Act.put, List.setIfInBounds_toArray]
    simp only [List.set_cons_zero, List.set_cons_succ]
    refine AnyX.take (i := 7) (v := ?_) rfl (by kernel_rfl) (by kernel_rfl) (by kernel_rfl) (by kernel_rfl) (by kernel_rfl) (fun _ _ _ h => h) hH0 (Or.inl ⟨by rfl, ?_⟩) ?_
    rotate_left
    · (intro wS hS; (try obtain c0 := hS); go_simp; try with_reducible rfl)
    simp only [List.getElem_toArray, List.getElem_cons_succ, List.getElem_cons_zero]
    simp only [Act.put, List.setIfInBounds_toArray]
    simp only [List.set_cons_zero, List.set_cons_succ]
    refine AnyX.move (i := 8) (v := ?_) rfl (by kernel_rfl) (by kernel_rfl) (by kernel_rfl) (by kernel_rfl) (fun _ _ _ h => h) (Or.inl ⟨by rfl, ?_⟩) ?_
    rotate_left
    · (intro wS _; go_simp; try with_reducible rfl)
    simp only [List.getElem_toArray, List.getElem_cons_succ, List.getElem_cons_zero]
    simp only [Act.put, List.setIfInBounds_toArray]
    simp only [List.set_cons_zero, List.set_cons_succ]
    refine AnyX.move (i := 9) (v := ?_) rfl (by kernel_rfl) (by kernel_rfl) (by kernel_rfl) (by kernel_rfl) (fun _ _ _ h => h) (Or.inl ⟨by rfl, ?_⟩) ?_
    rotate_left
    · (intro wS _; go_simp; try with_reducible rfl)
    simp only [List.getElem_toArray, List.getElem_cons_succ, List.getElem_cons_zero]
    simp only [Act.put, List.setIfInBounds_toArray]
    simp only [List.set_cons_zero, List.set_cons_succ]
    clear hH0
    obtain ⟨inf, hi1, hy0, hy1, hy2⟩ := info_parts dec_info
    have own0 : (w4.drew.alloc (.cells #[] 45)).ownsRow w4.heap.size 45 9 (.slice (some ⟨w4.heap.size, 0, none⟩) 0 0) 0 [] := World.ownsRow_lit (base := w4.heap.size) (e := 45) (size := 9) w4.drew #[] 0 (Nat.le_refl _) (by decide) rfl
    have hlCd : (C.drop k).flatten.length = (nd - k) * 9 := by rw [flatC_len _ (fun l hl => HC9.out l (List.mem_of_mem_drop hl)), List.length_drop, HCl.out, ← HND.out]; rfl
    have hlCt : (C.take k).flatten.length = k * 9 := by rw [flatC_len _ (fun l hl => HC9.out l (List.mem_of_mem_take hl)), List.length_take, HCl.out, ← HND.out, Nat.min_eq_left hk4]; rfl
    have hcell : ∀ wx : World, Below w4.heap.size w4 wx → ∀ j u, C.flatten[j]? = some u → wx.cell? ⟨g, o + j, none⟩ = some u := fun wx hb j u hu => by
      have h3 := HCc.out j u hu
      have hb' : Below w3.heap.size w3 wx := below_over HB4.out hb
      exact (hb'.cell (p := ⟨g, o + j, none⟩) (by rw [← HG0'.out]; exact hgl)).trans h3
    have hone : ∀ u ∈ C.flatten, u.oneCell' = true := fun u hu => by
      obtain ⟨l, hl, hu⟩ := List.mem_flatten.1 hu
      obtain ⟨i, hi⟩ := List.mem_iff_getElem?.1 hl
      have hil := (List.getElem?_eq_some_iff.1 hi).1
      rw [HCl.out] at hil
      exact de_one (HCE.out i l _ hi (List.getElem?_eq_getElem hil)) u hu
    refine AnyX.go 0 (by kernel_rfl) rfl rfl (fun K hK => ?_)
    simp only [List.getElem_toArray, List.getElem_cons_succ, List.getElem_cons_zero]
    go_simp
    refine hK.out _ _ (fun hoff _ => KEEP.out _ (below_new (Below.drew (Below.refl _ _)) _)) ?_
    clear hK
    try simp only [Act.put, List.setIfInBounds_toArray]
    try simp only [List.set_cons_zero, List.set_cons_succ]
    refine AnyX.go 5 (by kernel_rfl) rfl rfl (fun K hK => ?_)
    simp only [List.getElem_toArray, List.getElem_cons_succ, List.getElem_cons_zero]
    refine wp_append_own _ (.tmp 35) (.tmp 39) 23 rfl w4.heap.size 45 inf _ 9 136 Tryz.underlying23 hi1 hy0 hy1 hy2 (by rfl) (Nat.zero_lt_succ 8) (.slice (some ⟨w4.heap.size, 0, none⟩) 0 0) 0 [] rfl own0 _ (nd - k) _ (C.drop k).flatten rfl hlCd (fun j u hu => ?_) (fun u hu => ?_) ?_ ?_ ?_ ?_
    · rw [flat_drop (k := 9) HC9.out k (by rw [HCl.out, ← HND.out]; exact hk4)] at hu
      have := hcell _ (below_new (Below.drew (Below.refl _ _)) (.cells #[] 45)) _ _ hu
      rw [← Nat.add_assoc] at this
      rw [WideShapes.add_plain]
      exact this
    · obtain ⟨l, hl, hu⟩ := List.mem_flatten.1 hu
      exact hone u (List.mem_flatten.2 ⟨l, List.mem_of_mem_drop hl, hu⟩)
    · unfold maxLen; omega
    · omega
    · simp
    intro v5 w5 hown5 hgrow5 hat5
    rw [Nat.zero_add, List.nil_append] at hown5
    have hb5 : Below w4.heap.size w4 w5 := (below_new (Below.drew (Below.refl _ _)) (.cells #[] 45)).trans ⟨hgrow5.os, hgrow5.tape, hgrow5.output, hgrow5.size, fun b hb => hgrow5.block b (by simp; omega) (by simp [Value.ownBlock]; omega)⟩
    have HB5 := Lib.hid hb5
    have hlow5 : ∀ b, v5.ownBlock = some b → w4.heap.size ≤ b := fun b e => (hown5.lt b e).1
    clear hgrow5 hat5 own0 hb5
    refine hK.out _ _ (fun hoff _ => KEEP.out _ HB5.out) ?_
    clear hK
    try simp only [Act.put, List.setIfInBounds_toArray]
    try simp only [List.set_cons_zero, List.set_cons_succ]
    refine AnyX.go 10 (by kernel_rfl) rfl rfl (fun K hK => ?_)
    simp only [List.getElem_toArray, List.getElem_cons_succ, List.getElem_cons_zero]
    refine wp_append_own _ (.tmp 40) (.tmp 44) 23 rfl w4.heap.size 45 inf _ 9 136 Tryz.underlying23 hi1 hy0 hy1 hy2 (by rfl) (Nat.zero_lt_succ 8) v5 (nd - k) _ rfl hown5 _ k _ (C.take k).flatten rfl hlCt (fun j u hu => ?_) (fun u hu => ?_) ?_ ?_ ?_ ?_
    · have := hcell _ HB5.out _ _ (flat_take k j u hu)
      rw [WideShapes.add_plain]
      exact this
    · obtain ⟨l, hl, hu⟩ := List.mem_flatten.1 hu
      exact hone u (List.mem_flatten.2 ⟨l, List.mem_of_mem_take hl, hu⟩)
    · unfold maxLen; omega
    · omega
    · exact HB5.out.size
    intro v6 w6 hown6 hgrow6 hat6
    rw [show nd - k + k = nd by omega, ← List.flatten_append] at hown6
    have HB6 : Hid (Below w4.heap.size w4 w6) := Lib.hid (HB5.out.trans ⟨hgrow6.os, hgrow6.tape, hgrow6.output, hgrow6.size, fun b hb => hgrow6.block b (by have := HB5.out.size; omega) (fun e => by have := hlow5 b e.symm; omega)⟩)
    have HO6 := Lib.hid hown6
    clear hgrow6 hat6 hown5 hown6 hlow5 hone hcell hlCd hlCt hi1 hy0 hy1 hy2
    obtain ⟨A6, c6, rfl⟩ := own_slice HO6.out
    refine hK.out _ _ (fun hoff _ => absurd hoff (by decide)) ?_
    clear hK
    try simp only [Act.put, List.setIfInBounds_toArray]
    try simp only [List.set_cons_zero, List.set_cons_succ]
    have X6 := (HB6.out.block _ hl4).trans HX4.out
    have z6 := Lib.cell_of_heap X6 2
    have y6 := Lib.frozen_of_heap X6 2
    simp at z6
    refine AnyX.move (i := 11) (v := ?_) rfl (by kernel_rfl) (by kernel_rfl) (by kernel_rfl) (by kernel_rfl) (fun _ _ _ h => h) (Or.inl ⟨by rfl, ?_⟩) ?_
    rotate_left
    · (intro wS _; go_simp; try with_reducible rfl)
    simp only [List.getElem_toArray, List.getElem_cons_succ, List.getElem_cons_zero]
    simp only [Act.put, List.setIfInBounds_toArray]
    simp only [List.set_cons_zero, List.set_cons_succ]
    refine AnyX.go 12 (by kernel_rfl) rfl rfl (fun K hK => ?_)
    simp only [List.getElem_toArray, List.getElem_cons_succ, List.getElem_cons_zero]
    go_simp
    obtain ⟨w7, hw7⟩ : ∃ w7, w7 = w6.setCell ⟨g0, 2, none⟩ (.slice A6 nd c6) := ⟨_, rfl⟩
    have ot : ∀ b, b ≠ g0 → w7.heap[b]? = w6.heap[b]? := fun b hb => by rw [hw7]; exact Below.heap_setCell _ _ _ _ (by show b ≠ g0; exact hb)
    have HB7 : Hid (Below w3.heap.size w3 w7) := Lib.hid (by rw [hw7]; exact (below_over HB4.out HB6.out).setCell (by show w3.heap.size ≤ g0; rw [HG0'.out]; exact Nat.le_refl _) _)
    have HX7 : Hid (w7.heap[g0]? = some (.cells #[.string m.name, .slice Oi m.imps.length oi, .slice A6 nd c6] 25 (0, 0))) := Lib.hid (by
      have := Joins.block_setCell (i := 2) X6 (.slice A6 nd c6)
      rw [hw7]; simpa using this)
    have HNM : Hid (MoAt w7 [.string m.name, .slice Oi m.imps.length oi, .slice A6 nd c6] (turned m k)) := Lib.hid (by
      have hlt : (turned m k).decs.length = nd := by rw [turned_len m k (by rw [← HND.out]; exact hk4), ← HND.out]
      have own7 : w7.ownsRow w4.heap.size 45 9 (.slice A6 nd c6) nd (C.drop k ++ C.take k).flatten := own_from HO6.out (fun b hb _ => ot b (by have := HS4.out; omega))
      refine ⟨Oi, oi, A6, c6, by rw [hlt]; rfl, zO1, zO2, by rw [hlt]; omega, HOI.out.below HB7.out, ?_⟩
      have := RowIn.of_own (R := deR) (xs := (turned m k).decs) (c := c6) (A := A6) (C := C.drop k ++ C.take k) (by rw [hlt]; exact own7) (by rw [hlt, List.length_append, List.length_drop, List.length_take, HCl.out, ← HND.out]; omega)
        (fun l hl => by rcases List.mem_append.1 hl with h | h; exact HC9.out l (List.mem_of_mem_drop h); exact HC9.out l (List.mem_of_mem_take h)) (fun i l x hl hx => deR.keep _ _ _ _ (pairs_turn HCl.out HCE.out k i l x hl hx) HB7.out)
      exact this)
    have HNC : Hid (CapsAt [.string m.name, .slice Oi m.imps.length oi, .slice A6 nd c6] (turned m k)) := Lib.hid (by
      have hlt : (turned m k).decs.length = nd := by rw [turned_len m k (by rw [← HND.out]; exact hk4), ← HND.out]
      exact CapsAt.of (m := turned m k) HCI.out (by rw [hlt]; exact own_cap HO6.out) hlt.symm)
    rw [← hw7]
    have HB37 : Hid (Below wb.heap.size wb w7) := Lib.hid (below_over HB3.out HB7.out)
    clear hw7 ot X6 z6 y6 HO6 HB6 HB5 HX4 KEEP
    refine hK.out _ _ (fun hoff _ => absurd hoff (by decide)) ?_
    clear hK
    try simp only [Act.put, List.setIfInBounds_toArray]
    try simp only [List.set_cons_zero, List.set_cons_succ]
    refine AnyX.done (by kernel_rfl) ?_ _
    have HTD : Hid (∀ d ∈ (turned m k).decs, many d.typ ≤ 9000) := Lib.hid (fun d hd => by
      refine (HD.out d ?_).1
      rcases List.mem_append.1 hd with h | h
      · exact List.mem_of_mem_drop h
      · exact List.mem_of_mem_take h)
    have hl7 : g0 < w7.heap.size := (Array.getElem?_eq_some_iff.1 HX7.out).1
    clear HB7 HB4 HW4 HCE HCc HC9 HCl HS4 HOI HCI
    have x0 := HX.out w7 HB37.out 0 _ rfl
    have x1 := HX.out w7 HB37.out 1 _ rfl
    have x2 := HX.out w7 HB37.out 2 _ rfl
    go_wp2_with fail
    refine (check7_any m _ w7 (HV0.out _ HB37.out) (fun d hd => (HD.out d hd).1) HCP'.out).mono ?_; rintro e w8 ⟨hck, hb8⟩
    have HB8 := Lib.hid (below_over HB37.out hb8)
    have HX8 := Lib.hid ((hb8.block _ hl7).trans HX7.out)
    have HNM8 := Lib.hid (HNM.out.below hb8)
    clear x0 x1 x2 hb8 HX7 HNM
    have y0 := Lib.cell_of_heap HX8.out 0
    have y1 := Lib.cell_of_heap HX8.out 1
    have y2 := Lib.cell_of_heap HX8.out 2
    simp at y0 y1 y2
    have HCK := Lib.hid (ck_cases hck)
    clear hck
    have TOK := Lib.hid (turned_ok m k (by rw [← HND.out]; exact hkn))
    have TMA := Lib.hid (turned_may m k (by rw [← HND.out]; exact hk4))
    rcases HCK.out with ⟨rfl, hm, ok⟩ | ⟨T, x, rfl, hno⟩
    · have HMO := Lib.hid (And.intro hm ok)
      clear hm ok HCK
      go_wp2_with fail
      refine (check7_any (turned m k) _ w8 HNM8.out HTD.out HNC.out).mono ?_; rintro e w9 ⟨hck, hb9⟩
      rcases ck_cases hck with ⟨rfl, hm, ok⟩ | ⟨T, x, rfl, hno⟩
      rotate_left
      · exact absurd ⟨by rw [TMA.out]; exact HMO.out.1, TOK.out.2 HMO.out.2⟩ hno
      have HB9 := Lib.hid (below_over HB8.out hb9)
      clear hck hb9 hm ok y0 y1 y2
      go_wp2_with fail
      go_quiet (fail)
      go_wp2_with fail
      go_ret
      exact ⟨rfl, below_drewN (below_over HBB.out HB9.out) _⟩
    · have HNO := Lib.hid hno
      clear hno HCK
      go_wp2_with fail
      refine (check7_any (turned m k) _ w8 HNM8.out HTD.out HNC.out).mono ?_; rintro e w9 ⟨hck, hb9⟩
      rcases ck_cases hck with ⟨rfl, hm, ok⟩ | ⟨T2, x2, rfl, hno⟩
      · exact absurd ⟨by rw [← TMA.out]; exact hm, TOK.out.1 ok⟩ HNO.out
      have HB9 := Lib.hid (below_over HB8.out hb9)
      clear hck hb9 hno y0 y1 y2
      go_wp2_with fail
      go_quiet (fail)
      go_wp2_with fail
      go_ret
      exact ⟨rfl, below_drewN (below_over HBB.out HB9.out) _⟩

end Go.Proofs.YtapjhmfbmkckaaaGreatDoor

/- The bounds of an int that is handed in. -/
namespace Go.Proofs.YtapjhmfbmkckaaaGreatDoor
open Go Go.RowKit

theorem wf_bd {n : Int} (h : (Lit.int .i64 n).wf = true) : -9223372036854775808 ≤ n ∧ n ≤ 9223372036854775807 := by
  simp [Lit.wf, IntKind.min, IntKind.max, IntKind.signed, IntKind.bits] at h
  omega

end Go.Proofs.YtapjhmfbmkckaaaGreatDoor

/- The library's variable errors.errorType: what a row's list gives of it; a world for the witnesses in which it lies as the program's text lays it. -/
namespace Go.Proofs.YtapjhmfbmkckaaaGreatDoor
open Go Go.ChangeShapes Go.WideShapes Go.ChangeAt Go.RowKit

theorem own : ownKnob Tryz.prog.godebug = none := by kernel_rfl
theorem laidOut : laidOutB Tryz.prog = true := by kernel_rfl
theorem errVar : Tryz.prog.globalNamed "errors.errorType" = some 0 := by kernel_rfl
theorem errRt : (Tryz.prog.cutTypes.find? (·.1 == "internal/reflectlite.rtype")).map (·.2) = some 194 := by kernel_rfl
theorem errRow : ((List.range 274).filter fun t => Tryz.prog.rowNamed t [101, 114, 114, 111, 114]) = [34] := by kernel_rfl
theorem typesSize : Tryz.prog.types.size = 274 := by kernel_rfl

/-- What the list gives a walk: the variable's one cell. -/
theorem errT_of {W : World} {l : List (String × DataW Unit)} (hl : l = [("errors.errorType", Rows.laid_errors_errorType)]) (h : laidMetH Tryz.prog l W) : ErrT W := by
  subst hl
  have h' : laidMet Tryz.prog [] W ∧ handlesMet Tryz.prog [("errors.errorType", Rows.laid_errors_errorType)] W := h
  obtain ⟨name, u, ty, e1, e2, e3, e4, e5⟩ := h'.2 _ (List.mem_singleton.2 rfl)
  have en : name = [101, 114, 114, 111, 114] := (Option.some.inj e1).symm
  subst en
  obtain rfl := Option.some.inj (errRt.symm.trans e2)
  have hm : ty ∈ (List.range 274).filter fun t => Tryz.prog.rowNamed t [101, 114, 114, 111, 114] := List.mem_filter.2 ⟨List.mem_range.2 (by rw [← typesSize]; exact e3), e4⟩
  rw [errRow] at hm
  obtain rfl := List.mem_singleton.1 hm
  have hh : typeHandle Tryz.prog 34 = .pointer (some ⟨4, 34, none⟩) := by kernel_rfl
  rw [hh] at e5
  unfold ErrT
  simpa using World.var?_cell errVar e5 0

/-- A world for the witness: the settled one, the variable's cell laid. -/
noncomputable def laidWorld (os : Os) : World :=
  let w0 := World.holding Tryz.prog os ⟨#[], #[], []⟩
  { w0 with heap := w0.heap.modify 0 fun
      | .cells _ t frozen => .cells #[.iface 194 (.agg #[.pointer (some ⟨4, 34, none⟩)])] t frozen
      | o => o }
theorem laidWorld_met (os : Os) (args : Array Value) : laidMetH Tryz.prog [("errors.errorType", Rows.laid_errors_errorType)] ((laidWorld os).forCall (fun _ _ => 0) ⟨#[], args, []⟩).memory :=
  laidMetH_of_parts (laidMet_nil _ _) (by kernel_rfl)

end Go.Proofs.YtapjhmfbmkckaaaGreatDoor

/- The last step of a law's row, over any program: a call that answers true and leaves all old memory as it was meets 'every argument reads as it read'. Nothing of this program is in it. -/
namespace Go.Proofs.YtapjhmfbmkckaaaGreatDoor
open Go Go.RowKit Go.WideShapes Go.ChangeShapes
section
variable {H : Type} {enc : TypeId × Value → H} {P : Program}

theorem post_of_below {f : Func} {s : ChangeSpec} {apart fresh handsOn again : Bool} {W W' : World} {args : Array Value} {v : Value} {ds gs : List (DataW H)} {before pa pv : List MemPlace}
    (hW : DataW.Whole enc P f.params.toList s.vars apart W args.toList ds gs before)
    (hres : ∀ (b : Nat) (sp : Nat → Bool) (hd : Bool), DataW.TrodAll enc P W' b sp hd f.resultTypes.toList (v.resultList f.resultTypes.size) (s.fn H (ds ++ gs)).results [])
    (hargs : ∀ sp : Nat → Bool, (∀ p ∈ before, sp p.block = true) → DataW.TrodAll enc P W' 0 sp true f.params.toList args.toList (s.fn H (ds ++ gs)).args pa)
    (hvars : ∀ sp : Nat → Bool, (∀ p ∈ before, sp p.block = true) → DataW.TrodVars enc P W' sp s.vars (s.fn H (ds ++ gs)).vars pv)
    (hps : before = pa ++ pv) (hb : Below W.heap.size W W')
    (hok : ∀ (j : Nat) (t : TypeId) (r : Value), f.resultTypes[j]? = some t → (v.resultList f.resultTypes.size)[j]? = some r → Value.okWide P W' .any 0 t r) :
    s.post enc P f apart fresh handsOn again W args v W' := by
  have hlt : ∀ p ∈ before, p.block < W.heap.size := fun p hp => hW.lt p hp
  have hold : ∀ p ∈ before, (fun b => decide (b < W.heap.size)) p.block = true := fun p hp => by simpa using hlt p hp
  refine ⟨ds, gs, before, [], pa, pv, hW, hres _ _ _, hargs _ hold, hvars _ hold, World.keptBut_mono (fun p hp => ⟨hp, ?_⟩) (hb.frame (· ∈ before)), fun _ => ?_⟩
  · rw [hps, List.mem_append] at hp
    exact Or.inr hp
  · obtain ⟨_, _, _, _, _, hz, hn⟩ := hW
    refine ⟨hok, _, _, ([] ++ pa) ++ pv, ⟨[] ++ pa, pv, trodAll_append (hargs _ (fun _ _ => rfl)) (hres _ _ _), hvars _ (fun _ _ => rfl), rfl, ?_, ?_⟩, ?_⟩
    · intro b off hp
      have hin : MemPlace.cell b off ∈ before := by rw [hps]; simpa using hp
      rw [hb.frozen (hlt _ hin)]
      exact hz b off hin
    · intro ha
      have := hn ha
      rw [hps] at this
      simpa using this
    · intro p hp _
      rw [hps]
      simpa using hp

/-- Arguments that were only read read as they did. -/
theorem trodAll_stays (hl : laidOutB P = true) {W W' : World} {sp : Nat → Bool} (hb : Below W.heap.size W W') :
    ∀ (ts : List TypeId) (vs : List Value) (ds : List (DataW H)) (ps : List MemPlace), (∀ t ∈ ts, P.readableRec t = true ∧ t < P.types.size) →
      DataW.TrodAll enc P W 0 (fun _ => true) true ts vs ds ps → (∀ x ∈ ps, x.block < W.heap.size) → (∀ x ∈ ps, sp x.block = true) → DataW.TrodAll enc P W' 0 sp true ts vs ds ps
  | [], vs, ds, ps, _, h, _, _ => by
    obtain ⟨rfl, rfl, rfl⟩ := trodAll_nil h
    exact trodAll_mk0
  | t :: ts, vs, ds, ps, ht, h, hlt, hs => by
    obtain ⟨v, vs', d, ds', p, q, rfl, rfl, rfl, h0, h1⟩ := trodAll_cons h
    obtain ⟨hr, hrow⟩ := ht t (by simp)
    exact ⟨p, q, WideElems.Trod_stays hl hr hrow h0 (fun x hx => hb.same (hlt x (by simp [hx]))) (fun x hx => hs x (by simp [hx])),
      trodAll_stays hl hb ts vs' ds' q (fun u hu => ht u (by simp [hu])) h1 (fun x hx => hlt x (by simp [hx])) (fun x hx => hs x (by simp [hx])), rfl⟩

/-- The last step of a law: it answered true, and old memory stands. -/
theorem law_post {f : Func} {s : ChangeSpec} {apart fresh handsOn again : Bool} {W W' : World} {args : Array Value} {ds gs : List (DataW H)} {before : List MemPlace} {tb : TypeId}
    (hl : laidOutB P = true) (hro : f.params.toList.all (fun t => P.readableRec t && decide (t < P.types.size)) = true) (hres : f.resultTypes = #[tb]) (hbool : P.underlying tb = some .bool) (hvars : s.vars = [])
    (hW : DataW.Whole enc P f.params.toList s.vars apart W args.toList ds gs before) (hb : Below W.heap.size W W')
    (hs : s.fn H (ds ++ gs) = { results := [.lit (.bool true)], args := ds }) :
    s.post enc P f apart fresh handsOn again W args (.bool true) W' := by
  have hW' := hW
  obtain ⟨p, q, hA, hV, hpq, _, _⟩ := hW
  rw [hvars] at hV
  obtain ⟨rfl, rfl⟩ := trodVars_none hV
  rw [List.append_nil] at hpq
  subst hpq
  have hlt : ∀ x ∈ before, x.block < W.heap.size := fun x hx => hW'.lt x hx
  have hro' : ∀ t ∈ f.params.toList, P.readableRec t = true ∧ t < P.types.size := fun t ht => by
    have := List.all_eq_true.1 hro t ht
    simpa using this
  refine post_of_below (pa := before) (pv := []) hW' ?_ ?_ ?_ (by simp) hb ?_
  · intro b sp hd
    rw [hs, hres]
    exact trodAll_mk1 (shut_bool hbool true)
  · intro sp hsp
    rw [hs]
    exact trodAll_stays hl hb _ _ _ _ hro' hA hlt hsp
  · intro sp _
    rw [hs, hvars]
    exact rfl
  · exact ok_one hres rfl (okWide_bool_mk hbool true)
end
end Go.Proofs.YtapjhmfbmkckaaaGreatDoor

/- errors.As at an error that is a Code, and at none; what the laws ask of a Code, of a Spot, of none. -/
namespace Go.Proofs.YtapjhmfbmkckaaaGreatDoor
open Go.RowKit Go.Extern.Stop Go.Stop Go.Extern

theorem cd_assignable (w : World) : (ReflectliteType.relation "AssignableTo" ReflectliteType.assignableTo #[.agg #[.pointer (some ⟨4, 70, none⟩)], .iface 194 (.agg #[.pointer (some ⟨4, 91, none⟩)])]).run Tryz.prog w = .ok (.bool false) w := by kernel_rfl
theorem cd_noAs (v : Value) (xT : TypeId) (w : World) : (Instr.typeAssert (.iface 70 v) xT 198 true).run Tryz.prog w = .ok (.tuple #[.nilIface, .bool false]) w := run_typeAssert_lacksB Tryz.underlying198 (by kernel_rfl) (by kernel_rfl) v xT w
theorem cd_noUnwrap (v : Value) (xT : TypeId) (w : World) : (Instr.typeAssert (.iface 70 v) xT 201 true).run Tryz.prog w = .ok (.tuple #[.nilIface, .bool false]) w := run_typeAssert_lacksB Tryz.underlying201 (by kernel_rfl) (by kernel_rfl) v xT w
theorem cd_noUnwraps (v : Value) (xT : TypeId) (w : World) : (Instr.typeAssert (.iface 70 v) xT 203 true).run Tryz.prog w = .ok (.tuple #[.nilIface, .bool false]) w := run_typeAssert_lacksB Tryz.underlying203 (by kernel_rfl) (by kernel_rfl) v xT w

set_option maxHeartbeats 4000000 in
theorem as_code (c : Int) (t : Addr) (old : Value) (w : World) (hg : ErrT w) (ht0 : w.cell? t = some old) :
    Calls Tryz.prog 59 #[.iface 70 (.int .i64 c), .iface 105 (.pointer (some t))] w fun ev w' => ev = .returned (.bool false) ∧ w' = (((w.alloc (.cells #[.pointer (some t)] 105)).alloc (.cells #[.pointer (some ⟨4, 105, none⟩), .pointer (some ⟨w.heap.size, 0, none⟩), .int .u64 150] 137)).alloc (.cells #[.pointer (some ⟨4, 105, none⟩), .pointer (some ⟨w.heap.size, 0, none⟩), .int .u64 150] 137)) := by
  have h6 := @run_callFunc_extern Tryz.prog 96 _ (fun args => ReflectliteValue.unpack (args.getD 0 (.tuple #[]))) Tryz.func96 (by kernel_rfl) (by kernel_rfl) (by kernel_rfl) (by kernel_rfl)
  have h7 := @run_callFunc_extern Tryz.prog 97 _ (ReflectliteValue.methodAny (ReflectliteValue.valueError "reflectlite.Value.Type" 0) (fun t _ _ _ => ReflectliteType.toType t)) Tryz.func97 (by kernel_rfl) (by kernel_rfl) (by kernel_rfl) (by kernel_rfl)
  have h8 := @run_callFunc_extern Tryz.prog 98 _ (ReflectliteValue.method (ReflectliteValue.valueError "reflectlite.Value.IsNil" 0) ReflectliteValue.isNil) Tryz.func98 (by kernel_rfl) (by kernel_rfl) (by kernel_rfl) (by kernel_rfl)
  have h27 := @run_callFunc_extern Tryz.prog 201 _ (ReflectliteType.abiMethod fun t => do pure (.int .u8 (← Rtype.kind t))) Tryz.func201 (by kernel_rfl) (by kernel_rfl) (by kernel_rfl) (by kernel_rfl)
  have h37 := @run_callFunc_extern Tryz.prog 214 _ (ReflectliteType.method ReflectliteType.elem) Tryz.func214 (by kernel_rfl) (by kernel_rfl) (by kernel_rfl) (by kernel_rfl)
  have h38 := @run_callFunc_extern Tryz.prog 215 _ (ReflectliteType.relation "Implements" ReflectliteType.implements_) Tryz.func215 (by kernel_rfl) (by kernel_rfl) (by kernel_rfl) (by kernel_rfl)
  have h10 := @run_callFunc_extern Tryz.prog 116 _ ReflectliteType.typeOf Tryz.func116 (by kernel_rfl) (by kernel_rfl) (by kernel_rfl) (by kernel_rfl)
  have h35 := @run_callFunc_extern Tryz.prog 212 _ (ReflectliteType.relation "AssignableTo" ReflectliteType.assignableTo) Tryz.func212 (by kernel_rfl) (by kernel_rfl) (by kernel_rfl) (by kernel_rfl)
  have tO := sp_typeOfC
  have mA := sp_methodAssignableTo
  have a25 := cd_assignable
  have nA := cd_noAs
  have nU := cd_noUnwrap
  have nV := cd_noUnwraps
  have f6 := sp_valueOfPP
  have f7 := sp_typePP
  have mK := sp_methodKind
  have mE := sp_methodElem
  have mI := sp_methodImplements
  have k27 := sp_kindPP
  have k25 := sp_kindP
  have e27 := sp_elemPP
  have i25 := sp_implements
  have n8 := sp_isNilPP ⟨w.heap.size, 0, none⟩ t ((w.alloc (.cells #[.pointer (some t)] 105)).alloc (.cells #[.pointer (some ⟨4, 105, none⟩), .pointer (some ⟨w.heap.size, 0, none⟩), .int .u64 150] 137)) (by simp)
  have hlt : 0 < w.heap.size := hg.lt
  have hg2 : ((w.alloc (.cells #[.pointer (some t)] 105)).alloc (.cells #[.pointer (some ⟨4, 105, none⟩), .pointer (some ⟨w.heap.size, 0, none⟩), .int .u64 150] 137)).cell? ⟨0, 0, none⟩ = some (.iface 194 (.agg #[.pointer (some ⟨4, 34, none⟩)])) := by
    rw [World.cell?_alloc_lt _ _ ⟨0, 0, none⟩ (by simp <;> omega), World.cell?_alloc_lt _ _ ⟨0, 0, none⟩ hlt]; exact hg
  go_enter Tryz.func59, Tryz.ntmps59
  go_wp2
  refine wp_loop_rounds 1 ?_
  rw [rounds_succ]
  go_wp2
  go_ret
  exact ⟨rfl, rfl⟩

set_option maxHeartbeats 4000000 in
theorem as_none (t : Addr) (w : World) :
    Calls Tryz.prog 59 #[.nilIface, .iface 105 (.pointer (some t))] w fun ev w' => ev = .returned (.bool false) ∧ Below w.heap.size w w' := by
  go_enter Tryz.func59, Tryz.ntmps59
  go_wp2
  go_ret
  exact ⟨rfl, Below.refl _ _⟩

end Go.Proofs.YtapjhmfbmkckaaaGreatDoor

/- The law's own question, which Code an error is: none, or a Code. -/
namespace Go.Proofs.YtapjhmfbmkckaaaGreatDoor
open Go.RowKit Go.Extern.Stop Go.Stop Go.Extern

theorem cd_eqNil (c : Int) (w : World) : (binOp .eql 34 (.iface 70 (.int .i64 c)) .nilIface).run Tryz.prog w = .ok (.bool false) w := by kernel_rfl

set_option maxHeartbeats 4000000 in
theorem codeN_none (w : World) : Calls Tryz.prog 31 #[.nilIface] w fun ev w' => ev = .returned (.int .i64 0) ∧ Below w.heap.size w w' := by
  go_enter Tryz.func31, Tryz.ntmps31
  go_wp2
  go_ret
  exact ⟨rfl, Below.refl _ _⟩

set_option maxRecDepth 100000 in
set_option maxHeartbeats 4000000 in
theorem codeN_code (c : Nat) (h1 : 1 ≤ c) (h2 : c ≤ 12) (w : World) : Calls Tryz.prog 31 #[.iface 70 (.int .i64 c)] w fun ev w' => ev = .returned (.int .i64 c) ∧ Below w.heap.size w w' := by
  have heq : ∀ k : Nat, ∀ w : World, (binOp .eql 34 (.iface 70 (.int .i64 c)) (.iface 70 (.int .i64 k))).run Tryz.prog w = .ok (.bool (decide (c = k))) w := fun k w => by
    rw [sp_eqCode]
    congr 2
    rw [Bool.eq_iff_iff, beq_iff_eq, decide_eq_true_eq]
    omega
  go_enter Tryz.func31, Tryz.ntmps31
  go_wp2_with fail
  go_loopw [3] (fun iv wr => ∃ k : Nat, 1 ≤ k ∧ k ≤ c ∧ iv = .int .i64 k ∧ Hid (Below w.heap.size w wr)) (fun iv _ => 20 - (intOf iv).toNat)
  case atStart => exact ⟨1, by omega, by omega, rfl, Lib.hid (Below.refl _ _)⟩
  case round =>
    obtain ⟨k, hk1, hk, rfl, HB⟩ := hrel
    obtain ⟨wo, rfl⟩ : ∃ wo : World, wo = wr := ⟨_, rfl⟩
    have h12 : (k : Int) ≤ 12 := by omega
    have hle : ∀ w : World, (binOp .leq 70 (.int .i64 (k : Int)) (.int .i64 12)).run Tryz.prog w = .ok (.bool true) w := fun w => by simp [go_sem, h12]
    have hq := heq k
    by_cases hc : c = k
    · obtain ⟨b, hb⟩ : ∃ b, b = decide (c = k) := ⟨_, rfl⟩
      rw [← hb] at hq
      obtain rfl : b = true := by rw [hb]; exact decide_eq_true hc
      have HC := Lib.hid hc
      clear hc hb heq
      go_wp2_with fail
      go_ret
      exact ⟨by rw [HC.out]; rfl, HB.out⟩
    · rw [decide_eq_false hc] at hq
      have hlt : k < c := by omega
      clear hc heq
      go_wp2_with fail
      go_roundw
      case rel => exact ⟨k + 1, by omega, by omega, by go_num, HB⟩
      case measure => simp [intOf]; omega

end Go.Proofs.YtapjhmfbmkckaaaGreatDoor

/- The law's own question, which Code an error is or tells of, and at which place. -/
namespace Go.Proofs.YtapjhmfbmkckaaaGreatDoor
open Go.RowKit Go.Extern.Stop Go.Stop Go.Extern
open Go.Sort

set_option maxHeartbeats 2000000 in
theorem of_none (w : World) : Calls Tryz.prog 21 #[.nilIface] w fun e w' => e = .returned (.tuple #[.int .i64 0, .int .i64 (-1)]) ∧ Below w.heap.size w w' := by
  go_enter Tryz.func21, Tryz.ntmps21
  go_wp2_with fail
  refine (as_none _ _).mono ?_; rintro e w1 ⟨rfl, hb1⟩
  have HB1 : Hid (Below w.heap.size w w1) := Lib.hid (below_over (below_new (Below.refl _ _) _) hb1)
  clear hb1
  go_wp2_with fail
  refine (codeN_none _).mono ?_; rintro e w2 ⟨rfl, hb2⟩
  have HB2 : Hid (Below w.heap.size w w2) := Lib.hid (below_over HB1.out hb2)
  clear hb2
  go_wp2_with fail
  go_ret2
  exact ⟨rfl, HB2.out⟩

set_option maxHeartbeats 2000000 in
theorem of_code (c : Nat) (h1 : 1 ≤ c) (h2 : c ≤ 12) (w : World) (hg : ErrT w) : Calls Tryz.prog 21 #[.iface 70 (.int .i64 c)] w fun e w' => e = .returned (.tuple #[.int .i64 c, .int .i64 (-1)]) ∧ Below w.heap.size w w' := by
  have CD := Lib.hid (fun w => codeN_code c h1 h2 w)
  clear h1 h2
  go_enter Tryz.func21, Tryz.ntmps21
  go_wp2_with fail
  refine (as_code c _ (.pointer none) _ (hg.on (below_new (Below.refl _ _) _)) (by go_simp)).mono ?_; rintro e w1 ⟨rfl, hw1⟩
  have HB1 : Hid (Below w.heap.size w w1) := Lib.hid (by rw [hw1]; exact below_new (below_new (below_new (below_new (Below.refl _ _) _) _) _) _)
  clear hw1
  go_wp2_with fail
  refine (CD.out _).mono ?_; rintro e w2 ⟨rfl, hb2⟩
  have HB2 : Hid (Below w.heap.size w w2) := Lib.hid (below_over HB1.out hb2)
  clear hb2
  go_wp2_with fail
  go_ret2
  exact ⟨rfl, HB2.out⟩

set_option maxHeartbeats 4000000 in
theorem of_spot (b : Nat) (p : Int) (c : Nat) (h1 : 1 ≤ c) (h2 : c ≤ 12) (w : World) (hg : ErrT w) (hb : b < w.heap.size) (k0 : w.cell? ⟨b, 0, none⟩ = some (.int .i64 p)) (k1 : w.cell? ⟨b, 1, none⟩ = some (.iface 70 (.int .i64 c))) :
    Calls Tryz.prog 21 #[.iface 91 (.pointer (some ⟨b, 0, none⟩))] w fun e w' => e = .returned (.tuple #[.int .i64 c, .int .i64 p]) ∧ Below w.heap.size w w' := by
  have CD := Lib.hid (fun w => codeN_code c h1 h2 w)
  have HB := Lib.hid hb
  have H0 := Lib.hid k0
  have H1 := Lib.hid k1
  clear h1 h2 hb k0 k1
  go_enter Tryz.func21, Tryz.ntmps21
  go_wp2_with fail
  refine (as_below _ w _ (.pointer none) (hg.on (below_new (Below.refl _ _) _)) (below_new (Below.refl _ _) _) (by go_simp) (by go_simp)).mono ?_; rintro e w1 ⟨rfl, ct, hb1⟩
  have c0 := cell_on hb1 HB.out H0.out
  have c1 := cell_on hb1 HB.out H1.out
  have HB1 := Lib.hid hb1
  clear hb1
  go_upto_region 5 with fail
  have cC : ∀ dd os, Calls Tryz.prog 31 #[.iface 70 (.int .i64 c)] (Sort.grow (redrawn w1 dd) os) fun e w'' => e = .returned (.int .i64 c) ∧ ∃ pp : Regrown, w'' = Sort.grow (redrawn w1 pp.d) pp.os := fun dd os => Calls.regrown_of (CD.out _)
  have pt := cell_regrown ct
  have p0 := cell_regrown c0
  have p1 := cell_regrown c1
  clear ct c0 c1
  refine wp_region_quiet_below (by kernel_rfl) (by kernel_rfl) ?_
  repeat (any_goals (first | go_big_quiet_step (with_reducible exact cC _ _) | quiet_step (with_reducible exact cC _ _)))
  refine wpQuiet_nil ?_
  intro _ hw'
  obtain ⟨⟨dq, osq⟩, hw''⟩ := hw'
  subst hw''
  have HBQ := Lib.hid (below_over HB1.out (below_regrown w1 dq osq))
  go_wp2_with fail
  go_ret2
  exact ⟨rfl, HBQ.out⟩

end Go.Proofs.YtapjhmfbmkckaaaGreatDoor
