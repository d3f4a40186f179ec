/-
  Several texts in one: The reference of layer 7: does a declaration fail by an error? · The reference of layer 7: Check. · errors.As at an error that is a Code, and at none; what the laws ask of a Code, of a Spot, of none. · The law's own question, which Code an error is: none, or a Code. · The law's own question, which Code an error is or tells of, and at which place. · The walk of ScopeChecks: whatever module, whatever type.
-/
import Derived.Test.YtapjhmfbmkckaaaGreatDoorJ17
import Derived.Test.YtapjhmfbmkckaaaGreatDoorJ09
import Derived.Lib.QuietBelow
import Derived.BigQuiet
import Derived.LoopTactic
import Derived.Deep.DeepCutAuto
import Derived.Deep.CutBlock
import Derived.Test.YtapjhmfbmkckaaaGreatDoorJ16
/- The reference of layer 7: does a declaration fail by an error? -/
namespace Go.Proofs.YtapjhmfbmkckaaaGreatDoor
open Go Go.RowKit Go.Shelf
open Go.Sort Go.Maps
open M

set_option maxRecDepth 100000 in
set_option maxHeartbeats 4000000 in
theorem rknown_cells (m : Mo) (l : List Value) (t : Ty) (l7 : List Value) (w : World) (h : MoAt w l m) (hv : ShL l7 t) (hI : m.imps.length ≤ 1000000) (hN : m.decs.length ≤ 1000000) :
    Calls Tryz.prog 72 #[.agg l.toArray, .agg l7.toArray] w fun e w' => e = .returned (.bool (knoN m t)) ∧ Below w.heap.size w w' := by
  obtain ⟨An, cA, As, cS, rfl⟩ := hv
  have HV := Lib.hid h
  obtain ⟨Ai, ci, Ad, cd, rfl, z1, z2, z3, hIm, hD⟩ := h
  have FD := Lib.hid (fun w' (hb : Below w.heap.size w w') => rfind_any m _ t.name w' (HV.out.below hb) hN)
  obtain ⟨ni, hni⟩ : ∃ ni, ni = m.imps.length := ⟨_, rfl⟩
  have HIm := Lib.hid hIm
  rw [← hni] at hI z2 FD ⊢
  have HNI := Lib.hid hni
  clear hIm hD HV hni
  obtain ⟨w0, hw0, B0, O0, O1, hl0⟩ := two_boxes w #[.string m.name, .slice Ai ni ci, .slice Ad m.decs.length cd] #[.int .i64 t.kind, .string t.pkg, .int .i64 t.major, .string t.mod, .string t.name, .slice An t.names.length cA, .slice As t.subs.length cS] 25 29
  have HW0 := Lib.hid hw0
  have HB0 := Lib.hid B0
  have HO0 := Lib.hid O0
  have HO1 := Lib.hid O1
  clear hw0 B0 O0 O1
  go_enter Tryz.func72, Tryz.ntmps72
  go_upto_region 1 with fail
  rw [← HW0.out]
  clear HW0
  have o0 := Lib.cell_of_heap HO0.out 0
  have o1 := Lib.cell_of_heap HO0.out 1
  have o2 := Lib.cell_of_heap HO0.out 2
  have O1 := HO1.out
  have s0 := Lib.cell_of_heap O1 0
  have s1 := Lib.cell_of_heap O1 1
  have s2 := Lib.cell_of_heap O1 2
  have s3 := Lib.cell_of_heap O1 3
  have s4 := Lib.cell_of_heap O1 4
  have s5 := Lib.cell_of_heap O1 5
  have s6 := Lib.cell_of_heap O1 6
  simp at o0 o1 o2 s0 s1 s2 s3 s4 s5 s6
  clear O1
  by_cases hz : t.mod.size = 0
  · have R : Hid (knoN m t = (typAt m t.name).isSome) := Lib.hid (if_pos hz)
    obtain ⟨e1, e2⟩ := empty_facts _ hz
    clear hz
    go_wp2_with fail
    refine (FD.out w0 HB0.out).mono ?_; rintro e w1 ⟨rfl, hb1⟩
    have HB1 : Hid (Below w.heap.size w w1) := Lib.hid (below_over HB0.out hb1)
    have HS := Lib.hid (fndN_some m t.name)
    clear hb1
    generalize fndN m t.name = F at HS ⊢
    go_wp2_with fail
    go_ret
    exact ⟨by rw [R.out, ← HS.out]; try rfl, HB1.out⟩
  · have R : Hid (knoN m t = impHas m t.mod) := Lib.hid (if_neg hz)
    obtain ⟨e1, e2⟩ := full_facts _ hz
    clear hz
    go_wp2_with fail
    clear e1 e2 o0 o1 o2 s0 s1 s2 s3 s4 s5 s6
    go_loopw [5] (fun iv wr => ∃ k : Nat, k ≤ ni ∧ iv = .int .i64 k ∧ Hid (Below w0.heap.size w0 wr) ∧ Hid (∀ x ∈ m.imps.take k, decide (x.asn = t.mod) = false)) (fun iv _ => ni - (intOf iv).toNat)
    case atStart => exact ⟨0, by omega, rfl, Lib.hid (Below.refl _ _), Lib.hid (by simp)⟩
    case round =>
      obtain ⟨k, hk, rfl, HB, HNO⟩ := hrel
      obtain ⟨wo, rfl⟩ : ∃ wo : World, wo = wr := ⟨_, rfl⟩
      have HBw : Hid (Below w.heap.size w wo) := Lib.hid (below_over HB0.out HB.out)
      have x1 := Lib.cell_of_heap ((HB.out.block w.heap.size (by omega)).trans HO0.out) 1
      have s3 := Lib.cell_of_heap ((HB.out.block (w.heap.size + 1) hl0).trans HO1.out) 3
      simp at x1 s3
      by_cases hlt : k < ni
      · obtain ⟨x, hx⟩ : ∃ x, m.imps[k]? = some x := ⟨_, List.getElem?_eq_getElem (by rw [← HNI.out]; exact hlt)⟩
        obtain ⟨g, o, rfl, -, a0, a1, a2, a3, -⟩ := (HIm.out.below HBw.out).im hx
        have hq := str_eq x.asn t.mod
        have HXX := Lib.hid hx
        clear hx
        by_cases hs : x.asn = t.mod
        · have RR : Hid (impHas m t.mod = true) := Lib.hid (List.any_eq_true.2 ⟨x, List.mem_of_getElem? HXX.out, by simpa using hs⟩)
          rw [decide_eq_true hs] at hq
          clear hs
          go_wp2_with fail
          go_quiet (fail)
          go_wp2_with fail
          go_ret
          exact ⟨by rw [R.out, RR.out]; try rfl, below_drewN HBw.out _⟩
        · have NX : Hid (∀ x ∈ m.imps.take (k + 1), decide (x.asn = t.mod) = false) := Lib.hid (fun y hy => by
            rw [List.take_add_one, List.mem_append] at hy
            rcases hy with h' | h'
            · exact HNO.out y h'
            · rw [HXX.out] at h'
              simp at h'
              rw [h']; simpa using hs)
          rw [decide_eq_false hs] at hq
          clear hs
          go_wp2_with fail
          go_quiet (fail)
          go_wp2_with fail
          go_roundw
          case rel => exact ⟨k + 1, by omega, by go_num, Lib.hid (below_drewN HB.out _), NX⟩
          case measure => simp [intOf]; omega
      · have RR : Hid (impHas m t.mod = false) := Lib.hid (List.any_eq_false.2 (fun x hx => by
          have := HNO.out x (by rw [List.take_of_length_le (by rw [← HNI.out]; omega)]; exact hx)
          simpa using this))
        go_wp2_with fail
        go_ret
        exact ⟨by rw [R.out, RR.out]; try rfl, HBw.out⟩

/-- What bad asks of, in the order of its text: names ahead. -/
theorem bad_five {m : Mo} {i : Nat} {d : De} (hd : m.decs[i]? = some d) : badN m i 5 = (m.decs.take i).any fun y => decide (y.name = d.name) && ((y.kind == 4) == (d.kind == 4)) := by
  unfold badN; rw [hd]; rfl
theorem bad_four {m : Mo} {i : Nat} {d : De} (hd : m.decs[i]? = some d) : badN m i 4 = !((locT d.typ).all (knoN m)) := by
  unfold badN; rw [hd]; rfl
theorem bad_six {m : Mo} {i : Nat} {d : De} (hd : m.decs[i]? = some d) : badN m i 6 = ((d.kind == 3) && (match typAt m d.name with | some k => reachB (entries m) (saidT m d.typ) k | none => false)) := by
  unfold badN; rw [hd]; rfl
theorem bad_ten {m : Mo} {i : Nat} {d : De} (hd : m.decs[i]? = some d) : badN m i 10 = hidB (entries m) (saidT m d.typ) := by
  unfold badN; rw [hd]; rfl

set_option maxRecDepth 100000 in
set_option maxHeartbeats 16000000 in
theorem rbad_any (m : Mo) (l : List Value) (i c : Nat) (w : World) (h : MoAt w l m) (hm : mayM m = true) (hM : ∀ d ∈ m.decs, many d.typ ≤ 9000) (hi : i < m.decs.length) (hc : c < 4) :
    Calls Tryz.prog 46 #[.agg l.toArray, .int .i64 i, .int .i64 (codeN c)] w fun e w' => e = .returned (.bool (badN m i (codeN c))) ∧ Below w.heap.size w w' := by
  have HMD := Lib.hid (mayM_parts hm).2.2.2
  have hn60 := (mayM_parts hm).2.1
  have hi20 := (mayM_parts hm).1
  have HM := Lib.hid hM
  have HV := Lib.hid h
  obtain ⟨d, hd⟩ : ∃ d, m.decs[i]? = some d := ⟨_, List.getElem?_eq_getElem hi⟩
  have RC := Lib.hid (fun w' v (hb : Below w.heap.size w w') (hv : TyV w' v d.typ) => rreach_any m l d.typ v w' (h.below hb) hv hm (loc_dec m ((mayM_parts hm).2.2.2 d (List.mem_of_getElem? hd))).1 hM (hM d (List.mem_of_getElem? hd)))
  have LC := Lib.hid (fun (vv : Value) (wx : World) (hh : TyV wx vv d.typ) => rlocals_any (many d.typ) d.typ (Nat.le_refl _) (hM d (List.mem_of_getElem? hd)) vv wx hh)
  have FC := Lib.hid (fun w' (hb : Below w.heap.size w w') => rfind_any m l d.name w' (h.below hb) (by omega))
  have KC := Lib.hid (fun w' x l7 (hb : Below w.heap.size w w') (hv : ShL l7 x) => rknown_cells m l x l7 w' (h.below hb) hv (by omega) (by omega))
  obtain ⟨Ai, ci, Ad, cd, rfl, z1, z2, z3, -, hDm⟩ := h
  have HDm := Lib.hid hDm
  obtain ⟨n, hn⟩ : ∃ n, n = m.decs.length := ⟨_, rfl⟩
  have HN := Lib.hid hn
  rw [← hn] at RC FC KC hi hn60 ⊢
  have HDD := Lib.hid hd
  obtain ⟨w0, hw0⟩ : ∃ w0, w0 = w.alloc (.cells #[.string m.name, .slice Ai m.imps.length ci, .slice Ad n cd] 25) := ⟨_, rfl⟩
  have B0 : Below w.heap.size w w0 := by rw [hw0]; exact below_new (Below.refl _ _) _
  have O0 : w0.heap[w.heap.size]? = some (.cells #[.string m.name, .slice Ai m.imps.length ci, .slice Ad n cd] 25 (0, 0)) := by rw [hw0]; exact heap_alloc_new w _
  have s0 : w0.heap.size = w.heap.size + 1 := by rw [hw0]; simp
  have s0' := s0
  obtain ⟨g, o, v0, v1, v2, v3, v4, v5, v6, rfl, hg, a0, a1, t0, t1, t2, t3, t4, t5, t6, us, zs⟩ := RowIn.de (hDm.below B0) hd
  obtain ⟨Bn, cB, Bs, dB, rfl, rfl, rfl, rfl, rfl, rfl, rfl⟩ := us.seven
  obtain ⟨w1, hw1⟩ : ∃ w1, w1 = w0.alloc (.cells #[.int .i64 d.kind, .string d.name, .int .i64 d.typ.kind, .string d.typ.pkg, .int .i64 d.typ.major, .string d.typ.mod, .string d.typ.name, .slice Bn d.typ.names.length cB, .slice Bs d.typ.subs.length dB] 45) := ⟨_, rfl⟩
  have B1 : Below w0.heap.size w0 w1 := by rw [hw1]; exact below_new (Below.refl _ _) _
  have O1 : w1.heap[w.heap.size + 1]? = some (.cells #[.int .i64 d.kind, .string d.name, .int .i64 d.typ.kind, .string d.typ.pkg, .int .i64 d.typ.major, .string d.typ.mod, .string d.typ.name, .slice Bn d.typ.names.length cB, .slice Bs d.typ.subs.length dB] 45 (0, 0)) := by rw [hw1, ← s0]; exact heap_alloc_new w0 _
  have hl1 : w.heap.size + 1 < w1.heap.size := (Array.getElem?_eq_some_iff.1 O1).1
  have HB1 := Lib.hid (below_over B0 B1)
  have HO0 := Lib.hid ((B1.block _ (by omega)).trans O0)
  have HO1 := Lib.hid O1
  have HUS := Lib.hid (us.keep B1)
  have HW0 := Lib.hid hw0
  have HW1 := Lib.hid hw1
  have x2 := Lib.cell_of_heap O0 2
  simp at x2
  have hi0 : (0 : Int) ≤ i := by omega
  have hi1 : (i : Int) < n := by omega
  clear hd hw0 hw1 B0 B1 O0 O1 s0 us zs hDm hn hm hM hg
  have HS0 := Lib.hid s0'
  clear s0'
  obtain ⟨R, hR⟩ : ∃ R, R = badN m i (codeN c) := ⟨_, rfl⟩
  rw [← hR]
  have h4 : c = 0 ∨ c = 1 ∨ c = 2 ∨ c = 3 := by omega
  rcases h4 with rfl | rfl | rfl | rfl
  · have RB : Hid (R = (m.decs.take i).any fun y => decide (y.name = d.name) && ((y.kind == 4) == (d.kind == 4))) := Lib.hid (hR.trans (bad_five HDD.out))
    have hcode : codeN 0 = 5 := rfl
    rw [hcode]
    clear hR
    go_enter Tryz.func46, Tryz.ntmps46
    go_upto_region 1 with fail
    rw [← HW0.out]
    go_upto_region 2 with fail
    rw [← HW1.out, HS0.out]
    clear x2 a0 a1 t0 t1 t2 t3 t4 t5 t6 HW0 HW1 HS0
    go_wp2_with fail
    go_loopw [8] (fun s8 wr => ∃ k : Nat, k ≤ i ∧ s8 = .int .i64 k ∧ Hid (((m.decs.take k).any fun y => decide (y.name = d.name) && ((y.kind == 4) == (d.kind == 4))) = false) ∧ Hid (Below w1.heap.size w1 wr)) (fun s8 _ => i - (intOf s8).toNat)
    case atStart => exact ⟨0, by omega, rfl, Lib.hid (by simp), Lib.hid (Below.refl _ _)⟩
    case round =>
      obtain ⟨k, hk, rfl, HNO, HBo⟩ := hrel
      obtain ⟨wo, rfl⟩ : ∃ wo : World, wo = wr := ⟨_, rfl⟩
      have HBw : Hid (Below w.heap.size w wo) := Lib.hid (below_over HB1.out HBo.out)
      by_cases hlt : k < i
      · obtain ⟨y, hy⟩ : ∃ y, m.decs[k]? = some y := ⟨_, List.getElem?_eq_getElem (by rw [← HN.out]; omega)⟩
        obtain ⟨g2, o2, u0, u1, u2, u3, u4, u5, u6, hAe, hg2, e0, e1, -⟩ := RowIn.de (HDm.out.below HBw.out) hy
        cases hAe
        have x2 := Lib.cell_of_heap ((HBo.out.block w.heap.size (by omega)).trans HO0.out) 2
        have y0 := Lib.cell_of_heap ((HBo.out.block (w.heap.size + 1) hl1).trans HO1.out) 0
        have y1 := Lib.cell_of_heap ((HBo.out.block (w.heap.size + 1) hl1).trans HO1.out) 1
        simp at x2 y0 y1
        have hq := str_eq y.name d.name
        have HYY := Lib.hid hy
        have hk0 : (0 : Int) ≤ k := by omega
        have hk1 : (k : Int) < n := by omega
        have hk2 : (k : Int) < i := by omega
        obtain ⟨b1, hb1⟩ : ∃ b1, b1 = decide (y.name = d.name) := ⟨_, rfl⟩
        obtain ⟨b2, hb2⟩ : ∃ b2, b2 = (y.kind == 4) := ⟨_, rfl⟩
        obtain ⟨b3, hb3⟩ : ∃ b3, b3 = (d.kind == 4) := ⟨_, rfl⟩
        rw [← hb1] at hq
        have STEP : Hid (((m.decs.take (k + 1)).any fun y => decide (y.name = d.name) && ((y.kind == 4) == (d.kind == 4))) = (b1 && (b2 == b3))) := Lib.hid (by rw [any_snoc _ _ _ _ hy, HNO.out, Bool.false_or, hb1, hb2, hb3])
        have hb2' := hb2.symm
        have hb3' := hb3.symm
        clear hy hb1 hb2 hb3
        go_upto_region 6 with fail
        go_cut [47] (fun s47 wx => s47 = .bool (b1 && (b2 == b3)) ∧ Below wo.heap.size wo wx)
        case first =>
          cases b1 with
          | true =>
            go_quiet (fail)
            go_wp2_with fail
            go_meet
            exact ⟨by first | rfl | (cases b2 <;> cases b3 <;> rfl), below_drewN (Below.refl _ _) _⟩
          | false =>
            go_quiet (fail)
            go_wp2_with fail
            go_meet
            exact ⟨rfl, below_drewN (Below.refl _ _) _⟩
        case rest =>
          obtain ⟨rfl, hbc⟩ := hcut
          obtain ⟨wy, rfl⟩ : ∃ wy : World, wy = wc := ⟨_, rfl⟩
          have HBy : Hid (Below w1.heap.size w1 wy) := Lib.hid (below_over HBo.out hbc)
          clear hbc x2 y0 y1 e0 e1 hq hb2' hb3'
          obtain ⟨q, hq⟩ : ∃ q, q = (b1 && (b2 == b3)) := ⟨_, rfl⟩
          rw [← hq] at STEP ⊢
          clear hq
          cases q with
          | true =>
            have RES : Hid (((m.decs.take i).any fun y => decide (y.name = d.name) && ((y.kind == 4) == (d.kind == 4))) = true) := Lib.hid (by
              have h1 := STEP.out
              rw [List.any_eq_true] at h1 ⊢
              obtain ⟨z, hz, hp⟩ := h1
              exact ⟨z, List.take_subset_take_left _ (by omega) hz, hp⟩)
            go_wp2_with fail
            go_ret
            exact ⟨by (rw [RB.out, RES.out] <;> rfl), below_over HB1.out HBy.out⟩
          | false =>
            go_wp2_with fail
            go_roundw
            case rel => exact ⟨k + 1, by omega, by go_num, STEP, HBy⟩
            case measure => simp [intOf]; omega
      · obtain rfl : k = i := by omega
        go_wp2_with fail
        go_ret
        exact ⟨by (rw [RB.out, HNO.out] <;> rfl), HBw.out⟩
  · have RB : Hid (R = !((locT d.typ).all (knoN m))) := Lib.hid (hR.trans (bad_four HDD.out))
    have hcode : codeN 1 = 4 := rfl
    rw [hcode]
    clear hR
    go_enter Tryz.func46, Tryz.ntmps46
    go_upto_region 1 with fail
    rw [← HW0.out]
    go_upto_region 2 with fail
    rw [← HW1.out, HS0.out]
    clear x2 a0 a1 t0 t1 t2 t3 t4 t5 t6 HW0 HW1 HS0
    have O1 := HO1.out
    have y0 := Lib.cell_of_heap O1 0
    have y1 := Lib.cell_of_heap O1 1
    have y2 := Lib.cell_of_heap O1 2
    have y3 := Lib.cell_of_heap O1 3
    have y4 := Lib.cell_of_heap O1 4
    have y5 := Lib.cell_of_heap O1 5
    have y6 := Lib.cell_of_heap O1 6
    have y7 := Lib.cell_of_heap O1 7
    have y8 := Lib.cell_of_heap O1 8
    simp at y0 y1 y2 y3 y4 y5 y6 y7 y8
    clear O1
    go_wp2_with fail
    refine (LC.out (.agg #[.int .i64 d.typ.kind, .string d.typ.pkg, .int .i64 d.typ.major, .string d.typ.mod, .string d.typ.name, .slice Bn d.typ.names.length cB, .slice Bs d.typ.subs.length dB]) w1 ⟨_, rfl, HUS.out⟩).mono ?_; rintro e w2 ⟨v', rfl, ho2, hb2⟩
    obtain ⟨A2, c2, rfl⟩ : ∃ A c, v' = .slice A (locT d.typ).length c := by
      obtain ⟨C, -, -, h3, -⟩ := ho2
      exact own_slice h3
    have HO2 := Lib.hid ho2
    have HB2 := Lib.hid (below_over HB1.out hb2)
    have HBB2 := Lib.hid hb2
    have hlL : (locT d.typ).length ≤ 9000 := Nat.le_trans (locT_len d.typ) (HM.out d (List.mem_of_getElem? HDD.out))
    obtain ⟨L, hL⟩ : ∃ L, L = locT d.typ := ⟨_, rfl⟩
    rw [← hL] at HO2 hlL ⊢
    have HLL := Lib.hid hL
    clear ho2 hb2 y0 y1 y2 y3 y4 y5 y6 y7 y8 hL
    go_wp2_with fail
    go_loopw [10] (fun s10 wr => ∃ k : Nat, k ≤ L.length ∧ s10 = .int .i64 k ∧ Hid (∀ x ∈ L.take k, knoN m x = true) ∧ Hid (Below w2.heap.size w2 wr)) (fun s10 _ => L.length - (intOf s10).toNat)
    case atStart => exact ⟨0, by omega, rfl, Lib.hid (by simp), Lib.hid (Below.refl _ _)⟩
    case round =>
      obtain ⟨k, hk, rfl, HNO, HBo⟩ := hrel
      obtain ⟨wo, rfl⟩ : ∃ wo : World, wo = wr := ⟨_, rfl⟩
      have HBw : Hid (Below w.heap.size w wo) := Lib.hid (below_over HB2.out HBo.out)
      by_cases hlt : k < L.length
      · obtain ⟨x, hx⟩ : ∃ x, L[k]? = some x := ⟨_, List.getElem?_eq_getElem hlt⟩
        obtain ⟨gx, Cn, cC, Cs, dC, rfl, -, hgx, hc⟩ := HO2.out.get hx
        have e := fun j v hv => (HBo.out.cell (p := ⟨gx, k * 7 + j, none⟩) hgx).trans (hc j v hv)
        have e0 : wo.cell? ⟨gx, k * 7, none⟩ = _ := e 0 _ rfl
        have e1 : wo.cell? ⟨gx, k * 7 + 1, none⟩ = _ := e 1 _ rfl
        have e2 : wo.cell? ⟨gx, k * 7 + 2, none⟩ = _ := e 2 _ rfl
        have e3 : wo.cell? ⟨gx, k * 7 + 3, none⟩ = _ := e 3 _ rfl
        have e4 : wo.cell? ⟨gx, k * 7 + 4, none⟩ = _ := e 4 _ rfl
        have e5 : wo.cell? ⟨gx, k * 7 + 5, none⟩ = _ := e 5 _ rfl
        have e6 : wo.cell? ⟨gx, k * 7 + 6, none⟩ = _ := e 6 _ rfl
        have O2 := (HBo.out.block w.heap.size (by have := HBB2.out.size; omega)).trans ((HBB2.out.block w.heap.size (by omega)).trans HO0.out)
        have x0 := Lib.cell_of_heap O2 0
        have x1 := Lib.cell_of_heap O2 1
        have x2 := Lib.cell_of_heap O2 2
        simp at x0 x1 x2
        have HXX := Lib.hid hx
        have hk0 : (0 : Int) ≤ k := by omega
        have hk1 : (k : Int) < L.length := by omega
        obtain ⟨q, hq⟩ : ∃ q, q = knoN m x := ⟨_, rfl⟩
        have HQ := Lib.hid hq
        have cK : ∀ dd os, Calls Tryz.prog 72 #[.agg #[.string m.name, .slice Ai m.imps.length ci, .slice (some ⟨g, o, none⟩) n cd], .agg #[.int .i64 x.kind, .string x.pkg, .int .i64 x.major, .string x.mod, .string x.name, .slice Cn x.names.length cC, .slice Cs x.subs.length dC]] (Sort.grow (redrawn wo dd) os) fun e w'' => e = .returned (.bool q) ∧ ∃ pp : Regrown, w'' = Sort.grow (redrawn wo pp.d) pp.os := fun dd os => Calls.regrown_of (by rw [hq]; exact KC.out _ x _ (HBw.out.trans ((below_regrown wo dd os).mono HBw.out.size)) ⟨Cn, cC, Cs, dC, rfl⟩)
        clear hx hc e O2 hq
        go_upto_region 14 with fail
        have p0 := cell_regrown e0
        have p1 := cell_regrown e1
        have p2 := cell_regrown e2
        have p3 := cell_regrown e3
        have p4 := cell_regrown e4
        have p5 := cell_regrown e5
        have p6 := cell_regrown e6
        have q0 := cell_regrown x0
        have q1 := cell_regrown x1
        have q2 := cell_regrown x2
        clear e0 e1 e2 e3 e4 e5 e6 x0 x1 x2
        refine wp_region_quiet_below (by kernel_rfl) (by kernel_rfl) ?_
        repeat (any_goals (first | go_big_quiet_step (with_reducible exact cK _ _) | quiet_step (with_reducible exact cK _ _)))
        refine wpQuiet_nil ?_
        intro w5 hw'
        have HB5 : Hid (Below w2.heap.size w2 w5) := Lib.hid (by
          obtain ⟨⟨dq, osq⟩, hw''⟩ := hw'
          rw [hw'']
          exact below_over HBo.out (below_regrown wo dq osq))
        clear hw' cK p0 p1 p2 p3 p4 p5 p6 q0 q1 q2
        cases q with
        | true =>
          have NX : Hid (∀ y ∈ L.take (k + 1), knoN m y = true) := Lib.hid (fun y hy => by
            rw [List.take_add_one, HXX.out] at hy
            rcases List.mem_append.1 hy with h | h
            · exact HNO.out y h
            · simp at h; rw [h]; exact HQ.out.symm)
          go_wp2_with fail
          go_roundw
          case rel => exact ⟨k + 1, by omega, by go_num, NX, HB5⟩
          case measure => simp [intOf]; omega
        | false =>
          have RES : Hid ((locT d.typ).all (knoN m) = false) := Lib.hid (by rw [← HLL.out]; exact List.all_eq_false.2 ⟨x, List.mem_of_getElem? HXX.out, by rw [← HQ.out]; decide⟩)
          go_wp2_with fail
          go_ret
          exact ⟨by (rw [RB.out, RES.out] <;> rfl), below_over HB2.out HB5.out⟩
      · have RES : Hid ((locT d.typ).all (knoN m) = true) := Lib.hid (by rw [← HLL.out]; exact List.all_eq_true.2 (fun x hx => HNO.out x (by rw [List.take_of_length_le (by omega)]; exact hx)))
        go_wp2_with fail
        go_ret
        exact ⟨by (rw [RB.out, RES.out] <;> rfl), HBw.out⟩
  · have RB : Hid (R = ((d.kind == 3) && (match typAt m d.name with | some k => reachB (entries m) (saidT m d.typ) k | none => false))) := Lib.hid (hR.trans (bad_six HDD.out))
    have hcode : codeN 2 = 6 := rfl
    rw [hcode]
    clear hR
    go_enter Tryz.func46, Tryz.ntmps46
    go_upto_region 1 with fail
    rw [← HW0.out]
    go_upto_region 2 with fail
    rw [← HW1.out, HS0.out]
    clear x2 a0 a1 t0 t1 t2 t3 t4 t5 t6 HW0 HW1 HS0
    have O1 := HO1.out
    have y0 := Lib.cell_of_heap O1 0
    have y1 := Lib.cell_of_heap O1 1
    have y2 := Lib.cell_of_heap O1 2
    have y3 := Lib.cell_of_heap O1 3
    have y4 := Lib.cell_of_heap O1 4
    have y5 := Lib.cell_of_heap O1 5
    have y6 := Lib.cell_of_heap O1 6
    have y7 := Lib.cell_of_heap O1 7
    have y8 := Lib.cell_of_heap O1 8
    have O0 := HO0.out
    have x0 := Lib.cell_of_heap O0 0
    have x1 := Lib.cell_of_heap O0 1
    have x2 := Lib.cell_of_heap O0 2
    simp at y0 y1 y2 y3 y4 y5 y6 y7 y8 x0 x1 x2
    clear O1 O0
    go_wp2_with fail
    refine (RC.out w1 (.agg #[.int .i64 d.typ.kind, .string d.typ.pkg, .int .i64 d.typ.major, .string d.typ.mod, .string d.typ.name, .slice Bn d.typ.names.length cB, .slice Bs d.typ.subs.length dB]) HB1.out ⟨_, rfl, HUS.out⟩).mono ?_; rintro e w2 ⟨fb, rfl, hfb, hF, hb2⟩
    have HF := Lib.hid hF
    have HB2 := Lib.hid (below_over HB1.out hb2)
    have HBB2 := Lib.hid hb2
    have hfl := HF.out.lt
    clear hF hb2 y0 y1 y2 y3 y4 y5 y6 y7 y8 x0 x1 x2
    have O1 := (HBB2.out.block (w.heap.size + 1) hl1).trans HO1.out
    have y0 := Lib.cell_of_heap O1 0
    have y1 := Lib.cell_of_heap O1 1
    have O0 := (HBB2.out.block w.heap.size (by omega)).trans HO0.out
    have x0 := Lib.cell_of_heap O0 0
    have x1 := Lib.cell_of_heap O0 1
    have x2 := Lib.cell_of_heap O0 2
    simp at y0 y1 x0 x1 x2
    obtain ⟨b3, hb3⟩ : ∃ b3, b3 = (d.kind == 3) := ⟨_, rfl⟩
    have hb3' := hb3.symm
    have HB3' := Lib.hid hb3
    clear hb3 O0 O1
    cases b3 with
    | false =>
      go_wp2_with fail
      go_ret
      exact ⟨by (rw [RB.out, ← HB3'.out] <;> rfl), HB2.out⟩
    | true =>
      cases hq : typAt m d.name with
      | none =>
        have HJ : Hid (fndN m d.name = -1) := Lib.hid (by unfold fndN; rw [hq])
        have HQ' := Lib.hid hq
        clear hq
        go_wp2_with fail
        refine (FC.out w2 HB2.out).mono ?_; rintro e w3 ⟨rfl, hb3⟩; rw [HJ.out]
        have HB3 := Lib.hid (below_over HB2.out hb3)
        clear hb3
        go_wp2_with fail
        go_ret
        exact ⟨by (rw [RB.out, ← HB3'.out, HQ'.out] <;> rfl), HB3.out⟩
      | some j =>
        have HJ : Hid (fndN m d.name = (j : Int)) := Lib.hid (by unfold fndN; rw [hq])
        have HQ' := Lib.hid hq
        have hj : j < n := by rw [HN.out]; exact typAt_lt hq
        have hj0 : (0 : Int) ≤ j := by omega
        have hj1 : (j : Int) < n := by omega
        clear hq
        go_wp2_with fail
        refine (FC.out w2 HB2.out).mono ?_; rintro e w3 ⟨rfl, hb3⟩; rw [HJ.out]
        have HB3 := Lib.hid (below_over HB2.out hb3)
        have O1 := (hb3.block (w.heap.size + 1) (by have := HBB2.out.size; omega)).trans ((HBB2.out.block (w.heap.size + 1) hl1).trans HO1.out)
        have HF3 : Hid (FoundAt w3 fb n (reachB (entries m) (saidT m d.typ))) := Lib.hid ((hb3.block fb hfl).trans HF.out)
        have HBB3 := Lib.hid hb3
        clear hb3 y0 y1 x0 x1 x2
        have y1 := Lib.cell_of_heap O1 1
        have O0 := (HBB3.out.block w.heap.size (by have := HBB2.out.size; omega)).trans ((HBB2.out.block w.heap.size (by omega)).trans HO0.out)
        have x0 := Lib.cell_of_heap O0 0
        have x1 := Lib.cell_of_heap O0 1
        have x2 := Lib.cell_of_heap O0 2
        simp at y1 x0 x1 x2
        clear O0 O1
        go_wp2_with fail
        refine (FC.out w3 HB3.out).mono ?_; rintro e w4 ⟨rfl, hb4⟩; rw [HJ.out]
        have f4 := FoundAt.cell (show FoundAt w4 fb n _ from (hb4.block fb (Nat.lt_of_lt_of_le hfl HBB3.out.size)).trans HF3.out) hj
        have HB4 := Lib.hid (below_over HB3.out hb4)
        obtain ⟨q, hq⟩ : ∃ q, q = reachB (entries m) (saidT m d.typ) j := ⟨_, rfl⟩
        rw [← hq] at f4
        have HQ4 := Lib.hid hq
        clear hb4 hq y1 x0 x1 x2
        go_wp2_with fail
        go_ret
        exact ⟨by (rw [RB.out, ← HB3'.out, HQ'.out]; show _ = Ending.returned (.bool (true && reachB (entries m) (saidT m d.typ) j)); rw [← HQ4.out] <;> rfl), HB4.out⟩
  · have RB : Hid (R = hidB (entries m) (saidT m d.typ)) := Lib.hid (hR.trans (bad_ten HDD.out))
    have hcode : codeN 3 = 10 := rfl
    rw [hcode]
    clear hR
    go_enter Tryz.func46, Tryz.ntmps46
    go_upto_region 1 with fail
    rw [← HW0.out]
    go_upto_region 2 with fail
    rw [← HW1.out, HS0.out]
    clear x2 a0 a1 t0 t1 t2 t3 t4 t5 t6 HW0 HW1 HS0
    have O1 := HO1.out
    have y0 := Lib.cell_of_heap O1 0
    have y1 := Lib.cell_of_heap O1 1
    have y2 := Lib.cell_of_heap O1 2
    have y3 := Lib.cell_of_heap O1 3
    have y4 := Lib.cell_of_heap O1 4
    have y5 := Lib.cell_of_heap O1 5
    have y6 := Lib.cell_of_heap O1 6
    have y7 := Lib.cell_of_heap O1 7
    have y8 := Lib.cell_of_heap O1 8
    have O0 := HO0.out
    have x0 := Lib.cell_of_heap O0 0
    have x1 := Lib.cell_of_heap O0 1
    have x2 := Lib.cell_of_heap O0 2
    simp at y0 y1 y2 y3 y4 y5 y6 y7 y8 x0 x1 x2
    clear O1 O0
    go_wp2_with fail
    refine (RC.out w1 (.agg #[.int .i64 d.typ.kind, .string d.typ.pkg, .int .i64 d.typ.major, .string d.typ.mod, .string d.typ.name, .slice Bn d.typ.names.length cB, .slice Bs d.typ.subs.length dB]) HB1.out ⟨_, rfl, HUS.out⟩).mono ?_; rintro e w2 ⟨fb, rfl, hfb, hF, hb2⟩
    have HF := Lib.hid hF
    have HB2 := Lib.hid (below_over HB1.out hb2)
    have HBB2 := Lib.hid hb2
    have hfl := HF.out.lt
    clear hF hb2 y0 y1 y2 y3 y4 y5 y6 y7 y8 x0 x1 x2
    go_wp2_with fail
    go_loopw [13] (fun s13 wr => ∃ k : Nat, k ≤ n ∧ s13 = .int .i64 k ∧ Hid (∀ (j : Nat) (e : De), j < k → m.decs[j]? = some e → Reach (entries m) (saidT m d.typ) j → e.kind ≠ 2) ∧ Hid (Below w2.heap.size w2 wr)) (fun s13 _ => n - (intOf s13).toNat)
    case atStart => exact ⟨0, by omega, rfl, Lib.hid (fun j e h => by omega), Lib.hid (Below.refl _ _)⟩
    case round =>
      obtain ⟨k, hk, rfl, HNO, HBo⟩ := hrel
      obtain ⟨wo, rfl⟩ : ∃ wo : World, wo = wr := ⟨_, rfl⟩
      have HBw : Hid (Below w.heap.size w wo) := Lib.hid (below_over HB2.out HBo.out)
      by_cases hlt : k < n
      · obtain ⟨y, hy⟩ : ∃ y, m.decs[k]? = some y := ⟨_, List.getElem?_eq_getElem (by rw [← HN.out]; exact hlt)⟩
        obtain ⟨g2, o2, u0, u1, u2, u3, u4, u5, u6, hAe, hg2, e0, e1, -⟩ := RowIn.de (HDm.out.below HBw.out) hy
        cases hAe
        have f0 := FoundAt.cell (show FoundAt wo fb n _ from (HBo.out.block fb hfl).trans HF.out) hlt
        have O0 := (HBo.out.block w.heap.size (by have := HBB2.out.size; omega)).trans ((HBB2.out.block w.heap.size (by omega)).trans HO0.out)
        have x2 := Lib.cell_of_heap O0 2
        simp at x2
        have HYY := Lib.hid hy
        have hk0 : (0 : Int) ≤ k := by omega
        have hk1 : (k : Int) < n := by omega
        obtain ⟨b1, hb1⟩ : ∃ b1, b1 = reachB (entries m) (saidT m d.typ) k := ⟨_, rfl⟩
        obtain ⟨b2, hb2⟩ : ∃ b2, b2 = (y.kind == 2) := ⟨_, rfl⟩
        rw [← hb1] at f0
        have HB1' := Lib.hid hb1
        have HB2' := Lib.hid hb2
        have hb2' := hb2.symm
        clear hy e1 O0 hb1 hb2
        by_cases hbb : (b1 && b2) = true
        · rw [Bool.and_eq_true] at hbb
          obtain ⟨rfl, rfl⟩ := hbb
          have RES : Hid (hidB (entries m) (saidT m d.typ) = true) := Lib.hid (by
            cases hh : hidB (entries m) (saidT m d.typ) with
            | true => rfl
            | false => exact absurd (by simpa using HB2'.out.symm) (hidB_iff.1 hh k y HYY.out (reachB_iff.1 HB1'.out.symm)))
          go_wp2_with fail
          go_ret
          exact ⟨by (rw [RB.out, RES.out] <;> rfl), HBw.out⟩
        · have NX : Hid (∀ (j : Nat) (e : De), j < k + 1 → m.decs[j]? = some e → Reach (entries m) (saidT m d.typ) j → e.kind ≠ 2) := Lib.hid (fun j e hj he hr => by
            rcases Nat.lt_or_ge j k with h | h
            · exact HNO.out j e h he hr
            · obtain rfl : j = k := by omega
              rw [HYY.out] at he
              cases he
              intro h2
              apply hbb
              rw [HB1'.out, HB2'.out, reachB_iff.2 hr, h2]
              rfl)
          cases b1 with
          | false =>
            clear hbb
            go_wp2_with fail
            go_roundw
            case rel => exact ⟨k + 1, by omega, by go_num, NX, HBo⟩
            case measure => simp [intOf]; omega
          | true =>
            have hb0 : b2 = false := by simpa using hbb
            subst hb0
            clear hbb
            go_wp2_with fail
            go_roundw
            case rel => exact ⟨k + 1, by omega, by go_num, NX, HBo⟩
            case measure => simp [intOf]; omega
      · have RES : Hid (hidB (entries m) (saidT m d.typ) = false) := Lib.hid (hidB_iff.2 (fun j e he hr => HNO.out j e (by have := dec_lt he; rw [← HN.out] at this; omega) he hr))
        go_wp2_with fail
        go_ret
        exact ⟨by (rw [RB.out, RES.out] <;> rfl), HBw.out⟩

end Go.Proofs.YtapjhmfbmkckaaaGreatDoor

/- The reference of layer 7: Check. -/
namespace Go.Proofs.YtapjhmfbmkckaaaGreatDoor
open Go Go.RowKit Go.Shelf
open Go.Sort Go.Maps
open M

theorem code_cell {w : World} {g : Nat} (h : w.heap[g]? = some (.cells #[.int .i64 5, .int .i64 4, .int .i64 6, .int .i64 10] 3 (0, 0))) (c : Nat) (hc : c < 4) : w.cell? ⟨g, c, none⟩ = some (.int .i64 (codeN c)) := by
  have h4 : c = 0 ∨ c = 1 ∨ c = 2 ∨ c = 3 := by omega
  rw [Lib.cell_of_heap h]
  rcases h4 with rfl | rfl | rfl | rfl <;> rfl

set_option maxRecDepth 100000 in
set_option maxHeartbeats 16000000 in
theorem rcheck_any (m : Mo) (l : List Value) (w : World) (h : MoAt w l m) (hM : ∀ d ∈ m.decs, many d.typ ≤ 9000) :
    Calls Tryz.prog 13 #[.agg l.toArray] w fun e w' => ∃ b p : Int, e = .returned (.tuple #[.int .i64 b, .int .i64 p]) ∧ RkOut m b p ∧ Below w.heap.size w w' := by
  have HM := Lib.hid hM
  have HV := Lib.hid h
  obtain ⟨Ai, ci, Ad, cd, rfl, z1, z2, z3, hIm, -⟩ := h
  have HIm := Lib.hid hIm
  obtain ⟨n, hn⟩ : ∃ n, n = m.decs.length := ⟨_, rfl⟩
  obtain ⟨ni, hni⟩ : ∃ ni, ni = m.imps.length := ⟨_, rfl⟩
  have HN := Lib.hid hn
  have HNI := Lib.hid hni
  rw [← hn, ← hni] at HV ⊢
  rw [← hni] at z2
  rw [← hn] at z3
  obtain ⟨w0, hw0⟩ : ∃ w0, w0 = w.alloc (.cells #[.string m.name, .slice Ai ni ci, .slice Ad n cd] 25) := ⟨_, rfl⟩
  have B0 : Below w.heap.size w w0 := by rw [hw0]; exact below_new (Below.refl _ _) _
  have O0 : w0.heap[w.heap.size]? = some (.cells #[.string m.name, .slice Ai ni ci, .slice Ad n cd] 25 (0, 0)) := by rw [hw0]; exact heap_alloc_new w _
  have hl0 : w.heap.size < w0.heap.size := by rw [hw0]; simp
  have HB0 := Lib.hid B0
  have HO0 := Lib.hid O0
  have HW0 := Lib.hid hw0
  have x0 := Lib.cell_of_heap O0 0
  have x1 := Lib.cell_of_heap O0 1
  have x2 := Lib.cell_of_heap O0 2
  simp at x0 x1 x2
  clear hM hIm hn hni hw0 B0 O0
  go_enter Tryz.func13, Tryz.ntmps13
  go_upto_region 1 with fail
  rw [← HW0.out]
  clear HW0
  go_wp2_with fail
  refine (rmay6_any m _ _ (HV.out.below HB0.out) HM.out).mono ?_; rintro e w1 ⟨rfl, hb1⟩
  have HB1 := Lib.hid (below_over HB0.out hb1)
  have HP : Hid (∀ wx, Below w1.heap.size w1 wx → wx.heap[w.heap.size]? = some (.cells #[.string m.name, .slice Ai ni ci, .slice Ad n cd] 25 (0, 0))) := Lib.hid (fun wx hb => (hb.block _ (Nat.lt_of_lt_of_le hl0 hb1.size)).trans ((hb1.block _ hl0).trans HO0.out))
  clear x0 x1 x2 hb1 HO0
  rcases hid_or (mayM m) with hm | hm
  · rw [hm.out]
    have RES : Hid (RkOut m 1 (-1)) := Lib.hid (.inl ⟨hm.out, rfl, rfl⟩)
    go_wp2_with fail
    go_ret2
    exact ⟨_, _, rfl, RES.out, HB1.out⟩
  rw [hm.out]
  have hn60 : n ≤ 60 := by rw [HN.out]; exact (mayM_parts hm.out).2.1
  have hi20 : ni ≤ 20 := by rw [HNI.out]; exact (mayM_parts hm.out).1
  have BC : Hid (∀ wx, Below w1.heap.size w1 wx → ∀ i c : Nat, i < n → c < 4 → Calls Tryz.prog 46 #[.agg #[.string m.name, .slice Ai ni ci, .slice Ad n cd], .int .i64 i, .int .i64 (codeN c)] wx fun e w' => e = .returned (.bool (badN m i (codeN c))) ∧ Below wx.heap.size wx w') := Lib.hid (fun wx hb i c hi hc => rbad_any m _ i c wx (HV.out.below (below_over HB1.out hb)) hm.out HM.out (by rw [← HN.out]; exact hi) hc)
  go_wp2_with fail
  go_loopw [5] (fun s5 wr => ∃ i : Nat, i ≤ ni ∧ s5 = .int .i64 i ∧ Hid (∀ j, j < i → dupB (·.asn) m.imps j = false) ∧ Hid (Below w1.heap.size w1 wr)) (fun s5 _ => ni - (intOf s5).toNat)
  case atStart => exact ⟨0, by omega, rfl, Lib.hid (fun j h => by omega), Lib.hid (Below.refl _ _)⟩
  case round =>
    obtain ⟨i, hi, rfl, HNO, HBo⟩ := hrel
    obtain ⟨wo, rfl⟩ : ∃ wo : World, wo = wr := ⟨_, rfl⟩
    have X := HP.out wo HBo.out
    have x1 := Lib.cell_of_heap X 1
    simp at x1
    by_cases hlt : i < ni
    · obtain ⟨x, hx⟩ : ∃ x, m.imps[i]? = some x := ⟨_, List.getElem?_eq_getElem (by rw [← HNI.out]; exact hlt)⟩
      have HX := Lib.hid hx
      have hi0 : (0 : Int) ≤ i := by omega
      have hi1 : (i : Int) < ni := by omega
      clear hx X
      go_wp2_with fail
      clear x1
      go_loopw [6] (fun s6 wr => ∃ k : Nat, k ≤ i ∧ s6 = .int .i64 k ∧ Hid (∀ y ∈ m.imps.take k, decide (y.asn = x.asn) = false) ∧ Hid (Below wo.heap.size wo wr)) (fun s6 _ => i - (intOf s6).toNat)
      case atStart => exact ⟨0, by omega, rfl, Lib.hid (by simp), Lib.hid (Below.refl _ _)⟩
      case round =>
        obtain ⟨k, hk, rfl, HNK, HBi⟩ := hrel
        obtain ⟨wi, rfl⟩ : ∃ wi : World, wi = wr := ⟨_, rfl⟩
        have HBiw : Hid (Below w1.heap.size w1 wi) := Lib.hid (below_over HBo.out HBi.out)
        by_cases hkl : k < i
        · obtain ⟨y, hy⟩ : ∃ y, m.imps[k]? = some y := ⟨_, List.getElem?_eq_getElem (by rw [← HNI.out]; omega)⟩
          have HIi := HIm.out.below (below_over HB1.out HBiw.out)
          obtain ⟨g, o, rfl, -, a0, a1, a2, a3, -⟩ := HIi.im hy
          obtain ⟨g', o', hA, -, b0, b1, b2, b3, -⟩ := HIi.im HX.out
          cases hA
          have X := HP.out wi HBiw.out
          have x1 := Lib.cell_of_heap X 1
          simp at x1
          have hq := str_eq y.asn x.asn
          have HYY := Lib.hid hy
          have hk0 : (0 : Int) ≤ k := by omega
          have hk1 : (k : Int) < ni := by omega
          have hk2 : (k : Int) < i := by omega
          clear hy X HIi
          by_cases hs : y.asn = x.asn
          · rw [decide_eq_true hs] at hq
            have RES : Hid (RkOut m 5 i) := Lib.hid (rk_imp hm.out (by rw [← HNI.out]; exact hlt) HNO.out (by
              rw [dupB_some HX.out, List.any_eq_true]
              exact ⟨y, List.mem_of_getElem? (i := k) (by rw [List.getElem?_take, if_pos hkl]; exact HYY.out), by simpa using hs⟩))
            clear hs
            go_wp2_with fail
            go_quiet (fail)
            go_wp2_with fail
            go_ret2
            exact ⟨_, _, rfl, RES.out, below_drewN (below_over HB1.out HBiw.out) _⟩
          · rw [decide_eq_false hs] at hq
            have NX : Hid (∀ z ∈ m.imps.take (k + 1), decide (z.asn = x.asn) = false) := Lib.hid (fun z hz => by
              rw [List.take_add_one, HYY.out] at hz
              rcases List.mem_append.1 hz with h | h
              · exact HNK.out z h
              · simp at h; rw [h]; simpa using hs)
            clear hs
            go_wp2_with fail
            go_quiet (fail)
            go_wp2_with fail
            go_roundw
            case rel => exact ⟨k + 1, by omega, by go_num, NX, Lib.hid (below_drewN HBi.out _)⟩
            case measure => simp [intOf]; omega
        · have hki : k = i := by omega
          have NX : Hid (∀ j, j < i + 1 → dupB (·.asn) m.imps j = false) := Lib.hid (fun j hj => by
            rcases Nat.lt_or_ge j i with h | h
            · exact HNO.out j h
            · obtain rfl : j = i := by omega
              rw [dupB_some HX.out, List.any_eq_false]
              intro z hz
              have := HNK.out z (by rw [hki]; exact hz)
              simpa using this)
          clear hki
          go_wp2_with fail
          go_roundw
          case rel => exact ⟨i + 1, by omega, by go_num, NX, HBiw⟩
          case measure => simp [intOf]; omega
    · have hni' : i = ni := by omega
      have HNO' : Hid (∀ j, j < m.imps.length → dupB (·.asn) m.imps j = false) := Lib.hid (fun j hj => HNO.out j (by rw [hni', HNI.out]; exact hj))
      clear hni' HNO X
      obtain ⟨w2, hw2⟩ : ∃ w2, w2 = wo.alloc (.cells #[.int .i64 5, .int .i64 4, .int .i64 6, .int .i64 10] 3) := ⟨_, rfl⟩
      have B2 : Below wo.heap.size wo w2 := by rw [hw2]; exact below_new (Below.refl _ _) _
      have X2 : w2.heap[wo.heap.size]? = some (.cells #[.int .i64 5, .int .i64 4, .int .i64 6, .int .i64 10] 3 (0, 0)) := by rw [hw2]; exact heap_alloc_new wo _
      have hl2 : wo.heap.size < w2.heap.size := by rw [hw2]; simp
      have HB2 : Hid (Below w1.heap.size w1 w2) := Lib.hid (below_over HBo.out B2)
      have HX2 := Lib.hid X2
      have HW2 := Lib.hid hw2
      clear hw2 B2 X2
      go_upto_region 13 with fail
      rw [← HW2.out]
      clear x1
      go_wp2_with fail
      go_loopw [8] (fun s8 wr => ∃ c : Nat, c ≤ 4 ∧ s8 = .int .i64 c ∧ Hid (∀ c', c' < c → ∀ i, i < m.decs.length → badN m i (codeN c') = false) ∧ Hid (Below w2.heap.size w2 wr)) (fun s8 _ => 4 - (intOf s8).toNat)
      case atStart => exact ⟨0, by omega, rfl, Lib.hid (fun c h => by omega), Lib.hid (Below.refl _ _)⟩
      case round =>
        obtain ⟨c, hc, rfl, HNC, HBc⟩ := hrel
        obtain ⟨wc, rfl⟩ : ∃ wc : World, wc = wr := ⟨_, rfl⟩
        by_cases hc4 : c < 4
        · have hc0 : (0 : Int) ≤ c := by omega
          have hc1 : (c : Int) < 4 := by omega
          go_wp2_with fail
          go_loopw [9] (fun s9 wr => ∃ i : Nat, i ≤ n ∧ s9 = .int .i64 i ∧ Hid (∀ j, j < i → badN m j (codeN c) = false) ∧ Hid (Below wc.heap.size wc wr)) (fun s9 _ => n - (intOf s9).toNat)
          case atStart => exact ⟨0, by omega, rfl, Lib.hid (fun j h => by omega), Lib.hid (Below.refl _ _)⟩
          case round =>
            obtain ⟨j, hj, rfl, HNJ, HBj⟩ := hrel
            obtain ⟨wj, rfl⟩ : ∃ wj : World, wj = wr := ⟨_, rfl⟩
            have HBj2 : Hid (Below w2.heap.size w2 wj) := Lib.hid (below_over HBc.out HBj.out)
            have HBj1 : Hid (Below w1.heap.size w1 wj) := Lib.hid (below_over HB2.out HBj2.out)
            have X := HP.out wj HBj1.out
            have x0 := Lib.cell_of_heap X 0
            have x1 := Lib.cell_of_heap X 1
            have x2 := Lib.cell_of_heap X 2
            simp at x0 x1 x2
            have hcc := code_cell ((HBj2.out.block _ hl2).trans HX2.out) c hc4
            by_cases hjl : j < n
            · obtain ⟨q, hq⟩ : ∃ q, q = badN m j (codeN c) := ⟨_, rfl⟩
              have cB : ∀ dd os, Calls Tryz.prog 46 #[.agg #[.string m.name, .slice Ai ni ci, .slice Ad n cd], .int .i64 j, .int .i64 (codeN c)] (Sort.grow (redrawn wj dd) os) fun e w'' => e = .returned (.bool q) ∧ ∃ pp : Regrown, w'' = Sort.grow (redrawn wj pp.d) pp.os := fun dd os => Calls.regrown_of (by rw [hq]; exact BC.out _ (HBj1.out.trans ((below_regrown wj dd os).mono HBj1.out.size)) j c hjl hc4)
              have HQ := Lib.hid hq
              clear hq X
              go_upto_region 19 with fail
              have p0 := cell_regrown x0
              have p1 := cell_regrown x1
              have p2 := cell_regrown x2
              have pc := cell_regrown hcc
              clear x0 x1 x2 hcc
              refine wp_region_quiet_below (by kernel_rfl) (by kernel_rfl) ?_
              repeat (any_goals (first | go_big_quiet_step (with_reducible exact cB _ _) | quiet_step (with_reducible exact cB _ _)))
              refine wpQuiet_nil ?_
              intro w5 hw'
              have HB5 : Hid (Below wj.heap.size wj w5) := Lib.hid (by
                obtain ⟨⟨dq, osq⟩, hw''⟩ := hw'
                rw [hw'']
                exact below_regrown wj dq osq)
              clear hw' cB p0 p1 p2 pc
              have hcc5 := code_cell (((below_over HBj2.out HB5.out).block _ hl2).trans HX2.out) c hc4
              cases q with
              | true =>
                have RES : Hid (RkOut m (codeN c) j) := Lib.hid (rk_dec hm.out HNO'.out hc4 HNC.out (by rw [← HN.out]; exact hjl) HNJ.out HQ.out.symm)
                go_wp2_with fail
                go_ret2
                exact ⟨_, _, rfl, RES.out, below_over HB1.out (below_over HBj1.out HB5.out)⟩
              | false =>
                have NX : Hid (∀ j', j' < j + 1 → badN m j' (codeN c) = false) := Lib.hid (fun j' hj' => by
                  rcases Nat.lt_or_ge j' j with h | h
                  · exact HNJ.out j' h
                  · obtain rfl : j' = j := by omega
                    exact HQ.out.symm)
                clear hcc5
                go_wp2_with fail
                go_roundw
                case rel => exact ⟨j + 1, by omega, by go_num, NX, Lib.hid (below_over HBj.out HB5.out)⟩
                case measure => simp [intOf]; omega
            · have hjn : j = n := by omega
              have NX : Hid (∀ c', c' < c + 1 → ∀ i, i < m.decs.length → badN m i (codeN c') = false) := Lib.hid (fun c' hc' i hi => by
                rcases Nat.lt_or_ge c' c with h | h
                · exact HNC.out c' h i hi
                · obtain rfl : c' = c := by omega
                  exact HNJ.out i (by rw [hjn, HN.out]; exact hi))
              clear hjn X x0 x1 hcc
              go_wp2_with fail
              go_roundw
              case rel => exact ⟨c + 1, by omega, by go_num, NX, HBj2⟩
              case measure => simp [intOf]; omega
        · have hc4' : c = 4 := by omega
          have RES : Hid (RkOut m 0 (-1)) := Lib.hid (rk_none hm.out HNO'.out (fun c' hc' i hi => HNC.out c' (by omega) i hi))
          have FB : Hid (Below w.heap.size w wc) := Lib.hid (below_over HB1.out (below_over HB2.out HBc.out))
          clear hc4'
          go_wp2_with fail
          go_ret2
          exact ⟨_, _, rfl, RES.out, FB.out⟩

end Go.Proofs.YtapjhmfbmkckaaaGreatDoor

/- errors.As at an error that is a Code, and at none; what the laws ask of a Code, of a Spot, of none. -/
namespace Go.Proofs.YtapjhmfbmkckaaaGreatDoor
open Go.RowKit Go.Extern.Stop Go.Stop Go.Extern

theorem cd_assignable (w : World) : (ReflectliteType.relation "AssignableTo" ReflectliteType.assignableTo #[.agg #[.pointer (some ⟨4, 70, none⟩)], .iface 194 (.agg #[.pointer (some ⟨4, 91, none⟩)])]).run Tryz.prog w = .ok (.bool false) w := by kernel_rfl
theorem cd_noAs (v : Value) (xT : TypeId) (w : World) : (Instr.typeAssert (.iface 70 v) xT 198 true).run Tryz.prog w = .ok (.tuple #[.nilIface, .bool false]) w := run_typeAssert_lacksB Tryz.underlying198 (by kernel_rfl) (by kernel_rfl) v xT w
theorem cd_noUnwrap (v : Value) (xT : TypeId) (w : World) : (Instr.typeAssert (.iface 70 v) xT 201 true).run Tryz.prog w = .ok (.tuple #[.nilIface, .bool false]) w := run_typeAssert_lacksB Tryz.underlying201 (by kernel_rfl) (by kernel_rfl) v xT w
theorem cd_noUnwraps (v : Value) (xT : TypeId) (w : World) : (Instr.typeAssert (.iface 70 v) xT 203 true).run Tryz.prog w = .ok (.tuple #[.nilIface, .bool false]) w := run_typeAssert_lacksB Tryz.underlying203 (by kernel_rfl) (by kernel_rfl) v xT w

set_option maxHeartbeats 4000000 in
theorem as_code (c : Int) (t : Addr) (old : Value) (w : World) (hg : ErrT w) (ht0 : w.cell? t = some old) :
    Calls Tryz.prog 59 #[.iface 70 (.int .i64 c), .iface 105 (.pointer (some t))] w fun ev w' => ev = .returned (.bool false) ∧ w' = (((w.alloc (.cells #[.pointer (some t)] 105)).alloc (.cells #[.pointer (some ⟨4, 105, none⟩), .pointer (some ⟨w.heap.size, 0, none⟩), .int .u64 150] 137)).alloc (.cells #[.pointer (some ⟨4, 105, none⟩), .pointer (some ⟨w.heap.size, 0, none⟩), .int .u64 150] 137)) := by
  have h6 := @run_callFunc_extern Tryz.prog 96 _ (fun args => ReflectliteValue.unpack (args.getD 0 (.tuple #[]))) Tryz.func96 (by kernel_rfl) (by kernel_rfl) (by kernel_rfl) (by kernel_rfl)
  have h7 := @run_callFunc_extern Tryz.prog 97 _ (ReflectliteValue.methodAny (ReflectliteValue.valueError "reflectlite.Value.Type" 0) (fun t _ _ _ => ReflectliteType.toType t)) Tryz.func97 (by kernel_rfl) (by kernel_rfl) (by kernel_rfl) (by kernel_rfl)
  have h8 := @run_callFunc_extern Tryz.prog 98 _ (ReflectliteValue.method (ReflectliteValue.valueError "reflectlite.Value.IsNil" 0) ReflectliteValue.isNil) Tryz.func98 (by kernel_rfl) (by kernel_rfl) (by kernel_rfl) (by kernel_rfl)
  have h27 := @run_callFunc_extern Tryz.prog 201 _ (ReflectliteType.abiMethod fun t => do pure (.int .u8 (← Rtype.kind t))) Tryz.func201 (by kernel_rfl) (by kernel_rfl) (by kernel_rfl) (by kernel_rfl)
  have h37 := @run_callFunc_extern Tryz.prog 214 _ (ReflectliteType.method ReflectliteType.elem) Tryz.func214 (by kernel_rfl) (by kernel_rfl) (by kernel_rfl) (by kernel_rfl)
  have h38 := @run_callFunc_extern Tryz.prog 215 _ (ReflectliteType.relation "Implements" ReflectliteType.implements_) Tryz.func215 (by kernel_rfl) (by kernel_rfl) (by kernel_rfl) (by kernel_rfl)
  have h10 := @run_callFunc_extern Tryz.prog 116 _ ReflectliteType.typeOf Tryz.func116 (by kernel_rfl) (by kernel_rfl) (by kernel_rfl) (by kernel_rfl)
  have h35 := @run_callFunc_extern Tryz.prog 212 _ (ReflectliteType.relation "AssignableTo" ReflectliteType.assignableTo) Tryz.func212 (by kernel_rfl) (by kernel_rfl) (by kernel_rfl) (by kernel_rfl)
  have tO := sp_typeOfC
  have mA := sp_methodAssignableTo
  have a25 := cd_assignable
  have nA := cd_noAs
  have nU := cd_noUnwrap
  have nV := cd_noUnwraps
  have f6 := sp_valueOfPP
  have f7 := sp_typePP
  have mK := sp_methodKind
  have mE := sp_methodElem
  have mI := sp_methodImplements
  have k27 := sp_kindPP
  have k25 := sp_kindP
  have e27 := sp_elemPP
  have i25 := sp_implements
  have n8 := sp_isNilPP ⟨w.heap.size, 0, none⟩ t ((w.alloc (.cells #[.pointer (some t)] 105)).alloc (.cells #[.pointer (some ⟨4, 105, none⟩), .pointer (some ⟨w.heap.size, 0, none⟩), .int .u64 150] 137)) (by simp)
  have hlt : 0 < w.heap.size := hg.lt
  have hg2 : ((w.alloc (.cells #[.pointer (some t)] 105)).alloc (.cells #[.pointer (some ⟨4, 105, none⟩), .pointer (some ⟨w.heap.size, 0, none⟩), .int .u64 150] 137)).cell? ⟨0, 0, none⟩ = some (.iface 194 (.agg #[.pointer (some ⟨4, 34, none⟩)])) := by
    rw [World.cell?_alloc_lt _ _ ⟨0, 0, none⟩ (by simp <;> omega), World.cell?_alloc_lt _ _ ⟨0, 0, none⟩ hlt]; exact hg
  go_enter Tryz.func59, Tryz.ntmps59
  go_wp2
  refine wp_loop_rounds 1 ?_
  rw [rounds_succ]
  go_wp2
  go_ret
  exact ⟨rfl, rfl⟩

set_option maxHeartbeats 4000000 in
theorem as_none (t : Addr) (w : World) :
    Calls Tryz.prog 59 #[.nilIface, .iface 105 (.pointer (some t))] w fun ev w' => ev = .returned (.bool false) ∧ Below w.heap.size w w' := by
  go_enter Tryz.func59, Tryz.ntmps59
  go_wp2
  go_ret
  exact ⟨rfl, Below.refl _ _⟩

end Go.Proofs.YtapjhmfbmkckaaaGreatDoor

/- The law's own question, which Code an error is: none, or a Code. -/
namespace Go.Proofs.YtapjhmfbmkckaaaGreatDoor
open Go.RowKit Go.Extern.Stop Go.Stop Go.Extern

theorem cd_eqNil (c : Int) (w : World) : (binOp .eql 34 (.iface 70 (.int .i64 c)) .nilIface).run Tryz.prog w = .ok (.bool false) w := by kernel_rfl

set_option maxHeartbeats 4000000 in
theorem codeN_none (w : World) : Calls Tryz.prog 31 #[.nilIface] w fun ev w' => ev = .returned (.int .i64 0) ∧ Below w.heap.size w w' := by
  go_enter Tryz.func31, Tryz.ntmps31
  go_wp2
  go_ret
  exact ⟨rfl, Below.refl _ _⟩

set_option maxRecDepth 100000 in
set_option maxHeartbeats 4000000 in
theorem codeN_code (c : Nat) (h1 : 1 ≤ c) (h2 : c ≤ 12) (w : World) : Calls Tryz.prog 31 #[.iface 70 (.int .i64 c)] w fun ev w' => ev = .returned (.int .i64 c) ∧ Below w.heap.size w w' := by
  have heq : ∀ k : Nat, ∀ w : World, (binOp .eql 34 (.iface 70 (.int .i64 c)) (.iface 70 (.int .i64 k))).run Tryz.prog w = .ok (.bool (decide (c = k))) w := fun k w => by
    rw [sp_eqCode]
    congr 2
    rw [Bool.eq_iff_iff, beq_iff_eq, decide_eq_true_eq]
    omega
  go_enter Tryz.func31, Tryz.ntmps31
  go_wp2_with fail
  go_loopw [3] (fun iv wr => ∃ k : Nat, 1 ≤ k ∧ k ≤ c ∧ iv = .int .i64 k ∧ Hid (Below w.heap.size w wr)) (fun iv _ => 20 - (intOf iv).toNat)
  case atStart => exact ⟨1, by omega, by omega, rfl, Lib.hid (Below.refl _ _)⟩
  case round =>
    obtain ⟨k, hk1, hk, rfl, HB⟩ := hrel
    obtain ⟨wo, rfl⟩ : ∃ wo : World, wo = wr := ⟨_, rfl⟩
    have h12 : (k : Int) ≤ 12 := by omega
    have hle : ∀ w : World, (binOp .leq 70 (.int .i64 (k : Int)) (.int .i64 12)).run Tryz.prog w = .ok (.bool true) w := fun w => by simp [go_sem, h12]
    have hq := heq k
    by_cases hc : c = k
    · obtain ⟨b, hb⟩ : ∃ b, b = decide (c = k) := ⟨_, rfl⟩
      rw [← hb] at hq
      obtain rfl : b = true := by rw [hb]; exact decide_eq_true hc
      have HC := Lib.hid hc
      clear hc hb heq
      go_wp2_with fail
      go_ret
      exact ⟨by rw [HC.out]; rfl, HB.out⟩
    · rw [decide_eq_false hc] at hq
      have hlt : k < c := by omega
      clear hc heq
      go_wp2_with fail
      go_roundw
      case rel => exact ⟨k + 1, by omega, by omega, by go_num, HB⟩
      case measure => simp [intOf]; omega

end Go.Proofs.YtapjhmfbmkckaaaGreatDoor

/- The law's own question, which Code an error is or tells of, and at which place. -/
namespace Go.Proofs.YtapjhmfbmkckaaaGreatDoor
open Go.RowKit Go.Extern.Stop Go.Stop Go.Extern
open Go.Sort

set_option maxHeartbeats 2000000 in
theorem of_none (w : World) : Calls Tryz.prog 21 #[.nilIface] w fun e w' => e = .returned (.tuple #[.int .i64 0, .int .i64 (-1)]) ∧ Below w.heap.size w w' := by
  go_enter Tryz.func21, Tryz.ntmps21
  go_wp2_with fail
  refine (as_none _ _).mono ?_; rintro e w1 ⟨rfl, hb1⟩
  have HB1 : Hid (Below w.heap.size w w1) := Lib.hid (below_over (below_new (Below.refl _ _) _) hb1)
  clear hb1
  go_wp2_with fail
  refine (codeN_none _).mono ?_; rintro e w2 ⟨rfl, hb2⟩
  have HB2 : Hid (Below w.heap.size w w2) := Lib.hid (below_over HB1.out hb2)
  clear hb2
  go_wp2_with fail
  go_ret2
  exact ⟨rfl, HB2.out⟩

set_option maxHeartbeats 2000000 in
theorem of_code (c : Nat) (h1 : 1 ≤ c) (h2 : c ≤ 12) (w : World) (hg : ErrT w) : Calls Tryz.prog 21 #[.iface 70 (.int .i64 c)] w fun e w' => e = .returned (.tuple #[.int .i64 c, .int .i64 (-1)]) ∧ Below w.heap.size w w' := by
  have CD := Lib.hid (fun w => codeN_code c h1 h2 w)
  clear h1 h2
  go_enter Tryz.func21, Tryz.ntmps21
  go_wp2_with fail
  refine (as_code c _ (.pointer none) _ (hg.on (below_new (Below.refl _ _) _)) (by go_simp)).mono ?_; rintro e w1 ⟨rfl, hw1⟩
  have HB1 : Hid (Below w.heap.size w w1) := Lib.hid (by rw [hw1]; exact below_new (below_new (below_new (below_new (Below.refl _ _) _) _) _) _)
  clear hw1
  go_wp2_with fail
  refine (CD.out _).mono ?_; rintro e w2 ⟨rfl, hb2⟩
  have HB2 : Hid (Below w.heap.size w w2) := Lib.hid (below_over HB1.out hb2)
  clear hb2
  go_wp2_with fail
  go_ret2
  exact ⟨rfl, HB2.out⟩

set_option maxHeartbeats 4000000 in
theorem of_spot (b : Nat) (p : Int) (c : Nat) (h1 : 1 ≤ c) (h2 : c ≤ 12) (w : World) (hg : ErrT w) (hb : b < w.heap.size) (k0 : w.cell? ⟨b, 0, none⟩ = some (.int .i64 p)) (k1 : w.cell? ⟨b, 1, none⟩ = some (.iface 70 (.int .i64 c))) :
    Calls Tryz.prog 21 #[.iface 91 (.pointer (some ⟨b, 0, none⟩))] w fun e w' => e = .returned (.tuple #[.int .i64 c, .int .i64 p]) ∧ Below w.heap.size w w' := by
  have CD := Lib.hid (fun w => codeN_code c h1 h2 w)
  have HB := Lib.hid hb
  have H0 := Lib.hid k0
  have H1 := Lib.hid k1
  clear h1 h2 hb k0 k1
  go_enter Tryz.func21, Tryz.ntmps21
  go_wp2_with fail
  refine (as_below _ w _ (.pointer none) (hg.on (below_new (Below.refl _ _) _)) (below_new (Below.refl _ _) _) (by go_simp) (by go_simp)).mono ?_; rintro e w1 ⟨rfl, ct, hb1⟩
  have c0 := cell_on hb1 HB.out H0.out
  have c1 := cell_on hb1 HB.out H1.out
  have HB1 := Lib.hid hb1
  clear hb1
  go_upto_region 5 with fail
  have cC : ∀ dd os, Calls Tryz.prog 31 #[.iface 70 (.int .i64 c)] (Sort.grow (redrawn w1 dd) os) fun e w'' => e = .returned (.int .i64 c) ∧ ∃ pp : Regrown, w'' = Sort.grow (redrawn w1 pp.d) pp.os := fun dd os => Calls.regrown_of (CD.out _)
  have pt := cell_regrown ct
  have p0 := cell_regrown c0
  have p1 := cell_regrown c1
  clear ct c0 c1
  refine wp_region_quiet_below (by kernel_rfl) (by kernel_rfl) ?_
  repeat (any_goals (first | go_big_quiet_step (with_reducible exact cC _ _) | quiet_step (with_reducible exact cC _ _)))
  refine wpQuiet_nil ?_
  intro _ hw'
  obtain ⟨⟨dq, osq⟩, hw''⟩ := hw'
  subst hw''
  have HBQ := Lib.hid (below_over HB1.out (below_regrown w1 dq osq))
  go_wp2_with fail
  go_ret2
  exact ⟨rfl, HBQ.out⟩

end Go.Proofs.YtapjhmfbmkckaaaGreatDoor

/- The walk of ScopeChecks: whatever module, whatever type. -/
namespace Go.Proofs.YtapjhmfbmkckaaaGreatDoor
open Go Go.RowKit Go.Shelf
open Go.Sort Go.Maps
open M

/-- Told, of what Check tells, held against the reference's answer. -/
theorem told7_any {m : Mo} {w : World} {e : Ending} {w' : World} {b p : Int} (h : CkAny w m e w') (hr : RkOut m b p) (wx : World) (hb : Below w'.heap.size w' wx) (hg : ErrT wx) : ∃ v, e = .returned v ∧ Calls Tryz.prog 14 #[v, .int .i64 b, .int .i64 p] wx fun e w'' => e = .returned (.bool true) ∧ Below wx.heap.size wx w'' := by
  rcases h with ⟨hm, rfl⟩ | ⟨hm, h⟩
  · rcases hr with ⟨-, rfl, rfl⟩ | ⟨hm', -⟩
    rotate_left
    · rw [hm] at hm'; cases hm'
    refine ⟨_, rfl, ?_⟩
    have CD := Lib.hid (codeN_code 1 (by decide) (by decide) wx)
    go_enter Tryz.func14, Tryz.ntmps14
    go_wp2_with fail
    refine CD.out.mono ?_; rintro e w2 ⟨rfl, hb2⟩
    go_wp2_with fail
    go_ret
    exact ⟨rfl, hb2⟩
  · rcases hr with ⟨hm', -⟩ | ⟨-, hr⟩
    · rw [hm] at hm'; cases hm'
    unfold CkOut at h
    cases hc : check7 m with
    | none =>
      rw [hc] at h hr
      obtain ⟨rfl, rfl⟩ := hr
      subst h
      refine ⟨_, rfl, ?_⟩
      have CD := Lib.hid (codeN_none wx)
      go_enter Tryz.func14, Tryz.ntmps14
      go_wp2_with fail
      refine CD.out.mono ?_; rintro e w2 ⟨rfl, hb2⟩
      go_wp2_with fail
      go_ret
      exact ⟨rfl, hb2⟩
    | some q =>
      obtain ⟨i, c⟩ := q
      rw [hc] at h hr
      obtain ⟨rfl, rfl⟩ := hr
      obtain ⟨g, rfl, -, hsp⟩ := h
      have hgl := (Array.getElem?_eq_some_iff.1 hsp).1
      have hsp' := (hb.block g hgl).trans hsp
      have hp0 : 0 ≤ p := by
        have := List.find?_some hc
        simpa using this
      have hp1 : ¬ p < 0 := by omega
      have IS := Lib.hid (isSpot_any g p b wx hg (Nat.lt_of_lt_of_le hgl hb.size) (by rw [Lib.cell_of_heap hsp' 0]; rfl) (by rw [Lib.cell_of_heap hsp' 1]; rfl))
      refine ⟨_, rfl, ?_⟩
      clear hsp hsp' hc hp0
      go_enter Tryz.func14, Tryz.ntmps14
      go_wp2_with fail
      refine IS.out.mono ?_; rintro e w2 ⟨rfl, hb2⟩
      go_wp2_with fail
      go_ret
      exact ⟨rfl, hb2⟩

/-- What Mentions tells, and the reference: a slice of these texts. -/
def MnOut (w : World) (r : List (List UInt8)) (e : Ending) (w' : World) : Prop := ∃ (A : Option Addr) (c : Nat), e = .returned (.slice A r.length c) ∧ StrsAt w' A r ∧ Below w.heap.size w w'
theorem StrsAt.below {w w' : World} {A : Option Addr} {r : List (List UInt8)} (h : StrsAt w A r) (hb : Below w.heap.size w w') : StrsAt w' A r := fun i x hx => by
  obtain ⟨g, hA, hg, hc⟩ := h i x hx
  exact ⟨g, hA, Nat.lt_of_lt_of_le hg hb.size, (hb.cell (p := ⟨g, i, none⟩) hg).trans hc⟩
noncomputable def mnAll (m : Mo) (t : Ty) : List (List UInt8) := if (mayM m && mayT t) = true then sortS (mentN m t m.decs.length) else []
theorem sortS_len (l : List ByteArray) : (sortS l).length = l.length := by unfold sortS; rw [List.length_mergeSort, List.length_map]
theorem ment_all (m : Mo) (l : List Value) (t : Ty) (v : Value) (w : World) (h : MoAt w l m) (hv : TyV w v t) (hM : ∀ d ∈ m.decs, many d.typ ≤ 9000) :
    Calls Tryz.prog 15 #[.agg l.toArray, v] w (MnOut w (mnAll m t)) := by
  unfold mnAll
  by_cases hmt : (mayM m && mayT t) = true
  · rw [if_pos hmt]
    rw [Bool.and_eq_true] at hmt
    refine (ment_yes m l t v w h hv hmt.1 hmt.2 h.names.1 (fun d hd => ⟨hM d hd, h.names.2 d hd⟩) (fun d hd => ?_)).mono ?_
    · have := mayD_name ((mayM_parts hmt.1).2.2.2 d hd); omega
    · rintro e w' ⟨A, c, rfl, hs, hb⟩
      exact ⟨A, c, by rw [sortS_len], hs, hb⟩
  · rw [if_neg hmt]
    refine (ment_no m l t v w h hv (by simpa using hmt)).mono ?_
    rintro e w' ⟨rfl, hb⟩
    exact ⟨none, 0, rfl, fun i x hx => by simp at hx, hb⟩

set_option maxRecDepth 100000 in
set_option maxHeartbeats 16000000 in
theorem scopeChecks_any (m : Mo) (l : List Value) (t : Ty) (v : Value) (w : World) (hv : MoAt w l m) (hcap : CapsAt l m) (ht : TyV w v t) (hg : ErrT w) :
    Calls Tryz.prog 3 #[.agg l.toArray, v] w fun e w' => e = .returned (.bool true) ∧ Below w.heap.size w w' := by
  have HV := Lib.hid hv
  have HG := Lib.hid hg
  have HTV := Lib.hid ht
  have HCP := Lib.hid hcap
  obtain ⟨Ai, ci, Ad, cd, rfl, -, -, -, -, -⟩ := hv
  obtain ⟨lv, rfl, hvA⟩ := ht
  obtain ⟨An, cA, As, cS, rfl, -⟩ := hvA.parts
  clear hg hcap hvA
  obtain ⟨wb, hwb, BB, OM, OT, hlb⟩ := two_boxes w #[.string m.name, .slice Ai m.imps.length ci, .slice Ad m.decs.length cd] #[.int .i64 t.kind, .string t.pkg, .int .i64 t.major, .string t.mod, .string t.name, .slice An t.names.length cA, .slice As t.subs.length cS] 25 29
  have HBB := Lib.hid BB
  have HXm : Hid (∀ w', Below wb.heap.size wb w' → ∀ i v, (#[.string m.name, .slice Ai m.imps.length ci, .slice Ad m.decs.length cd] : Array Value)[i]? = some v → w'.cell? ⟨w.heap.size, i, none⟩ = some v) := Lib.hid (fun w' hb i v hv => by
    rw [(bcell hb).1 _ _ (by omega), Lib.cell_of_heap OM]; exact hv)
  have HXt : Hid (∀ w', Below wb.heap.size wb w' → ∀ i v, (#[.int .i64 t.kind, .string t.pkg, .int .i64 t.major, .string t.mod, .string t.name, .slice An t.names.length cA, .slice As t.subs.length cS] : Array Value)[i]? = some v → w'.cell? ⟨w.heap.size + 1, i, none⟩ = some v) := Lib.hid (fun w' hb i v hv => by
    rw [(bcell hb).1 _ _ hlb, Lib.cell_of_heap OT]; exact hv)
  have HV0 : Hid (∀ w', Below wb.heap.size wb w' → MoAt w' [.string m.name, .slice Ai m.imps.length ci, .slice Ad m.decs.length cd] m) := Lib.hid (fun w' hb => HV.out.below (below_over HBB.out hb))
  have HT0 : Hid (∀ w', Below wb.heap.size wb w' → TyV w' (.agg #[.int .i64 t.kind, .string t.pkg, .int .i64 t.major, .string t.mod, .string t.name, .slice An t.names.length cA, .slice As t.subs.length cS]) t) := Lib.hid (fun w' hb => HTV.out.below (below_over HBB.out hb))
  have HG0 : Hid (∀ w', Below wb.heap.size wb w' → ErrT w') := Lib.hid (fun w' hb => HG.out.on (below_over HBB.out hb))
  have HWB := Lib.hid hwb
  clear hwb HV HG HTV BB OM OT
  go_enter Tryz.func3, Tryz.ntmps3
  go_upto_region 1 with fail
  rw [← HWB.out]
  clear HWB
  go_wp2_with fail
  refine (up7_any _ (HG0.out _ (Below.refl _ _))).mono ?_; rintro e w1 ⟨rfl, hb1⟩
  have HB1 := Lib.hid hb1
  clear hb1
  have x0 := HXm.out w1 HB1.out 0 _ rfl
  have x1 := HXm.out w1 HB1.out 1 _ rfl
  have x2 := HXm.out w1 HB1.out 2 _ rfl
  go_wp2_with fail
  refine (rfew6_any m _ _ (HV0.out _ HB1.out)).mono ?_; rintro e w2 ⟨rfl, hb2⟩
  have HB2 := Lib.hid (below_over HB1.out hb2)
  clear x0 x1 x2 hb2
  have y0 := HXt.out w2 HB2.out 0 _ rfl
  have y1 := HXt.out w2 HB2.out 1 _ rfl
  have y2 := HXt.out w2 HB2.out 2 _ rfl
  have y3 := HXt.out w2 HB2.out 3 _ rfl
  have y4 := HXt.out w2 HB2.out 4 _ rfl
  have y5 := HXt.out w2 HB2.out 5 _ rfl
  have y6 := HXt.out w2 HB2.out 6 _ rfl
  go_wp2_with fail
  refine (fewB_any t _ _ (HT0.out _ HB2.out)).mono ?_; rintro e w3 ⟨rfl, hb3⟩
  have HB3 := Lib.hid (below_over HB2.out hb3)
  clear y0 y1 y2 y3 y4 y5 y6 hb3
  rcases hid_or (fewM m) with hf | hf
  · rw [hf.out]
    go_wp2_with fail
    go_ret
    exact ⟨rfl, below_over HBB.out HB3.out⟩
  rcases hid_or (fewB t) with hft | hft
  · rw [hf.out, hft.out]
    go_wp2_with fail
    go_ret
    exact ⟨rfl, below_over HBB.out HB3.out⟩
  have HD := Lib.hid (fun d hd => ((few7 hf.out).2.2 d hd).1)
  have ht9 : many t ≤ 9000 := by have := few_small hft.out; omega
  rw [hf.out, hft.out]
  clear hf hft
  have x0 := HXm.out w3 HB3.out 0 _ rfl
  have x1 := HXm.out w3 HB3.out 1 _ rfl
  have x2 := HXm.out w3 HB3.out 2 _ rfl
  go_wp2_with fail
  refine (check7_any m _ w3 (HV0.out _ HB3.out) HD.out HCP.out).mono ?_; rintro e w4 ⟨hck, hb4⟩
  have HB4 := Lib.hid (below_over HB3.out hb4)
  clear x0 x1 x2 hb4
  have HCK := Lib.hid hck
  obtain ⟨ev, rfl⟩ : ∃ ev, e = .returned ev := by
    rcases ck_cases hck with ⟨rfl, -⟩ | ⟨T, x, rfl, -⟩
    · exact ⟨_, rfl⟩
    · exact ⟨_, rfl⟩
  clear hck
  have x0 := HXm.out w4 HB4.out 0 _ rfl
  have x1 := HXm.out w4 HB4.out 1 _ rfl
  have x2 := HXm.out w4 HB4.out 2 _ rfl
  go_wp2_with fail
  refine (rcheck_any m _ w4 (HV0.out _ HB4.out) HD.out).mono ?_; rintro e w5 ⟨rb, rp, rfl, hrk, hb5⟩
  have HB5 := Lib.hid (below_over HB4.out hb5)
  have HTL := Lib.hid (told7_any HCK.out hrk w5 hb5 (HG0.out _ HB5.out))
  clear x0 x1 x2 hb5 hrk HCK
  obtain ⟨ev', hev', htl⟩ := HTL.out
  cases hev'
  have HTL' := Lib.hid htl
  clear htl HTL
  go_wp2_with fail
  refine HTL'.out.mono ?_; rintro e w6 ⟨rfl, hb6⟩
  have HB6 := Lib.hid (below_over HB5.out hb6)
  clear hb6 HTL'
  have x0 := HXm.out w6 HB6.out 0 _ rfl
  have x1 := HXm.out w6 HB6.out 1 _ rfl
  have x2 := HXm.out w6 HB6.out 2 _ rfl
  have y0 := HXt.out w6 HB6.out 0 _ rfl
  have y1 := HXt.out w6 HB6.out 1 _ rfl
  have y2 := HXt.out w6 HB6.out 2 _ rfl
  have y3 := HXt.out w6 HB6.out 3 _ rfl
  have y4 := HXt.out w6 HB6.out 4 _ rfl
  have y5 := HXt.out w6 HB6.out 5 _ rfl
  have y6 := HXt.out w6 HB6.out 6 _ rfl
  go_wp2_with fail
  refine (ment_all m _ t _ w6 (HV0.out _ HB6.out) (HT0.out _ HB6.out) HD.out).mono ?_; rintro e w7 ⟨A7, c7, rfl, hs7, hb7⟩
  have HB7 := Lib.hid (below_over HB6.out hb7)
  have HS7 := Lib.hid hs7
  clear x0 x1 x2 y0 y1 y2 y3 y4 y5 y6 hb7 hs7
  obtain ⟨R, hR⟩ : ∃ R, R = mnAll m t := ⟨_, rfl⟩
  rw [← hR] at HS7 ⊢
  have HR := Lib.hid hR
  clear hR
  have x0 := HXm.out w7 HB7.out 0 _ rfl
  have x1 := HXm.out w7 HB7.out 1 _ rfl
  have x2 := HXm.out w7 HB7.out 2 _ rfl
  go_wp2_with fail
  refine (rmay6_any m _ _ (HV0.out _ HB7.out) HD.out).mono ?_; rintro e w8 ⟨rfl, hb8⟩
  have HB8 := Lib.hid (below_over HB7.out hb8)
  have HS8 := Lib.hid (HS7.out.below hb8)
  clear x0 x1 x2 hb8 HS7
  cases hm : mayM m with
  | false =>
    have hR0 : R = [] := by rw [HR.out]; unfold mnAll; rw [hm]; rfl
    subst hR0
    go_wp2_with fail
    go_loopw [13] (fun s13 wr => s13 = .int .i64 0 ∧ Hid (Below wb.heap.size wb wr)) (fun _ _ => 0)
    case atStart => exact ⟨rfl, HB8⟩
    case round =>
      obtain ⟨rfl, HBz⟩ := hrel
      obtain ⟨wz, rfl⟩ : ∃ wz : World, wz = wr := ⟨_, rfl⟩
      go_wp2_with fail
      go_ret
      exact ⟨rfl, below_over HBB.out HBz.out⟩
  | true =>
    have HMM := Lib.hid hm
    have y0 := HXt.out w8 HB8.out 0 _ rfl
    have y1 := HXt.out w8 HB8.out 1 _ rfl
    have y2 := HXt.out w8 HB8.out 2 _ rfl
    have y3 := HXt.out w8 HB8.out 3 _ rfl
    have y4 := HXt.out w8 HB8.out 4 _ rfl
    have y5 := HXt.out w8 HB8.out 5 _ rfl
    have y6 := HXt.out w8 HB8.out 6 _ rfl
    clear hm
    go_wp2_with fail
    refine (may_any t _ _ ht9 (HT0.out _ HB8.out)).mono ?_; rintro e w9 ⟨rfl, hb9⟩
    have HB9 := Lib.hid (below_over HB8.out hb9)
    have HS9 := Lib.hid (HS8.out.below hb9)
    clear y0 y1 y2 y3 y4 y5 y6 hb9 HS8
    cases hmt : mayT t with
    | false =>
      have hm := HMM.out
      have hR0 : R = [] := by rw [HR.out]; unfold mnAll; rw [hm, hmt]; rfl
      subst hR0
      go_wp2_with fail
      go_loopw [13] (fun s13 wr => s13 = .int .i64 0 ∧ Hid (Below wb.heap.size wb wr)) (fun _ _ => 0)
      case atStart => exact ⟨rfl, HB9⟩
      case round =>
        obtain ⟨rfl, HBz⟩ := hrel
        obtain ⟨wz, rfl⟩ : ∃ wz : World, wz = wr := ⟨_, rfl⟩
        go_wp2_with fail
        go_ret
        exact ⟨rfl, below_over HBB.out HBz.out⟩
    | true =>
      have HMT := Lib.hid hmt
      have HRR : Hid (R = sortS (mentN m t m.decs.length)) := Lib.hid (by rw [HR.out]; unfold mnAll; rw [HMM.out, hmt]; rfl)
      clear hmt
      have x0 := HXm.out w9 HB9.out 0 _ rfl
      have x1 := HXm.out w9 HB9.out 1 _ rfl
      have x2 := HXm.out w9 HB9.out 2 _ rfl
      have y0 := HXt.out w9 HB9.out 0 _ rfl
      have y1 := HXt.out w9 HB9.out 1 _ rfl
      have y2 := HXt.out w9 HB9.out 2 _ rfl
      have y3 := HXt.out w9 HB9.out 3 _ rfl
      have y4 := HXt.out w9 HB9.out 4 _ rfl
      have y5 := HXt.out w9 HB9.out 5 _ rfl
      have y6 := HXt.out w9 HB9.out 6 _ rfl
      go_wp2_with fail
      refine (rment_any m _ t _ w9 (HV0.out _ HB9.out) (HT0.out _ HB9.out) HMM.out (loc_may m HMT.out).1 HD.out ht9).mono ?_; rintro e wa ⟨Aa, ca, rfl, hsa, hba⟩
      have HBa := Lib.hid (below_over HB9.out hba)
      have HLa : Hid ((mentN m t m.decs.length).length = R.length) := Lib.hid (by rw [HRR.out, sortS_len])
      rw [HLa.out]
      have HSa : Hid (StrsAt wa Aa R) := Lib.hid (by rw [HRR.out]; exact hsa)
      have HSb : Hid (StrsAt wa A7 R) := Lib.hid (HS9.out.below hba)
      have hRl : R.length ≤ 60 := by
        rw [HRR.out, sortS_len]
        exact Nat.le_trans (mentN_len m t _) (mayM_parts HMM.out).2.1
      clear x0 x1 x2 y0 y1 y2 y3 y4 y5 y6 hba hsa HS9
      go_wp2_with fail
      go_loopw [13] (fun s13 wr => ∃ k : Nat, k ≤ R.length ∧ s13 = .int .i64 k ∧ Hid (Below wa.heap.size wa wr)) (fun s13 _ => R.length - (intOf s13).toNat)
      case atStart => exact ⟨0, by omega, rfl, Lib.hid (Below.refl _ _)⟩
      case round =>
        obtain ⟨k, hk, rfl, HBo⟩ := hrel
        obtain ⟨wo, rfl⟩ : ∃ wo : World, wo = wr := ⟨_, rfl⟩
        by_cases hlt : k < R.length
        · obtain ⟨x, hx⟩ : ∃ x, R[k]? = some x := ⟨_, List.getElem?_eq_getElem hlt⟩
          obtain ⟨g1, rfl, -, e1⟩ := (HSa.out.below HBo.out) k x hx
          obtain ⟨g2, rfl, -, e2⟩ := (HSb.out.below HBo.out) k x hx
          have hk0 : (0 : Int) ≤ k := by omega
          have hk1 : (k : Int) < R.length := by omega
          clear hx
          go_wp2_with fail
          go_quiet (fail)
          go_wp2_with fail
          go_roundw
          case rel => exact ⟨k + 1, by omega, by go_num, Lib.hid (below_drewN HBo.out _)⟩
          case measure => simp [intOf]; omega
        · have hkl : k = R.length := by omega
          have FB : Hid (Below w.heap.size w wo) := Lib.hid (below_over HBB.out (below_over HBa.out HBo.out))
          clear hkl
          go_wp2_with fail
          go_ret
          exact ⟨rfl, FB.out⟩

end Go.Proofs.YtapjhmfbmkckaaaGreatDoor
