/-
  Several texts in one: The walk of package kind's writeFunc. · The walk of package kind's write: the text of a type that may be, into a builder. · The walk of the reference's Print: the text of a type that may be.
-/
import Derived.Test.YtpfoclpgcbjjoaaGreatDoorJ23
import Derived.Lib.Strings
/- The walk of package kind's writeFunc. -/
namespace Go.Proofs.YtpfoclpgcbjjoaaGreatDoor
open Go.RowKit
open Go.Sort
open M

set_option maxRecDepth 100000 in
set_option maxHeartbeats 4000000 in
theorem writeFunc_any (ss : List Ty) (m : Nat) (hss : ss.length = m + 1) (q : Ty) (hq : ss[m]? = some q) (IH : ∀ s, s ∈ ss → WriteOk s) (As : Option Addr) (cs B b : Nat) (hcap : m + 1 ≤ cs) (hz : m + 1 ≤ 9223372036854775807) (W w0 w : World) (l : List UInt8) (hS : SubsAt W As ss) (hW : Below W.heap.size W w0) (hWB : W.heap.size ≤ B) (hP : Pow W) (hw : Wr B b w0 l w) (hl : l.length + (rowOf (textsT ss) [] m).length + 6 + (textT q).length ≤ 4000000) :
    Calls Tryz.prog 154 #[.pointer (some ⟨b, 0, none⟩), .slice As (m + 1) cs] w fun e w' => e = .returned (.tuple #[]) ∧ Wr B b w0 (l ++ ([40] ++ rowOf (textsT ss) [] m ++ [41, 32, 45, 62, 32] ++ textT q)) w' := by
  have HIH := Lib.hid IH
  have HP := Lib.hid hP
  have HL := Lib.hid hss
  have HS := Lib.hid hS
  have HQ := Lib.hid hq
  have HA := Lib.hid hw
  have H0 := Lib.hid hw.base
  have HWw : Hid (Below W.heap.size W w) := Lib.hid (hW.trans (hw.2.1.mono hWB))
  obtain ⟨g, o, -, -, -, -, -, -, -, rfl, -⟩ := hS m q hq
  clear IH hP hss hS hq hW hw
  go_enter Tryz.func154, Tryz.ntmps154
  go_wp2_with fail
  refine (wr_str H0.out ⟨#[40]⟩ ?_).mono ?_
  · show l.length + 1 ≤ 4000000; omega
  rintro e w1 ⟨rfl, g1⟩
  have G1 : Hid (Wr B b w (l ++ [40]) w1) := Lib.hid g1
  clear g1
  go_wp2_with fail
  go_loopw [16] (fun i wr => ∃ k : Nat, k ≤ m ∧ i = .int .i64 k ∧ Hid (Wr B b w (l ++ [40] ++ rowOf (textsT ss) [] k) wr)) (fun i _ => m - (intOf i).toNat)
  case atStart => exact ⟨0, by omega, rfl, Lib.hid (G1.out.eq (by simp [rowOf]))⟩
  case round =>
    obtain ⟨k, hk, rfl, HR⟩ := hrel
    obtain ⟨wo, rfl⟩ : ∃ wo : World, wo = wr := ⟨_, rfl⟩
    have HWo : Hid (Below W.heap.size W wo) := Lib.hid (HWw.out.trans (HR.out.2.1.mono hWB))
    by_cases hlt : k < m
    · obtain ⟨s, hs⟩ : ∃ s, ss[k]? = some s := ⟨_, List.getElem?_eq_getElem (by rw [HL.out]; omega)⟩
      obtain ⟨g3, o3, v0, v1, v2, v3, v4, v5, v6, eA, hg, e0, e1, e2, e3, e4, e5, e6, hs7⟩ := HS.out k s hs
      obtain ⟨rfl, rfl⟩ : g = g3 ∧ o = o3 := by simpa using eA
      obtain ⟨Am, cm, At, ct, rfl, rfl, rfl, rfl, rfl, rfl, rfl⟩ := hs7.seven
      have HV7 : Hid (TyV W (.agg #[.int .i64 s.kind, .string s.pkg, .int .i64 s.major, .string s.mod, .string s.name, .slice Am s.names.length cm, .slice At s.subs.length ct]) s) := Lib.hid ⟨_, rfl, hs7⟩
      have tr : ∀ q v, W.cell? ⟨g, q, none⟩ = some v → wo.cell? ⟨g, q, none⟩ = some v := fun q v hv => (HWo.out.cell (p := ⟨g, _, none⟩) hg).trans hv
      have h0 := tr _ _ e0
      have h1 := tr _ _ e1
      have h2 := tr _ _ e2
      have h3 := tr _ _ e3
      have h4 := tr _ _ e4
      have h5 := tr _ _ e5
      have h6 := tr _ _ e6
      clear tr
      clear e0 e1 e2 e3 e4 e5 e6 hs7 eA
      have hlen := row_mono (textsT ss) [] (k := k + 1) m (by omega)
      have hstep := row_step0 (textsT ss) k
      rw [textsT_at _ _ s hs] at hstep
      have hl4 : l.length + (rowOf (textsT ss) [] (k + 1)).length + 6 ≤ 4000000 := by omega
      have IHs := Lib.hid (HIH.out s (List.mem_of_getElem? hs))
      obtain ⟨wo2, hwo2⟩ : ∃ wo2, wo2 = wo.alloc (.cells #[.int .i64 s.kind, .string s.pkg, .int .i64 s.major, .string s.mod, .string s.name, .slice Am s.names.length cm, .slice At s.subs.length ct] 42) := ⟨_, rfl⟩
      have HR2 : Hid (Wr B b wo (l ++ [40] ++ rowOf (textsT ss) [] k) wo2) := Lib.hid (by rw [hwo2]; exact HR.out.base.alloc _)
      have HR3 := Lib.hid HR2.out.base
      have HK2 : Hid (wo2.heap[wo.heap.size]? = some (.cells #[.int .i64 s.kind, .string s.pkg, .int .i64 s.major, .string s.mod, .string s.name, .slice Am s.names.length cm, .slice At s.subs.length ct] 42 (0, 0))) := Lib.hid (by rw [hwo2]; exact heap_alloc_new wo _)
      have hne2 : wo.heap.size ≠ b := by have := HR.out.lt; omega
      have HWO2 := Lib.hid hwo2
      have HW2 : Hid (Below W.heap.size W wo2) := Lib.hid (HWo.out.trans (HR2.out.2.1.mono hWB))
      clear hwo2 hlen hs
      rcases Nat.eq_zero_or_pos k with hp | hp
      · have hp2 : ¬ (0 : Int) < k := by omega
        have HST : Hid (rowOf (textsT ss) [] (k + 1) = rowOf (textsT ss) [] k ++ textT s) := Lib.hid (by rw [hstep, if_neg (by omega)])
        rw [HST.out] at hl4
        simp only [List.length_append] at hl4
        clear hstep hp
        go_wp2_with fail
        rw [← HWO2.out]
        clear h0 h1 h2 h3 h4 h5 h6
        refine (IHs.out B b _ W wo2 wo2 _ HV7.out HW2.out hWB HP.out HR3.out ?_).mono ?_
        · simp only [List.length_append, List.length_cons, List.length_nil]; omega
        rintro e w4 ⟨rfl, g4⟩
        have HR4 : Hid (Wr B b w (l ++ [40] ++ rowOf (textsT ss) [] (k + 1)) w4) := Lib.hid (((HR.out.over HR2.out).over g4).eq (by rw [HST.out]; simp))
        clear g4
        go_wp2_with fail
        go_roundw
        case rel => exact ⟨k + 1, by omega, by go_num, HR4⟩
        case measure => simp [intOf]; omega
      · have hp2 : (0 : Int) < k := by omega
        have HST : Hid (rowOf (textsT ss) [] (k + 1) = rowOf (textsT ss) [] k ++ [44, 32] ++ textT s) := Lib.hid (by rw [hstep, if_pos hp])
        rw [HST.out] at hl4
        simp only [List.length_append, List.length_cons, List.length_nil] at hl4
        clear hstep hp
        go_wp2_with fail
        rw [← HWO2.out]
        clear h0 h1 h2 h3 h4 h5 h6
        refine (wr_str HR3.out ⟨#[44, 32]⟩ ?_).mono ?_
        · simp only [List.length_append, List.length_cons, List.length_nil, z44]; omega
        rintro e w2 ⟨rfl, g2w⟩
        have d0 := g2w.cell HK2.out hne2 0
        have d1 := g2w.cell HK2.out hne2 1
        have d2 := g2w.cell HK2.out hne2 2
        have d3 := g2w.cell HK2.out hne2 3
        have d4 := g2w.cell HK2.out hne2 4
        have d5 := g2w.cell HK2.out hne2 5
        have d6 := g2w.cell HK2.out hne2 6
        simp at d0 d1 d2 d3 d4 d5 d6
        go_wp2_with fail
        refine (IHs.out B b _ W wo2 w2 _ HV7.out HW2.out hWB HP.out g2w ?_).mono ?_
        · simp only [List.length_append, List.length_cons, List.length_nil]; omega
        rintro e w4 ⟨rfl, g4⟩
        have HR4 : Hid (Wr B b w (l ++ [40] ++ rowOf (textsT ss) [] (k + 1)) w4) := Lib.hid (((HR.out.over HR2.out).over g4).eq (by rw [HST.out]; simp))
        clear d0 d1 d2 d3 d4 d5 d6 g2w g4
        go_wp2_with fail
        go_roundw
        case rel => exact ⟨k + 1, by omega, by go_num, HR4⟩
        case measure => simp [intOf]; omega
    · obtain rfl : k = m := by omega
      have IHs := Lib.hid (HIH.out q (List.mem_of_getElem? HQ.out))
      have hs := HQ.out
      obtain ⟨g3, o3, v0, v1, v2, v3, v4, v5, v6, eA, hg, e0, e1, e2, e3, e4, e5, e6, hs7⟩ := HS.out k q hs
      obtain ⟨rfl, rfl⟩ : g = g3 ∧ o = o3 := by simpa using eA
      obtain ⟨Am, cm, At, ct, rfl, rfl, rfl, rfl, rfl, rfl, rfl⟩ := hs7.seven
      have HV7 : Hid (TyV W (.agg #[.int .i64 q.kind, .string q.pkg, .int .i64 q.major, .string q.mod, .string q.name, .slice Am q.names.length cm, .slice At q.subs.length ct]) q) := Lib.hid ⟨_, rfl, hs7⟩
      clear hs7 eA hs
      go_wp2_with fail
      refine (wr_str HR.out ⟨#[41, 32, 45, 62, 32]⟩ ?_).mono ?_
      · show (l ++ [40] ++ rowOf (textsT ss) [] k).length + 5 ≤ 4000000
        simp only [List.length_append, List.length_cons, List.length_nil]; omega
      rintro e w2 ⟨rfl, g2w⟩
      have HW5 : Hid (Below W.heap.size W w2) := Lib.hid (HWw.out.trans (g2w.2.1.mono hWB))
      have tr : ∀ q v, W.cell? ⟨g, q, none⟩ = some v → w2.cell? ⟨g, q, none⟩ = some v := fun q v hv => (HW5.out.cell (p := ⟨g, _, none⟩) hg).trans hv
      have h0 := tr _ _ e0
      have h1 := tr _ _ e1
      have h2 := tr _ _ e2
      have h3 := tr _ _ e3
      have h4 := tr _ _ e4
      have h5 := tr _ _ e5
      have h6 := tr _ _ e6
      clear tr
      clear e0 e1 e2 e3 e4 e5 e6
      go_wp2_with fail
      refine (IHs.out B b _ W w w2 _ HV7.out HWw.out hWB HP.out g2w ?_).mono ?_
      · simp only [List.length_append, List.length_cons, List.length_nil]; omega
      rintro e w4 ⟨rfl, g4⟩
      go_wp2_with fail
      go_end0
      exact ⟨rfl, (HA.out.over g4).eq (by simp)⟩

end Go.Proofs.YtpfoclpgcbjjoaaGreatDoor

/- The walk of package kind's write: the text of a type that may be, into a builder. -/
namespace Go.Proofs.YtpfoclpgcbjjoaaGreatDoor
open Go.RowKit
open Go.Sort
open M

theorem writeFunc_at (ss : List Ty) (m n : Nat) (hnm : n = m + 1) (hss : ss.length = n) (q : Ty) (hq : ss[m]? = some q) (IH : ∀ s, s ∈ ss → WriteOk s) (As : Option Addr) (cs B b : Nat) (hcap : n ≤ cs) (hz : n ≤ 9223372036854775807) (W w0 w : World) (l : List UInt8) (hS : SubsAt W As ss) (hW : Below W.heap.size W w0) (hWB : W.heap.size ≤ B) (hP : Pow W) (hw : Wr B b w0 l w) (hl : l.length + (rowOf (textsT ss) [] m).length + 6 + (textT q).length ≤ 4000000) :
    Calls Tryz.prog 154 #[.pointer (some ⟨b, 0, none⟩), .slice As n cs] w fun e w' => e = .returned (.tuple #[]) ∧ Wr B b w0 (l ++ ([40] ++ rowOf (textsT ss) [] m ++ [41, 32, 45, 62, 32] ++ textT q)) w' := by
  subst hnm
  exact writeFunc_any ss m hss q hq IH As cs B b hcap hz W w0 w l hS hW hWB hP hw hl

set_option maxRecDepth 100000 in
set_option maxHeartbeats 8000000 in
theorem write_any (N : Nat) : ∀ (t : Ty), many t ≤ N → allOk t = true → WriteOk t := by
  induction N with
  | zero => intro t h; have := many_pos t; omega
  | succ N ih =>
  intro t hN hok B b v W w0 w l hv hW hWB hP hw hl
  have hok' : ownOk t = true ∧ allOkL t.subs = true := by rw [allOk_eq] at hok; simpa using hok
  obtain ⟨hown, hall⟩ := hok'
  have IH : Hid (∀ s, s ∈ t.subs → WriteOk s) := Lib.hid (fun s hs => ih s (by have := manyL_mem t.subs s hs; have := manyL_eq t; omega) ((allOkL_mem _).1 hall s hs))
  have HNM := Lib.hid (M.own_names hown)
  have hshape : shapeOk t = true := by
    have h := hown
    unfold ownOk at h
    simp only [Bool.and_eq_true] at h
    exact h.2
  have HSH := Lib.hid hshape
  have HOWN := Lib.hid hown
  have HP := Lib.hid hP
  have HTX := Lib.hid (textT_eq t)
  clear hN hok hown hall ih hshape hP
  have HV := Lib.hid hv
  obtain ⟨lv, rfl, hT⟩ := hv
  obtain ⟨An, cn, As, cs, rfl, zp, zm, za, hzn, hz, hNA, hS⟩ := hT.parts
  have HCAP := Lib.hid hT.cap
  have HS := Lib.hid hS
  have HNA := Lib.hid hNA
  have HLT := Lib.hid (textsT_len t.subs)
  have hbw := hw.lt
  obtain ⟨wb, hwb⟩ : ∃ wb, wb = w.alloc (.cells #[.int .i64 t.kind, .string t.pkg, .int .i64 t.major, .string t.mod, .string t.name, .slice An t.names.length cn, .slice As t.subs.length cs] 42) := ⟨_, rfl⟩
  have HA : Hid (Wr B b w0 l wb) := Lib.hid (by rw [hwb]; exact hw.alloc _)
  have H0 := Lib.hid HA.out.base
  have HK : Hid (wb.heap[w.heap.size]? = some (.cells #[.int .i64 t.kind, .string t.pkg, .int .i64 t.major, .string t.mod, .string t.name, .slice An t.names.length cn, .slice As t.subs.length cs] 42 (0, 0))) := Lib.hid (by rw [hwb]; exact heap_alloc_new w _)
  have hne : w.heap.size ≠ b := by omega
  have HWB := Lib.hid hwb
  have HWw : Hid (Below W.heap.size W wb) := Lib.hid (hW.trans (HA.out.2.1.mono hWB))
  clear hT hS hNA hW hwb hw
  by_cases hx : t.kind = 1
  · as_aux_lemma =>
    have HJ : Hid (textT t = [73, 110, 116]) := Lib.hid (by rw [HTX.out, hx]; rfl)
    rw [HJ.out] at hl
    have b1 : (t.kind == 1) = true := by rw [hx]; rfl
    clear hx
    go_enter Tryz.func114, Tryz.ntmps114
    go_wp2_with fail
    rw [← HWB.out]
    refine (wr_str H0.out ⟨#[73, 110, 116]⟩ ?_).mono ?_
    · exact hl
    rintro e w1 ⟨rfl, g1⟩
    go_wp2_with fail
    go_end0
    exact ⟨rfl, (HA.out.over g1).eq (by rw [HJ.out])⟩
  by_cases hx : t.kind = 2
  · as_aux_lemma =>
    have HJ : Hid (textT t = [84, 101, 120, 116]) := Lib.hid (by rw [HTX.out, hx]; rfl)
    rw [HJ.out] at hl
    have b1 : (t.kind == 1) = false := by rw [hx]; rfl
    have b2 : (t.kind == 2) = true := by rw [hx]; rfl
    clear hx
    go_enter Tryz.func114, Tryz.ntmps114
    go_wp2_with fail
    rw [← HWB.out]
    refine (wr_str H0.out ⟨#[84, 101, 120, 116]⟩ ?_).mono ?_
    · exact hl
    rintro e w1 ⟨rfl, g1⟩
    go_wp2_with fail
    go_end0
    exact ⟨rfl, (HA.out.over g1).eq (by rw [HJ.out])⟩
  by_cases hx : t.kind = 3
  · as_aux_lemma =>
    have HJ : Hid (textT t = [66, 111, 111, 108]) := Lib.hid (by rw [HTX.out, hx]; rfl)
    rw [HJ.out] at hl
    have b1 : (t.kind == 1) = false := by rw [hx]; rfl
    have b2 : (t.kind == 2) = false := by rw [hx]; rfl
    have b3 : (t.kind == 3) = true := by rw [hx]; rfl
    clear hx
    go_enter Tryz.func114, Tryz.ntmps114
    go_wp2_with fail
    rw [← HWB.out]
    refine (wr_str H0.out ⟨#[66, 111, 111, 108]⟩ ?_).mono ?_
    · exact hl
    rintro e w1 ⟨rfl, g1⟩
    go_wp2_with fail
    go_end0
    exact ⟨rfl, (HA.out.over g1).eq (by rw [HJ.out])⟩
  by_cases hx : t.kind = 4
  · as_aux_lemma =>
    have hn1 : t.subs.length = 1 := by
      have h := HSH.out
      unfold shapeOk at h
      rw [hx] at h
      simp at h
      omega
    obtain ⟨s, hs⟩ : ∃ s, t.subs[0]? = some s := ⟨_, List.getElem?_eq_getElem (by omega)⟩
    have HJ : Hid (textT t = [76, 105, 115, 116, 40] ++ textT s ++ [41]) := Lib.hid (by rw [HTX.out, hx]; simp [kindText]; rw [← List.getD_eq_getElem?_getD, textsT_at _ 0 s hs])
    rw [HJ.out] at hl
    simp only [List.length_append, List.length_cons, List.length_nil] at hl
    obtain ⟨g, o, v0, v1, v2, v3, v4, v5, v6, rfl, hg, e0, e1, e2, e3, e4, e5, e6, hs7⟩ := HS.out 0 s hs
    obtain ⟨Am, cm, At, ct, rfl, rfl, rfl, rfl, rfl, rfl, rfl⟩ := hs7.seven
    have HV7 : Hid (TyV W (.agg #[.int .i64 s.kind, .string s.pkg, .int .i64 s.major, .string s.mod, .string s.name, .slice Am s.names.length cm, .slice At s.subs.length ct]) s) := Lib.hid ⟨_, rfl, hs7⟩
    have IHs := Lib.hid (IH.out s (List.mem_of_getElem? hs))
    simp only [Nat.zero_mul, Nat.add_zero] at e0 e1 e2 e3 e4 e5 e6
    have h01 : 0 < t.subs.length := by omega
    have b1 : (t.kind == 1) = false := by rw [hx]; rfl
    have b2 : (t.kind == 2) = false := by rw [hx]; rfl
    have b3 : (t.kind == 3) = false := by rw [hx]; rfl
    have b4 : (t.kind == 4) = true := by rw [hx]; rfl
    clear hx hs7 hs hn1
    go_enter Tryz.func114, Tryz.ntmps114
    go_wp2_with fail
    rw [← HWB.out]
    refine (wr_str H0.out ⟨#[76, 105, 115, 116, 40]⟩ ?_).mono ?_
    · show l.length + 5 ≤ 4000000; omega
    rintro e w1 ⟨rfl, g1⟩
    have c6 := g1.cell HK.out hne 6
    simp at c6
    have HW1 : Hid (Below W.heap.size W w1) := Lib.hid (HWw.out.trans (g1.2.1.mono hWB))
    have tr : ∀ q v, W.cell? ⟨g, q, none⟩ = some v → w1.cell? ⟨g, q, none⟩ = some v := fun q v hv => (HW1.out.cell (p := ⟨g, _, none⟩) hg).trans hv
    have h0 := tr _ _ e0
    have h1 := tr _ _ e1
    have h2 := tr _ _ e2
    have h3 := tr _ _ e3
    have h4 := tr _ _ e4
    have h5 := tr _ _ e5
    have h6 := tr _ _ e6
    clear tr e0 e1 e2 e3 e4 e5 e6
    go_wp2_with fail
    refine (IHs.out B b _ W wb w1 _ HV7.out HWw.out hWB HP.out g1 ?_).mono ?_
    · simp only [List.length_append, List.length_cons, List.length_nil]; omega
    rintro e w2 ⟨rfl, g2⟩
    clear c6 h0 h1 h2 h3 h4 h5 h6
    go_wp2_with fail
    refine (wr_str g2 ⟨#[41]⟩ ?_).mono ?_
    · show (l ++ [76, 105, 115, 116, 40] ++ textT s).length + 1 ≤ 4000000
      simp only [List.length_append, List.length_cons, List.length_nil]; omega
    rintro e w3 ⟨rfl, g3⟩
    go_wp2_with fail
    go_end0
    exact ⟨rfl, (HA.out.over g3).eq (by rw [HJ.out]; simp)⟩
  by_cases hx : t.kind = 5
  · as_aux_lemma =>
    have hn1 : t.names.length = t.subs.length := by
      have h := HSH.out
      unfold shapeOk at h
      rw [hx] at h
      simp at h
      omega
    have HJ : Hid (textT t = [123] ++ rowOf (textsT t.subs) t.names t.subs.length ++ [125]) := Lib.hid (by rw [HTX.out, hx]; simp [kindText, HLT.out])
    rw [HJ.out] at hl
    simp only [List.length_append, List.length_cons, List.length_nil] at hl
    have HNN := Lib.hid hn1
    have b1 : (t.kind == 1) = false := by rw [hx]; rfl
    have b2 : (t.kind == 2) = false := by rw [hx]; rfl
    have b3 : (t.kind == 3) = false := by rw [hx]; rfl
    have b4 : (t.kind == 4) = false := by rw [hx]; rfl
    have b5 : (t.kind == 5) = true := by rw [hx]; rfl
    clear hx hn1
    go_enter Tryz.func114, Tryz.ntmps114
    go_wp2_with fail
    rw [← HWB.out]
    refine (wr_str H0.out ⟨#[123]⟩ ?_).mono ?_
    · show l.length + 1 ≤ 4000000; omega
    rintro e w1 ⟨rfl, g1⟩
    have c0 := g1.cell HK.out hne 0
    have c1 := g1.cell HK.out hne 1
    have c2 := g1.cell HK.out hne 2
    have c3 := g1.cell HK.out hne 3
    have c4 := g1.cell HK.out hne 4
    have c5 := g1.cell HK.out hne 5
    have c6 := g1.cell HK.out hne 6
    simp at c0 c1 c2 c3 c4 c5 c6
    go_wp2_with fail
    refine (writeNamed_any t IH.out HNN.out HNM.out B b _ W wb w1 _ HV.out HWw.out hWB HP.out g1 ?_).mono ?_
    · simp only [List.length_append, List.length_cons, List.length_nil]; omega
    rintro e w2 ⟨rfl, g2⟩
    clear c0 c1 c2 c3 c4 c5 c6
    go_wp2_with fail
    refine (wr_str g2 ⟨#[125]⟩ ?_).mono ?_
    · show (l ++ [123] ++ rowOf (textsT t.subs) t.names t.subs.length).length + 1 ≤ 4000000
      simp only [List.length_append, List.length_cons, List.length_nil]; omega
    rintro e w3 ⟨rfl, g3⟩
    go_wp2_with fail
    go_end0
    exact ⟨rfl, (HA.out.over g3).eq (by rw [HJ.out]; simp)⟩
  by_cases hx : t.kind = 6
  · as_aux_lemma =>
    have hn1 : t.names.length = t.subs.length := by
      have h := HSH.out
      unfold shapeOk at h
      rw [hx] at h
      simp at h
      omega
    have HJ : Hid (textT t = [91] ++ rowOf (textsT t.subs) t.names t.subs.length ++ [93]) := Lib.hid (by rw [HTX.out, hx]; simp [kindText, HLT.out])
    rw [HJ.out] at hl
    simp only [List.length_append, List.length_cons, List.length_nil] at hl
    have HNN := Lib.hid hn1
    have b1 : (t.kind == 1) = false := by rw [hx]; rfl
    have b2 : (t.kind == 2) = false := by rw [hx]; rfl
    have b3 : (t.kind == 3) = false := by rw [hx]; rfl
    have b4 : (t.kind == 4) = false := by rw [hx]; rfl
    have b5 : (t.kind == 5) = false := by rw [hx]; rfl
    have b6 : (t.kind == 6) = true := by rw [hx]; rfl
    clear hx hn1
    go_enter Tryz.func114, Tryz.ntmps114
    go_wp2_with fail
    rw [← HWB.out]
    refine (wr_str H0.out ⟨#[91]⟩ ?_).mono ?_
    · show l.length + 1 ≤ 4000000; omega
    rintro e w1 ⟨rfl, g1⟩
    have c0 := g1.cell HK.out hne 0
    have c1 := g1.cell HK.out hne 1
    have c2 := g1.cell HK.out hne 2
    have c3 := g1.cell HK.out hne 3
    have c4 := g1.cell HK.out hne 4
    have c5 := g1.cell HK.out hne 5
    have c6 := g1.cell HK.out hne 6
    simp at c0 c1 c2 c3 c4 c5 c6
    go_wp2_with fail
    refine (writeNamed_any t IH.out HNN.out HNM.out B b _ W wb w1 _ HV.out HWw.out hWB HP.out g1 ?_).mono ?_
    · simp only [List.length_append, List.length_cons, List.length_nil]; omega
    rintro e w2 ⟨rfl, g2⟩
    clear c0 c1 c2 c3 c4 c5 c6
    go_wp2_with fail
    refine (wr_str g2 ⟨#[93]⟩ ?_).mono ?_
    · show (l ++ [91] ++ rowOf (textsT t.subs) t.names t.subs.length).length + 1 ≤ 4000000
      simp only [List.length_append, List.length_cons, List.length_nil]; omega
    rintro e w3 ⟨rfl, g3⟩
    go_wp2_with fail
    go_end0
    exact ⟨rfl, (HA.out.over g3).eq (by rw [HJ.out]; simp)⟩
  by_cases hx : t.kind = 7
  · as_aux_lemma =>
    have hn1 : 0 < t.subs.length := by
      have h := HSH.out
      unfold shapeOk at h
      rw [hx] at h
      simp at h
      omega
    obtain ⟨m, hm⟩ : ∃ m, t.subs.length = m + 1 := ⟨t.subs.length - 1, by omega⟩
    obtain ⟨s, hs⟩ : ∃ s, t.subs[m]? = some s := ⟨_, List.getElem?_eq_getElem (by omega)⟩
    have HJ : Hid (textT t = [40] ++ rowOf (textsT t.subs) [] m ++ [41, 32, 45, 62, 32] ++ textT s) := Lib.hid (by rw [HTX.out, hx]; show [40] ++ rowOf (textsT t.subs) [] ((textsT t.subs).length - 1) ++ [41, 32, 45, 62, 32] ++ (textsT t.subs).getD ((textsT t.subs).length - 1) [] = _; rw [HLT.out, hm, Nat.add_sub_cancel, textsT_at _ m s hs])
    rw [HJ.out] at hl
    simp only [List.length_append, List.length_cons, List.length_nil] at hl
    have HM := Lib.hid hm
    have HSS := Lib.hid hs
    have b1 : (t.kind == 1) = false := by rw [hx]; rfl
    have b2 : (t.kind == 2) = false := by rw [hx]; rfl
    have b3 : (t.kind == 3) = false := by rw [hx]; rfl
    have b4 : (t.kind == 4) = false := by rw [hx]; rfl
    have b5 : (t.kind == 5) = false := by rw [hx]; rfl
    have b6 : (t.kind == 6) = false := by rw [hx]; rfl
    have b7 : (t.kind == 7) = true := by rw [hx]; rfl
    clear hx hn1 hm hs
    go_enter Tryz.func114, Tryz.ntmps114
    go_wp2_with fail
    rw [← HWB.out]
    have c6 := H0.out.cell HK.out hne 6
    simp at c6
    go_wp2_with fail
    refine (writeFunc_at t.subs m _ HM.out rfl s HSS.out IH.out As cs B b HCAP.out hz W wb wb l HS.out HWw.out hWB HP.out H0.out ?_).mono ?_
    · omega
    rintro e w2 ⟨rfl, g2⟩
    go_wp2_with fail
    go_end0
    exact ⟨rfl, (HA.out.over g2).eq (by rw [HJ.out])⟩
  by_cases hx : t.kind = 8
  · as_aux_lemma =>
    have HX := Lib.hid hx
    have b1 : (t.kind == 1) = false := by rw [hx]; rfl
    have b2 : (t.kind == 2) = false := by rw [hx]; rfl
    have b3 : (t.kind == 3) = false := by rw [hx]; rfl
    have b4 : (t.kind == 4) = false := by rw [hx]; rfl
    have b5 : (t.kind == 5) = false := by rw [hx]; rfl
    have b6 : (t.kind == 6) = false := by rw [hx]; rfl
    have b7 : (t.kind == 7) = false := by rw [hx]; rfl
    have b8 : (t.kind == 8) = true := by rw [hx]; rfl
    clear hx
    go_enter Tryz.func114, Tryz.ntmps114
    go_wp2_with fail
    rw [← HWB.out]
    have c0 := H0.out.cell HK.out hne 0
    have c1 := H0.out.cell HK.out hne 1
    have c2 := H0.out.cell HK.out hne 2
    have c3 := H0.out.cell HK.out hne 3
    have c4 := H0.out.cell HK.out hne 4
    have c5 := H0.out.cell HK.out hne 5
    have c6 := H0.out.cell HK.out hne 6
    simp at c0 c1 c2 c3 c4 c5 c6
    go_wp2_with fail
    refine (writeLocal_any t HOWN.out HX.out B b _ W wb wb l HV.out HWw.out hWB H0.out hl).mono ?_; rintro e w2 ⟨rfl, g2⟩
    go_wp2_with fail
    go_end0
    exact ⟨rfl, HA.out.over g2⟩
  by_cases hx : t.kind = 9
  · as_aux_lemma =>
    have hm : (1 ≤ t.major ∧ t.major ≤ 999999999) ∧ t.pkg.size ≤ 20 ∧ t.mod.size ≤ 20 ∧ t.name.size ≤ 20 := by
      have h := HSH.out
      unfold shapeOk at h
      rw [hx] at h
      simp at h
      exact ⟨⟨h.1.2, h.2⟩, small_len h.1.1.1.1.2, small_len h.1.1.1.2, great_len h.1.1.2⟩
    obtain ⟨⟨m1, m2⟩, z1, z2, z3⟩ := hm
    have z4 := dec_size t.major (by omega) (by omega)
    have HJ : Hid ((⟨#[60]⟩ ++ t.pkg ++ ⟨#[32]⟩ ++ dec t.major ++ ⟨#[32]⟩ ++ t.mod ++ ⟨#[32]⟩ ++ t.name ++ ⟨#[62]⟩ : ByteArray).data.toList = textT t) := Lib.hid (by rw [HTX.out, hx]; simp [kindText])
    have HZ : Hid ((⟨#[60]⟩ ++ t.pkg ++ ⟨#[32]⟩ ++ dec t.major ++ ⟨#[32]⟩ ++ t.mod ++ ⟨#[32]⟩ ++ t.name ++ ⟨#[62]⟩ : ByteArray).size = (textT t).length) := Lib.hid (by rw [← HJ.out, len_size])
    have n1 : ¬ (1 + t.pkg.size > 9223372036854775807) := by omega
    have n2 : ¬ (1 + t.pkg.size + 1 > 9223372036854775807) := by omega
    have n3 : ¬ (1 + t.pkg.size + 1 + (dec t.major).size > 9223372036854775807) := by omega
    have n4 : ¬ (1 + t.pkg.size + 1 + (dec t.major).size + 1 > 9223372036854775807) := by omega
    have n5 : ¬ (1 + t.pkg.size + 1 + (dec t.major).size + 1 + t.mod.size > 9223372036854775807) := by omega
    have n6 : ¬ (1 + t.pkg.size + 1 + (dec t.major).size + 1 + t.mod.size + 1 > 9223372036854775807) := by omega
    have n7 : ¬ (1 + t.pkg.size + 1 + (dec t.major).size + 1 + t.mod.size + 1 + t.name.size > 9223372036854775807) := by omega
    have n8 : ¬ (1 + t.pkg.size + 1 + (dec t.major).size + 1 + t.mod.size + 1 + t.name.size + 1 > 9223372036854775807) := by omega
    have cD : ∀ dd os, Calls Tryz.prog 70 #[.int .i64 t.major] (Sort.grow (redrawn wb dd) os) fun e w'' => e = .returned (.string (dec t.major)) ∧ ∃ pp : Regrown, w'' = Sort.grow (redrawn wb pp.d) pp.os := fun dd os => Calls.regrown_of (itoa_any _ _ (by omega) (by omega) ((HP.out.on HWw.out).on (below_regrown _ dd os)))
    have y0 := H0.out.cell HK.out hne 0
    have y1 := H0.out.cell HK.out hne 1
    have y2 := H0.out.cell HK.out hne 2
    have y3 := H0.out.cell HK.out hne 3
    have y4 := H0.out.cell HK.out hne 4
    have y5 := H0.out.cell HK.out hne 5
    have y6 := H0.out.cell HK.out hne 6
    simp at y0 y1 y2 y3 y4 y5 y6
    have p1 := cell_regrown y1
    have p2 := cell_regrown y2
    have p3 := cell_regrown y3
    have p4 := cell_regrown y4
    have b1 : (t.kind == 1) = false := by rw [hx]; rfl
    have b2 : (t.kind == 2) = false := by rw [hx]; rfl
    have b3 : (t.kind == 3) = false := by rw [hx]; rfl
    have b4 : (t.kind == 4) = false := by rw [hx]; rfl
    have b5 : (t.kind == 5) = false := by rw [hx]; rfl
    have b6 : (t.kind == 6) = false := by rw [hx]; rfl
    have b7 : (t.kind == 7) = false := by rw [hx]; rfl
    have b8 : (t.kind == 8) = false := by rw [hx]; rfl
    have b9 : (t.kind == 9) = true := by rw [hx]; rfl
    clear hx
    go_enter Tryz.func114, Tryz.ntmps114
    go_wp2_with fail
    rw [← HWB.out]
    clear z4 y0 y5 y6
    go_wp2_with fail
    refine wp_region_last (C := fun w' => ∃ p : Regrown, w' = Sort.grow (redrawn wb p.d) p.os) (by kernel_rfl) rfl rfl (by kernel_rfl) (by intro cs b h; cases h) (by kernel_rfl) (by kernel_rfl) (by kernel_rfl) ⟨⟨wb.drawn + 1, #[]⟩, by rw [grow_empty]; rfl⟩ ?_
    unfold tameLast
    simp only [List.dropLast, List.cons_append, List.nil_append]
    repeat (any_goals (first | go_big_quiet_step (with_reducible exact cD _ _) | quiet_step (with_reducible exact cD _ _)))
    refine wpQuiet_nil ?_
    intro w' hw'
    obtain ⟨⟨dq, osq⟩, hw''⟩ := hw'
    subst hw''
    have g1 := H0.out.below (below_regrown wb dq osq)
    refine ⟨27, #[.pointer (some ⟨b, 0, none⟩), .string (⟨#[60]⟩ ++ t.pkg ++ ⟨#[32]⟩ ++ dec t.major ++ ⟨#[32]⟩ ++ t.mod ++ ⟨#[32]⟩ ++ t.name ++ ⟨#[62]⟩ : ByteArray)], by go_simp, ?_⟩
    refine (wr_str g1 _ ?_).mono ?_
    · rw [HZ.out]; exact hl
    rintro e w3 ⟨rfl, g3⟩
    refine ⟨_, rfl, ?_⟩
    go_wp2_with fail
    go_end0
    exact ⟨rfl, (HA.out.over g3).eq (by rw [HJ.out])⟩
  exfalso
  have h := HSH.out
  unfold shapeOk at h
  simp_all

/-- The text of a type that may be; else none. -/
def printT (t : Ty) : ByteArray := ⟨(textT t).toArray⟩
set_option maxRecDepth 100000 in
set_option maxHeartbeats 4000000 in
theorem printK_yes (t : Ty) (h : mayT t = true) (hM : many t ≤ 9000) (v : Value) (w : World) (hv : TyV w v t) (hP : Pow w) :
    Calls Tryz.prog 71 #[v] w fun e w' => e = .returned (.tuple #[.string (tB t), .nilIface]) ∧ Below w.heap.size w w' := by
  have hall : allOk t = true := by
    have h' := h
    unfold mayT at h'
    simp only [Bool.and_eq_true] at h'
    exact h'.1.1
  have htl := text_len t hall
  have HWR := Lib.hid (write_any _ t (Nat.le_refl _) hall)
  have HM := Lib.hid h
  have HP := Lib.hid hP
  have hlen : (textT t).length ≤ 4000000 := by omega
  have HV := Lib.hid hv
  obtain ⟨lv, rfl, hT⟩ := hv
  obtain ⟨An, cn, As, cs, rfl, -, -, -, -, -, -, -⟩ := hT.parts
  clear hT hP h hall htl
  obtain ⟨wb, hwb⟩ : ∃ wb, wb = w.alloc (.cells #[.int .i64 t.kind, .string t.pkg, .int .i64 t.major, .string t.mod, .string t.name, .slice An t.names.length cn, .slice As t.subs.length cs] 42) := ⟨_, rfl⟩
  have HBB : Hid (Below w.heap.size w wb) := Lib.hid (by rw [hwb]; exact below_new (Below.refl _ _) _)
  have HBX : Hid (wb.heap[w.heap.size]? = some (.cells #[.int .i64 t.kind, .string t.pkg, .int .i64 t.major, .string t.mod, .string t.name, .slice An t.names.length cn, .slice As t.subs.length cs] 42 (0, 0))) := Lib.hid (by rw [hwb]; exact heap_alloc_new w _)
  have HWB := Lib.hid hwb
  clear hwb
  go_enter Tryz.func71, Tryz.ntmps71
  go_wp2_with fail
  rw [← HWB.out]
  refine (mayK_any t _ _ (HV.out.below HBB.out)).mono ?_; rintro e w1 ⟨rfl, hb1⟩; rw [HM.out]
  have HB1 : Hid (Below w.heap.size w w1) := Lib.hid (HBB.out.trans (hb1.mono HBB.out.size))
  have hlt : w.heap.size < wb.heap.size := (Array.getElem?_eq_some_iff.1 HBX.out).1
  have hlt1 : w.heap.size < w1.heap.size := Nat.lt_of_lt_of_le hlt hb1.size
  have HX1 : Hid (∀ i v, (#[.int .i64 t.kind, .string t.pkg, .int .i64 t.major, .string t.mod, .string t.name, .slice An t.names.length cn, .slice As t.subs.length cs] : Array Value)[i]? = some v → w1.cell? ⟨w.heap.size, i, none⟩ = some v) := Lib.hid (fun i v hv => by
    rw [(bcell hb1).1 _ _ hlt, Lib.cell_of_heap HBX.out]; exact hv)
  have x0 := HX1.out 0 _ rfl
  have x1 := HX1.out 1 _ rfl
  have x2 := HX1.out 2 _ rfl
  have x3 := HX1.out 3 _ rfl
  have x4 := HX1.out 4 _ rfl
  have x5 := HX1.out 5 _ rfl
  have x6 := HX1.out 6 _ rfl
  have h0 := Lib.hid (Lib.fresh_isBuilder 58 5 w1)
  clear hb1
  go_wp2_with fail
  have W0 : Wr w1.heap.size w1.heap.size (w1.alloc (.cells #[.pointer none, .slice none 0 0] 58)) [] (w1.alloc (.cells #[.pointer none, .slice none 0 0] 58)) := ⟨h0.out, Below.refl _ _, Lib.OthersKept.refl _ _ _⟩
  refine (HWR.out w1.heap.size w1.heap.size _ w1 _ _ [] (HV.out.below HB1.out) (below_new (Below.refl _ _) _) (Nat.le_refl _) (HP.out.on HB1.out) W0 (by simpa using hlen)).mono ?_; rintro e w2 ⟨rfl, g2⟩
  have HB2 : Hid (Below w.heap.size w w2) := Lib.hid ((below_new HB1.out _).trans (g2.2.1.mono HB1.out.size))
  have hsz : w1.heap.size ≤ w2.heap.size := by have := g2.lt; omega
  clear x0 x1 x2 x3 x4 x5 x6
  go_wp2_with fail
  refine (Tryz.Builder_String_any w1.heap.size w1.heap.size (textT t) _ g2.1 hsz).mono ?_; rintro e w3 ⟨rfl, hb3⟩
  go_wp2_with fail
  go_ret2
  exact ⟨rfl, HB2.out.trans (hb3.mono HB1.out.size)⟩

set_option maxRecDepth 100000 in
set_option maxHeartbeats 4000000 in
theorem printK_no (t : Ty) (h : mayT t = false) (v : Value) (w : World) (hv : TyV w v t) :
    Calls Tryz.prog 71 #[v] w fun e w' => e = .returned (.tuple #[.string ⟨#[]⟩, .iface 32 (.int .i64 1)]) ∧ Below w.heap.size w w' := by
  have HM := Lib.hid h
  have HV := Lib.hid hv
  obtain ⟨lv, rfl, hT⟩ := hv
  obtain ⟨An, cn, As, cs, rfl, -, -, -, -, -, -, -⟩ := hT.parts
  clear hT h
  go_enter Tryz.func71, Tryz.ntmps71
  go_wp2_with fail
  refine (mayK_any t _ _ (HV.out.below (below_new (Below.refl _ _) _))).mono ?_; rintro e w1 ⟨rfl, hb1⟩; rw [HM.out]
  go_wp2_with fail
  go_ret2
  exact ⟨rfl, (below_new (Below.refl _ _) _).trans (hb1.mono (by simp))⟩

end Go.Proofs.YtpfoclpgcbjjoaaGreatDoor

/- The walk of the reference's Print: the text of a type that may be. -/
namespace Go.Proofs.YtpfoclpgcbjjoaaGreatDoor
open Go.RowKit
open Go.Sort
open M

theorem tB_eq (t : Ty) : (tB t).data.toList = kindText t.kind t.pkg t.major t.mod t.name t.names (textsT t.subs) := by unfold tB; rw [textT_eq]
theorem row_at (A : Option Addr) (c : Nat) (ss : List Ty) (An : Option Addr) (cn : Nat) (ns : List ByteArray) (x : Int) (r n m : Nat) (w : World) (hx : x = r) (hn : ss.length = n) (hm : ns.length = m) (hr : r ≤ ss.length) (hl : ss.length ≤ 9223372036854775807) (hln : ns.length ≤ 9223372036854775807)
    (hS : SubsAt w A ss) (hN : NamesAt w An ns) (hnr : 0 < ns.length → r ≤ ns.length) (hbr : ∀ k, k ≤ r → (rowOf (textsT ss) ns k).length ≤ 2000000) (hbs : ∀ s, s ∈ ss → (textT s).length ≤ 2000000) (hbn : ∀ i, i < ns.length → (nameAt ns i).size ≤ 20)
    (IH : ∀ s, s ∈ ss → ∀ (v : Value) (w : World), TyV w v s → Calls Tryz.prog 39 #[v] w fun e w' => e = .returned (.string (tB s)) ∧ Below w.heap.size w w') :
    Calls Tryz.prog 84 #[.slice A n c, .slice An m cn, .int .i64 x] w fun e w' => e = .returned (.string (rB (textsT ss) ns r)) ∧ Below w.heap.size w w' := by
  subst hx hn hm; exact row_any A c ss An cn ns r w hr hl hln hS hN hnr hbr hbs hbn IH

set_option maxRecDepth 100000 in
set_option maxHeartbeats 8000000 in
theorem print_any (N : Nat) : ∀ (t : Ty), many t ≤ N → many t ≤ 9000 → allOk t = true → ∀ (v : Value) (w : World), TyV w v t →
    Calls Tryz.prog 39 #[v] w fun e w' => e = .returned (.string (tB t)) ∧ Below w.heap.size w w' := by
  induction N with
  | zero => intro t h; have := many_pos t; omega
  | succ N ih =>
    intro t hN hM hok v w hv
    have hok' : ownOk t = true ∧ allOkL t.subs = true := by rw [allOk_eq] at hok; simpa using hok
    obtain ⟨hown, hall⟩ := hok'
    have hme := manyL_eq t
    have hsub : ∀ s, s ∈ t.subs → many s ≤ N ∧ many s ≤ 9000 ∧ allOk s = true := fun s hs => by
      have := manyL_mem t.subs s hs
      exact ⟨by omega, by omega, (allOkL_mem _).1 hall s hs⟩
    have IH : Hid (∀ s, s ∈ t.subs → ∀ (v : Value) (w : World), TyV w v s → Calls Tryz.prog 39 #[v] w fun e w' => e = .returned (.string (tB s)) ∧ Below w.heap.size w w') :=
      Lib.hid (fun s hs v w hv => ih s (hsub s hs).1 (hsub s hs).2.1 (hsub s hs).2.2 v w hv)
    have hbs : Hid (∀ s, s ∈ t.subs → (textT s).length ≤ 2000000) := Lib.hid (fun s hs => by
      have a := text_len s (hsub s hs).2.2
      have b := (hsub s hs).2.1
      omega)
    have hrow : ∀ ns : List ByteArray, (∀ i, i < ns.length → (nameAt ns i).size ≤ 20) → ∀ k, k ≤ t.subs.length → (rowOf (textsT t.subs) ns k).length ≤ 2000000 := fun ns hn k hk => by
      have a := row_len t.subs ns (texts_len t.subs hall) hn k hk
      have b := manyL_take_le t.subs k
      omega
    have HROW := Lib.hid hrow
    have HNM := Lib.hid (M.own_names hown)
    have hshape : shapeOk t = true := by
      unfold ownOk at hown
      simp only [Bool.and_eq_true] at hown
      exact hown.2
    have HSH := Lib.hid hshape
    have HLT := Lib.hid (textsT_len t.subs)
    have htl := text_len t hok
    have htb := tB_size t
    have hts : (tB t).size ≤ 2000000 := by omega
    obtain ⟨l, rfl, hT⟩ := hv
    obtain ⟨An, cn, As, cs, rfl, zp, zm, za, hzn, hz, hNA, hS⟩ := hT.parts
    have HS := Lib.hid hS
    have HNA := Lib.hid hNA
    clear hT hS hNA hok hown hall hsub ih hrow hshape htl htb hme hN hM
    by_cases hx : t.kind = 1
    · as_aux_lemma =>
      have HJ : Hid (tB t = ⟨#[73, 110, 116]⟩) := Lib.hid (bytes_ext' (by rw [tB_eq t, hx]; rfl))
      rw [HJ.out]
      have b1 : (t.kind == 1) = true := by rw [hx]; rfl
      clear hx
      go_enter Tryz.func39, Tryz.ntmps39
      go_wp2_with fail
      go_ret
      exact ⟨rfl, below_new (Below.refl _ _) _⟩
    by_cases hx : t.kind = 2
    · as_aux_lemma =>
      have HJ : Hid (tB t = ⟨#[84, 101, 120, 116]⟩) := Lib.hid (bytes_ext' (by rw [tB_eq t, hx]; rfl))
      rw [HJ.out]
      have b1 : (t.kind == 1) = false := by rw [hx]; rfl
      have b2 : (t.kind == 2) = true := by rw [hx]; rfl
      clear hx
      go_enter Tryz.func39, Tryz.ntmps39
      go_wp2_with fail
      go_ret
      exact ⟨rfl, below_new (Below.refl _ _) _⟩
    by_cases hx : t.kind = 3
    · as_aux_lemma =>
      have HJ : Hid (tB t = ⟨#[66, 111, 111, 108]⟩) := Lib.hid (bytes_ext' (by rw [tB_eq t, hx]; rfl))
      rw [HJ.out]
      have b1 : (t.kind == 1) = false := by rw [hx]; rfl
      have b2 : (t.kind == 2) = false := by rw [hx]; rfl
      have b3 : (t.kind == 3) = true := by rw [hx]; rfl
      clear hx
      go_enter Tryz.func39, Tryz.ntmps39
      go_wp2_with fail
      go_ret
      exact ⟨rfl, below_new (Below.refl _ _) _⟩
    by_cases hx : t.kind = 4
    · as_aux_lemma =>
      have hn1 : t.subs.length = 1 := by
        have h := HSH.out
        unfold shapeOk at h
        rw [hx] at h
        simp at h
        omega
      obtain ⟨s, hs⟩ : ∃ s, t.subs[0]? = some s := ⟨_, List.getElem?_eq_getElem (by omega)⟩
      obtain ⟨g, o, v0, v1, v2, v3, v4, v5, v6, rfl, hgl, h0, h1, h2, h3, h4, h5, h6, hs7⟩ := HS.out 0 s hs
      have HJ : Hid (⟨#[76, 105, 115, 116, 40]⟩ ++ tB s ++ ⟨#[41]⟩ = tB t) := Lib.hid (bytes_ext' (by
        rw [tB_eq t, hx]; simp [kindText, tB]; rw [← List.getD_eq_getElem?_getD, textsT_at _ 0 s hs]))
      have IHs := Lib.hid (IH.out s (List.mem_of_getElem? hs) (.agg #[v0, v1, v2, v3, v4, v5, v6]) _ ⟨_, rfl, hs7.keep (below_new (Below.refl _ w) (.cells #[.int .i64 t.kind, .string t.pkg, .int .i64 t.major, .string t.mod, .string t.name, .slice An t.names.length cn, .slice (some ⟨g, o, none⟩) t.subs.length cs] 42))⟩)
      have bs := hbs.out s (List.mem_of_getElem? hs)
      have bt := tB_size s
      have n1 : ¬ (5 + (tB s).size > 9223372036854775807) := by omega
      have n2 : ¬ (5 + (tB s).size + 1 > 9223372036854775807) := by omega
      simp only [Nat.zero_mul, Nat.add_zero] at h0 h1 h2 h3 h4 h5 h6
      rw [hn1] at IHs ⊢
      have b1 : (t.kind == 1) = false := by rw [hx]; rfl
      have b2 : (t.kind == 2) = false := by rw [hx]; rfl
      have b3 : (t.kind == 3) = false := by rw [hx]; rfl
      have b4 : (t.kind == 4) = true := by rw [hx]; rfl
      clear hx hs7 hs bs bt hn1 HSH
      go_enter Tryz.func39, Tryz.ntmps39
      go_wp2_with fail
      refine IHs.out.mono ?_; rintro e w2 ⟨rfl, hb2⟩
      go_wp2_with fail
      rw [HJ.out]
      go_ret
      exact ⟨rfl, (below_new (Below.refl _ _) _).trans (hb2.mono (by simp))⟩
    by_cases hx : t.kind = 5
    · as_aux_lemma =>
      have hnn : t.subs.length = t.names.length := by
        have h := HSH.out
        unfold shapeOk at h
        rw [hx] at h
        simp at h
        omega
      have HJ : Hid (⟨#[123]⟩ ++ rB (textsT t.subs) t.names t.subs.length ++ ⟨#[125]⟩ = tB t) := Lib.hid (bytes_ext' (by
        rw [tB_eq t, hx]; simp [kindText, rB, HLT.out]))
      have bz := rB_size (textsT t.subs) t.names t.subs.length
      have br := HROW.out t.names HNM.out t.subs.length (Nat.le_refl _)
      have n1 : ¬ (1 + (rB (textsT t.subs) t.names t.subs.length).size > 9223372036854775807) := by omega
      have n2 : ¬ (1 + (rB (textsT t.subs) t.names t.subs.length).size + 1 > 9223372036854775807) := by omega
      have HB := Lib.hid (below_new (Below.refl _ w) (.cells #[.int .i64 t.kind, .string t.pkg, .int .i64 t.major, .string t.mod, .string t.name, .slice An t.names.length cn, .slice As t.subs.length cs] 42))
      have ROW := Lib.hid (row_at As cs t.subs An cn t.names _ t.subs.length _ _ _ rfl rfl rfl (Nat.le_refl _) hz hzn (HS.out.below HB.out) (HNA.out.below HB.out) (fun _ => by omega) (HROW.out t.names HNM.out) hbs.out HNM.out IH.out)
      have b1 : (t.kind == 1) = false := by rw [hx]; rfl
      have b2 : (t.kind == 2) = false := by rw [hx]; rfl
      have b3 : (t.kind == 3) = false := by rw [hx]; rfl
      have b4 : (t.kind == 4) = false := by rw [hx]; rfl
      have b5 : (t.kind == 5) = true := by rw [hx]; rfl
      clear hx bz br HSH hnn
      go_enter Tryz.func39, Tryz.ntmps39
      go_wp2_with fail
      refine ROW.out.mono ?_; rintro e w2 ⟨rfl, hb2⟩
      go_wp2_with fail
      rw [HJ.out]
      go_ret
      exact ⟨rfl, (below_new (Below.refl _ _) _).trans (hb2.mono (by simp))⟩
    by_cases hx : t.kind = 6
    · as_aux_lemma =>
      have hnn : t.subs.length = t.names.length := by
        have h := HSH.out
        unfold shapeOk at h
        rw [hx] at h
        simp at h
        omega
      have HJ : Hid (⟨#[91]⟩ ++ rB (textsT t.subs) t.names t.subs.length ++ ⟨#[93]⟩ = tB t) := Lib.hid (bytes_ext' (by
        rw [tB_eq t, hx]; simp [kindText, rB, HLT.out]))
      have bz := rB_size (textsT t.subs) t.names t.subs.length
      have br := HROW.out t.names HNM.out t.subs.length (Nat.le_refl _)
      have n1 : ¬ (1 + (rB (textsT t.subs) t.names t.subs.length).size > 9223372036854775807) := by omega
      have n2 : ¬ (1 + (rB (textsT t.subs) t.names t.subs.length).size + 1 > 9223372036854775807) := by omega
      have HB := Lib.hid (below_new (Below.refl _ w) (.cells #[.int .i64 t.kind, .string t.pkg, .int .i64 t.major, .string t.mod, .string t.name, .slice An t.names.length cn, .slice As t.subs.length cs] 42))
      have ROW := Lib.hid (row_at As cs t.subs An cn t.names _ t.subs.length _ _ _ rfl rfl rfl (Nat.le_refl _) hz hzn (HS.out.below HB.out) (HNA.out.below HB.out) (fun _ => by omega) (HROW.out t.names HNM.out) hbs.out HNM.out IH.out)
      have b1 : (t.kind == 1) = false := by rw [hx]; rfl
      have b2 : (t.kind == 2) = false := by rw [hx]; rfl
      have b3 : (t.kind == 3) = false := by rw [hx]; rfl
      have b4 : (t.kind == 4) = false := by rw [hx]; rfl
      have b5 : (t.kind == 5) = false := by rw [hx]; rfl
      have b6 : (t.kind == 6) = true := by rw [hx]; rfl
      clear hx bz br HSH hnn
      go_enter Tryz.func39, Tryz.ntmps39
      go_wp2_with fail
      refine ROW.out.mono ?_; rintro e w2 ⟨rfl, hb2⟩
      go_wp2_with fail
      rw [HJ.out]
      go_ret
      exact ⟨rfl, (below_new (Below.refl _ _) _).trans (hb2.mono (by simp))⟩
    by_cases hx : t.kind = 7
    · as_aux_lemma =>
      have hn0 : 0 < t.subs.length := by
        have h := HSH.out
        unfold shapeOk at h
        rw [hx] at h
        simp at h
        omega
      obtain ⟨s, hs⟩ : ∃ s, t.subs[t.subs.length - 1]? = some s := ⟨_, List.getElem?_eq_getElem (by omega)⟩
      have HSW : Hid (SubsAt (w.alloc (.cells #[.int .i64 t.kind, .string t.pkg, .int .i64 t.major, .string t.mod, .string t.name, .slice An t.names.length cn, .slice As t.subs.length cs] 42)) As t.subs) := Lib.hid (HS.out.below (below_new (Below.refl _ w) _))
      obtain ⟨g, o, v0, v1, v2, v3, v4, v5, v6, rfl, hgl, h0, h1, h2, h3, h4, h5, h6, hs7⟩ := HSW.out _ s hs
      have HJ : Hid (⟨#[40]⟩ ++ rB (textsT t.subs) [] (t.subs.length - 1) ++ ⟨#[41, 32, 45, 62, 32]⟩ ++ tB s = tB t) := Lib.hid (bytes_ext' (by
        rw [tB_eq t, hx]; simp [kindText, rB, tB, HLT.out]; rw [← List.getD_eq_getElem?_getD, textsT_at _ _ s hs]))
      have bz := rB_size (textsT t.subs) [] (t.subs.length - 1)
      have br := HROW.out [] (fun i hi => by simp at hi) (t.subs.length - 1) (by omega)
      have bs := hbs.out s (List.mem_of_getElem? hs)
      have bt := tB_size s
      have n1 : ¬ (1 + (rB (textsT t.subs) [] (t.subs.length - 1)).size > 9223372036854775807) := by omega
      have n2 : ¬ (1 + (rB (textsT t.subs) [] (t.subs.length - 1)).size + 5 > 9223372036854775807) := by omega
      have n3 : ¬ (1 + (rB (textsT t.subs) [] (t.subs.length - 1)).size + 5 + (tB s).size > 9223372036854775807) := by omega
      have HIH := Lib.hid (IH.out s (List.mem_of_getElem? hs))
      have cP1 : ∀ dd os, Calls Tryz.prog 84 #[.slice (some ⟨g, o, none⟩) t.subs.length cs, .slice none 0 0, .int .i64 ((t.subs.length : Int) - 1)] (Sort.grow (redrawn (w.alloc (.cells #[.int .i64 t.kind, .string t.pkg, .int .i64 t.major, .string t.mod, .string t.name, .slice An t.names.length cn, .slice (some ⟨g, o, none⟩) t.subs.length cs] 42)) dd) os) fun e w'' => e = .returned (.string (rB (textsT t.subs) [] (t.subs.length - 1))) ∧ ∃ pp : Regrown, w'' = Sort.grow (redrawn (w.alloc (.cells #[.int .i64 t.kind, .string t.pkg, .int .i64 t.major, .string t.mod, .string t.name, .slice An t.names.length cn, .slice (some ⟨g, o, none⟩) t.subs.length cs] 42)) pp.d) pp.os := fun dd os => Calls.regrown_of (row_at _ cs t.subs none 0 [] _ (t.subs.length - 1) _ 0 _ (by omega) rfl rfl (by omega) hz (by simp) (HSW.out.below (below_regrown _ dd os)) (fun i s hs => by simp at hs) (fun h => by simp at h) (fun k hk => HROW.out [] (fun i hi => by simp at hi) k (by omega)) hbs.out (fun i hi => by simp at hi) IH.out)
      have cP2 : ∀ dd os, Calls Tryz.prog 39 #[.agg #[v0, v1, v2, v3, v4, v5, v6]] (Sort.grow (redrawn (w.alloc (.cells #[.int .i64 t.kind, .string t.pkg, .int .i64 t.major, .string t.mod, .string t.name, .slice An t.names.length cn, .slice (some ⟨g, o, none⟩) t.subs.length cs] 42)) dd) os) fun e w'' => e = .returned (.string (tB s)) ∧ ∃ pp : Regrown, w'' = Sort.grow (redrawn (w.alloc (.cells #[.int .i64 t.kind, .string t.pkg, .int .i64 t.major, .string t.mod, .string t.name, .slice An t.names.length cn, .slice (some ⟨g, o, none⟩) t.subs.length cs] 42)) pp.d) pp.os := fun dd os => Calls.regrown_of (HIH.out _ _ ⟨_, rfl, hs7.keep (below_regrown _ dd os)⟩)
      have y6 : (w.alloc (.cells #[.int .i64 t.kind, .string t.pkg, .int .i64 t.major, .string t.mod, .string t.name, .slice An t.names.length cn, .slice (some ⟨g, o, none⟩) t.subs.length cs] 42)).cell? ⟨w.heap.size, 6, none⟩ = some (.slice (some ⟨g, o, none⟩) t.subs.length cs) := by go_simp
      have p0 := cell_regrown h0
      have p1 := cell_regrown h1
      have p2 := cell_regrown h2
      have p3 := cell_regrown h3
      have p4 := cell_regrown h4
      have p5 := cell_regrown h5
      have p6 := cell_regrown h6
      have p7 := cell_regrown y6
      generalize hnn : t.subs.length = n at *
      have s1 : IntKind.i64.wrap ((n : Int) - 1) = (n : Int) - 1 := IntWalk.i64_in _ (by omega)
      have s2 : 0 ≤ (n : Int) - 1 := by omega
      have s3 : ((n : Int) - 1).toNat = n - 1 := by omega
      have b1 : (t.kind == 1) = false := by rw [hx]; rfl
      have b2 : (t.kind == 2) = false := by rw [hx]; rfl
      have b3 : (t.kind == 3) = false := by rw [hx]; rfl
      have b4 : (t.kind == 4) = false := by rw [hx]; rfl
      have b5 : (t.kind == 5) = false := by rw [hx]; rfl
      have b6 : (t.kind == 6) = false := by rw [hx]; rfl
      have b7 : (t.kind == 7) = true := by rw [hx]; rfl
      clear hx h0 h1 h2 h3 h4 h5 h6 y6 hs hs7 bs bt bz br HSH
      go_enter Tryz.func39, Tryz.ntmps39
      go_wp2_with fail
      refine wp_region_quiet_below (by kernel_rfl) (by kernel_rfl) ?_
      repeat (any_goals (first | go_big_quiet_step (first | (with_reducible exact cP1 _ _) | (with_reducible exact cP2 _ _)) | quiet_step (first | (with_reducible exact cP1 _ _) | (with_reducible exact cP2 _ _))))
      refine wpQuiet_nil ?_
      intro _ hw'
      obtain ⟨⟨dq, osq⟩, hw''⟩ := hw'
      subst hw''
      have hb3 := below_regrown (w.alloc (.cells #[.int .i64 t.kind, .string t.pkg, .int .i64 t.major, .string t.mod, .string t.name, .slice An t.names.length cn, .slice (some ⟨g, o, none⟩) n cs] 42)) dq osq
      go_wp2_with fail
      rw [HJ.out]
      go_ret
      exact ⟨rfl, below_over (below_new (Below.refl _ _) _) hb3⟩
    by_cases hx : t.kind = 9
    · as_aux_lemma =>
      have hm : (1 ≤ t.major ∧ t.major ≤ 999999999) ∧ t.pkg.size ≤ 20 ∧ t.mod.size ≤ 20 ∧ t.name.size ≤ 20 := by
        have h := HSH.out
        unfold shapeOk at h
        rw [hx] at h
        simp at h
        exact ⟨⟨h.1.2, h.2⟩, small_len h.1.1.1.1.2, small_len h.1.1.1.2, great_len h.1.1.2⟩
      obtain ⟨⟨m1, m2⟩, z1, z2, z3⟩ := hm
      have z4 := dec_size t.major (by omega) (by omega)
      have HJ : Hid (⟨#[60]⟩ ++ t.pkg ++ ⟨#[32]⟩ ++ dec t.major ++ ⟨#[32]⟩ ++ t.mod ++ ⟨#[32]⟩ ++ t.name ++ ⟨#[62]⟩ = tB t) := Lib.hid (bytes_ext' (by
        rw [tB_eq t, hx]; simp [kindText]))
      have n1 : ¬ (1 + t.pkg.size > 9223372036854775807) := by omega
      have n2 : ¬ (1 + t.pkg.size + 1 > 9223372036854775807) := by omega
      have n3 : ¬ (1 + t.pkg.size + 1 + (dec t.major).size > 9223372036854775807) := by omega
      have n4 : ¬ (1 + t.pkg.size + 1 + (dec t.major).size + 1 > 9223372036854775807) := by omega
      have n5 : ¬ (1 + t.pkg.size + 1 + (dec t.major).size + 1 + t.mod.size > 9223372036854775807) := by omega
      have n6 : ¬ (1 + t.pkg.size + 1 + (dec t.major).size + 1 + t.mod.size + 1 > 9223372036854775807) := by omega
      have n7 : ¬ (1 + t.pkg.size + 1 + (dec t.major).size + 1 + t.mod.size + 1 + t.name.size > 9223372036854775807) := by omega
      have n8 : ¬ (1 + t.pkg.size + 1 + (dec t.major).size + 1 + t.mod.size + 1 + t.name.size + 1 > 9223372036854775807) := by omega
      have cD : ∀ dd os, Calls Tryz.prog 38 #[.int .i64 t.major] (Sort.grow (redrawn (w.alloc (.cells #[.int .i64 t.kind, .string t.pkg, .int .i64 t.major, .string t.mod, .string t.name, .slice An t.names.length cn, .slice As t.subs.length cs] 42)) dd) os) fun e w'' => e = .returned (.string (dec t.major)) ∧ ∃ pp : Regrown, w'' = Sort.grow (redrawn (w.alloc (.cells #[.int .i64 t.kind, .string t.pkg, .int .i64 t.major, .string t.mod, .string t.name, .slice An t.names.length cn, .slice As t.subs.length cs] 42)) pp.d) pp.os := fun dd os => Calls.regrown_of (digits_any _ _ (by omega) (by omega))
      have y1 : (w.alloc (.cells #[.int .i64 t.kind, .string t.pkg, .int .i64 t.major, .string t.mod, .string t.name, .slice An t.names.length cn, .slice As t.subs.length cs] 42)).cell? ⟨w.heap.size, 1, none⟩ = some (.string t.pkg) := by go_simp
      have y2 : (w.alloc (.cells #[.int .i64 t.kind, .string t.pkg, .int .i64 t.major, .string t.mod, .string t.name, .slice An t.names.length cn, .slice As t.subs.length cs] 42)).cell? ⟨w.heap.size, 2, none⟩ = some (.int .i64 t.major) := by go_simp
      have y3 : (w.alloc (.cells #[.int .i64 t.kind, .string t.pkg, .int .i64 t.major, .string t.mod, .string t.name, .slice An t.names.length cn, .slice As t.subs.length cs] 42)).cell? ⟨w.heap.size, 3, none⟩ = some (.string t.mod) := by go_simp
      have y4 : (w.alloc (.cells #[.int .i64 t.kind, .string t.pkg, .int .i64 t.major, .string t.mod, .string t.name, .slice An t.names.length cn, .slice As t.subs.length cs] 42)).cell? ⟨w.heap.size, 4, none⟩ = some (.string t.name) := by go_simp
      have p1 := cell_regrown y1
      have p2 := cell_regrown y2
      have p3 := cell_regrown y3
      have p4 := cell_regrown y4
      have b1 : (t.kind == 1) = false := by rw [hx]; rfl
      have b2 : (t.kind == 2) = false := by rw [hx]; rfl
      have b3 : (t.kind == 3) = false := by rw [hx]; rfl
      have b4 : (t.kind == 4) = false := by rw [hx]; rfl
      have b5 : (t.kind == 5) = false := by rw [hx]; rfl
      have b6 : (t.kind == 6) = false := by rw [hx]; rfl
      have b7 : (t.kind == 7) = false := by rw [hx]; rfl
      have b9 : (t.kind == 9) = true := by rw [hx]; rfl
      clear hx y1 y2 y3 y4 HSH z4
      go_enter Tryz.func39, Tryz.ntmps39
      go_wp2_with fail
      refine wp_region_quiet_below (by kernel_rfl) (by kernel_rfl) ?_
      repeat (any_goals (first | go_big_quiet_step (with_reducible exact cD _ _) | quiet_step (with_reducible exact cD _ _)))
      refine wpQuiet_nil ?_
      intro _ hw'
      obtain ⟨⟨dq, osq⟩, hw''⟩ := hw'
      subst hw''
      have hb3 := below_regrown (w.alloc (.cells #[.int .i64 t.kind, .string t.pkg, .int .i64 t.major, .string t.mod, .string t.name, .slice An t.names.length cn, .slice As t.subs.length cs] 42)) dq osq
      go_wp2_with fail
      rw [HJ.out]
      go_ret
      exact ⟨rfl, below_over (below_new (Below.refl _ _) _) hb3⟩
    have hxs : t.kind ≠ 1 ∧ t.kind ≠ 2 ∧ t.kind ≠ 3 ∧ t.kind ≠ 4 ∧ t.kind ≠ 5 ∧ t.kind ≠ 6 ∧ t.kind ≠ 7 ∧ t.kind ≠ 9 := by
      refine ⟨?_, ?_, ?_, ?_, ?_, ?_, ?_, ?_⟩ <;> assumption
    obtain ⟨x1, x2, x3, x4, x5, x6, x7, x9⟩ := hxs
    have b1 : (t.kind == 1) = false := by simpa using x1
    have b2 : (t.kind == 2) = false := by simpa using x2
    have b3 : (t.kind == 3) = false := by simpa using x3
    have b4 : (t.kind == 4) = false := by simpa using x4
    have b5 : (t.kind == 5) = false := by simpa using x5
    have b6 : (t.kind == 6) = false := by simpa using x6
    have b7 : (t.kind == 7) = false := by simpa using x7
    have b9 : (t.kind == 9) = false := by simpa using x9
    have h8 : t.kind = 8 := by
      have h := HSH.out
      unfold shapeOk at h
      rw [if_neg (by omega), if_neg x4, if_neg x5, if_neg x6, if_neg x7] at h
      by_cases e : t.kind = 8
      · exact e
      · rw [if_neg e, if_neg x9] at h; cases h
    have hm : t.mod.size ≤ 20 ∧ t.name.size ≤ 20 := by
      have h := HSH.out
      unfold shapeOk at h
      rw [h8] at h
      simp [emptyB] at h
      have hz8 : t.mod.size ≤ 20 := by
        rcases h.2 with h | h
        · exact small_len h
        · rw [h]; exact Nat.zero_le _
      exact ⟨hz8, great_len h.1.2⟩
    obtain ⟨z1, z2⟩ := hm
    by_cases hmod : t.mod.size = 0
    · as_aux_lemma =>
      obtain ⟨e1, e2⟩ : t.mod.toList = [] ∧ t.mod.toList.isEmpty = true := by
        have hl : t.mod.data.toList = [] := by rw [← List.length_eq_zero_iff, len_size]; exact hmod
        have g1 : t.mod.toList = [] := by rw [Lib.toList_data, hl]
        exact ⟨g1, by rw [g1]; rfl⟩
      have HJ : Hid (tB t = t.name) := Lib.hid (bytes_ext' (by rw [tB_eq t, h8]; simp [kindText, hmod]))
      rw [HJ.out]
      clear x1 x2 x3 x4 x5 x6 x7 x9 h8 hmod HSH
      go_enter Tryz.func39, Tryz.ntmps39
      go_wp2_with fail
      go_ret
      exact ⟨rfl, below_new (Below.refl _ _) _⟩
    · as_aux_lemma =>
      obtain ⟨e1, e2⟩ : ¬ t.mod.toList = [] ∧ t.mod.toList.isEmpty = false := by
        have hl : t.mod.data.toList ≠ [] := by intro e; apply hmod; rw [← len_size, e]; rfl
        have g1 : ¬ t.mod.toList = [] := by rw [Lib.toList_data]; exact hl
        exact ⟨g1, by simpa using g1⟩
      have HJ : Hid (t.mod ++ ⟨#[46]⟩ ++ t.name = tB t) := Lib.hid (bytes_ext' (by rw [tB_eq t, h8]; simp [kindText, hmod]))
      have n1 : ¬ (t.mod.size + 1 > 9223372036854775807) := by omega
      have n2 : ¬ (t.mod.size + 1 + t.name.size > 9223372036854775807) := by omega
      clear x1 x2 x3 x4 x5 x6 x7 x9 h8 hmod HSH
      go_enter Tryz.func39, Tryz.ntmps39
      go_wp2_with fail
      rw [HJ.out]
      go_ret
      exact ⟨rfl, below_new (Below.refl _ _) _⟩

end Go.Proofs.YtpfoclpgcbjjoaaGreatDoor
