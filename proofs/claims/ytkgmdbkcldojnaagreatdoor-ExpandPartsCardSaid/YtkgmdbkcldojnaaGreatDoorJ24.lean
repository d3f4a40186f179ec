/-
  Several texts in one: The walk of package kind's writeFunc. · The walk of package kind's write: the text of a type that may be, into a builder. · The walk of the document's example at the head of layer 8's statements: it answers true. · Plain mathematics for layer 8's laws: what Expand tells of plain types, of lists, of aliases. · '==' between two interface values of one integer type is as the numbers are: a law of the model, over any program. · The walk of the document's example, which stands at the head of every statement of layer 4: it answers true.
-/
import Derived.Test.YtkgmdbkcldojnaaGreatDoorJ09
import Derived.Test.YtkgmdbkcldojnaaGreatDoorJ23
import Derived.Test.YtkgmdbkcldojnaaGreatDoorJ21
import Derived.LaidEql
import Derived.Test.YtkgmdbkcldojnaaGreatDoorJ16
/- The walk of package kind's writeFunc. -/
namespace Go.Proofs.YtkgmdbkcldojnaaGreatDoor
open Go.RowKit
open Go.Sort
open M

set_option maxRecDepth 100000 in
set_option maxHeartbeats 4000000 in
theorem writeFunc_any (ss : List Ty) (m : Nat) (hss : ss.length = m + 1) (q : Ty) (hq : ss[m]? = some q) (IH : ∀ s, s ∈ ss → WriteOk s) (As : Option Addr) (cs B b : Nat) (hcap : m + 1 ≤ cs) (hz : m + 1 ≤ 9223372036854775807) (W w0 w : World) (l : List UInt8) (hS : SubsAt W As ss) (hW : Below W.heap.size W w0) (hWB : W.heap.size ≤ B) (hP : Pow W) (hw : Wr B b w0 l w) (hl : l.length + (rowOf (textsT ss) [] m).length + 6 + (textT q).length ≤ 4000000) :
    Calls Tryz.prog 94 #[.pointer (some ⟨b, 0, none⟩), .slice As (m + 1) cs] w fun e w' => e = .returned (.tuple #[]) ∧ Wr B b w0 (l ++ ([40] ++ rowOf (textsT ss) [] m ++ [41, 32, 45, 62, 32] ++ textT q)) w' := by
  have HIH := Lib.hid IH
  have HP := Lib.hid hP
  have HL := Lib.hid hss
  have HS := Lib.hid hS
  have HQ := Lib.hid hq
  have HA := Lib.hid hw
  have H0 := Lib.hid hw.base
  have HWw : Hid (Below W.heap.size W w) := Lib.hid (hW.trans (hw.2.1.mono hWB))
  obtain ⟨g, o, -, -, -, -, -, -, -, rfl, -⟩ := hS m q hq
  clear IH hP hss hS hq hW hw
  go_enter Tryz.func94, Tryz.ntmps94
  go_wp2_with fail
  refine (wr_str H0.out ⟨#[40]⟩ ?_).mono ?_
  · show l.length + 1 ≤ 4000000; omega
  rintro e w1 ⟨rfl, g1⟩
  have G1 : Hid (Wr B b w (l ++ [40]) w1) := Lib.hid g1
  clear g1
  go_wp2_with fail
  go_loopw [16] (fun i wr => ∃ k : Nat, k ≤ m ∧ i = .int .i64 k ∧ Hid (Wr B b w (l ++ [40] ++ rowOf (textsT ss) [] k) wr)) (fun i _ => m - (intOf i).toNat)
  case atStart => exact ⟨0, by omega, rfl, Lib.hid (G1.out.eq (by simp [rowOf]))⟩
  case round =>
    obtain ⟨k, hk, rfl, HR⟩ := hrel
    obtain ⟨wo, rfl⟩ : ∃ wo : World, wo = wr := ⟨_, rfl⟩
    have HWo : Hid (Below W.heap.size W wo) := Lib.hid (HWw.out.trans (HR.out.2.1.mono hWB))
    by_cases hlt : k < m
    · obtain ⟨s, hs⟩ : ∃ s, ss[k]? = some s := ⟨_, List.getElem?_eq_getElem (by rw [HL.out]; omega)⟩
      obtain ⟨g3, o3, v0, v1, v2, v3, v4, v5, v6, eA, hg, e0, e1, e2, e3, e4, e5, e6, hs7⟩ := HS.out k s hs
      obtain ⟨rfl, rfl⟩ : g = g3 ∧ o = o3 := by simpa using eA
      obtain ⟨Am, cm, At, ct, rfl, rfl, rfl, rfl, rfl, rfl, rfl⟩ := hs7.seven
      have HV7 : Hid (TyV W (.agg #[.int .i64 s.kind, .string s.pkg, .int .i64 s.major, .string s.mod, .string s.name, .slice Am s.names.length cm, .slice At s.subs.length ct]) s) := Lib.hid ⟨_, rfl, hs7⟩
      have tr : ∀ q v, W.cell? ⟨g, q, none⟩ = some v → wo.cell? ⟨g, q, none⟩ = some v := fun q v hv => (HWo.out.cell (p := ⟨g, _, none⟩) hg).trans hv
      have h0 := tr _ _ e0
      have h1 := tr _ _ e1
      have h2 := tr _ _ e2
      have h3 := tr _ _ e3
      have h4 := tr _ _ e4
      have h5 := tr _ _ e5
      have h6 := tr _ _ e6
      clear tr
      clear e0 e1 e2 e3 e4 e5 e6 hs7 eA
      have hlen := row_mono (textsT ss) [] (k := k + 1) m (by omega)
      have hstep := row_step0 (textsT ss) k
      rw [textsT_at _ _ s hs] at hstep
      have hl4 : l.length + (rowOf (textsT ss) [] (k + 1)).length + 6 ≤ 4000000 := by omega
      have IHs := Lib.hid (HIH.out s (List.mem_of_getElem? hs))
      obtain ⟨wo2, hwo2⟩ : ∃ wo2, wo2 = wo.alloc (.cells #[.int .i64 s.kind, .string s.pkg, .int .i64 s.major, .string s.mod, .string s.name, .slice Am s.names.length cm, .slice At s.subs.length ct] 30) := ⟨_, rfl⟩
      have HR2 : Hid (Wr B b wo (l ++ [40] ++ rowOf (textsT ss) [] k) wo2) := Lib.hid (by rw [hwo2]; exact HR.out.base.alloc _)
      have HR3 := Lib.hid HR2.out.base
      have HK2 : Hid (wo2.heap[wo.heap.size]? = some (.cells #[.int .i64 s.kind, .string s.pkg, .int .i64 s.major, .string s.mod, .string s.name, .slice Am s.names.length cm, .slice At s.subs.length ct] 30 (0, 0))) := Lib.hid (by rw [hwo2]; exact heap_alloc_new wo _)
      have hne2 : wo.heap.size ≠ b := by have := HR.out.lt; omega
      have HWO2 := Lib.hid hwo2
      have HW2 : Hid (Below W.heap.size W wo2) := Lib.hid (HWo.out.trans (HR2.out.2.1.mono hWB))
      clear hwo2 hlen hs
      rcases Nat.eq_zero_or_pos k with hp | hp
      · have hp2 : ¬ (0 : Int) < k := by omega
        have HST : Hid (rowOf (textsT ss) [] (k + 1) = rowOf (textsT ss) [] k ++ textT s) := Lib.hid (by rw [hstep, if_neg (by omega)])
        rw [HST.out] at hl4
        simp only [List.length_append] at hl4
        clear hstep hp
        go_wp2_with fail
        rw [← HWO2.out]
        clear h0 h1 h2 h3 h4 h5 h6
        refine (IHs.out B b _ W wo2 wo2 _ HV7.out HW2.out hWB HP.out HR3.out ?_).mono ?_
        · simp only [List.length_append, List.length_cons, List.length_nil]; omega
        rintro e w4 ⟨rfl, g4⟩
        have HR4 : Hid (Wr B b w (l ++ [40] ++ rowOf (textsT ss) [] (k + 1)) w4) := Lib.hid (((HR.out.over HR2.out).over g4).eq (by rw [HST.out]; simp))
        clear g4
        go_wp2_with fail
        go_roundw
        case rel => exact ⟨k + 1, by omega, by go_num, HR4⟩
        case measure => simp [intOf]; omega
      · have hp2 : (0 : Int) < k := by omega
        have HST : Hid (rowOf (textsT ss) [] (k + 1) = rowOf (textsT ss) [] k ++ [44, 32] ++ textT s) := Lib.hid (by rw [hstep, if_pos hp])
        rw [HST.out] at hl4
        simp only [List.length_append, List.length_cons, List.length_nil] at hl4
        clear hstep hp
        go_wp2_with fail
        rw [← HWO2.out]
        clear h0 h1 h2 h3 h4 h5 h6
        refine (wr_str HR3.out ⟨#[44, 32]⟩ ?_).mono ?_
        · simp only [List.length_append, List.length_cons, List.length_nil, z44]; omega
        rintro e w2 ⟨rfl, g2w⟩
        have d0 := g2w.cell HK2.out hne2 0
        have d1 := g2w.cell HK2.out hne2 1
        have d2 := g2w.cell HK2.out hne2 2
        have d3 := g2w.cell HK2.out hne2 3
        have d4 := g2w.cell HK2.out hne2 4
        have d5 := g2w.cell HK2.out hne2 5
        have d6 := g2w.cell HK2.out hne2 6
        simp at d0 d1 d2 d3 d4 d5 d6
        go_wp2_with fail
        refine (IHs.out B b _ W wo2 w2 _ HV7.out HW2.out hWB HP.out g2w ?_).mono ?_
        · simp only [List.length_append, List.length_cons, List.length_nil]; omega
        rintro e w4 ⟨rfl, g4⟩
        have HR4 : Hid (Wr B b w (l ++ [40] ++ rowOf (textsT ss) [] (k + 1)) w4) := Lib.hid (((HR.out.over HR2.out).over g4).eq (by rw [HST.out]; simp))
        clear d0 d1 d2 d3 d4 d5 d6 g2w g4
        go_wp2_with fail
        go_roundw
        case rel => exact ⟨k + 1, by omega, by go_num, HR4⟩
        case measure => simp [intOf]; omega
    · obtain rfl : k = m := by omega
      have IHs := Lib.hid (HIH.out q (List.mem_of_getElem? HQ.out))
      have hs := HQ.out
      obtain ⟨g3, o3, v0, v1, v2, v3, v4, v5, v6, eA, hg, e0, e1, e2, e3, e4, e5, e6, hs7⟩ := HS.out k q hs
      obtain ⟨rfl, rfl⟩ : g = g3 ∧ o = o3 := by simpa using eA
      obtain ⟨Am, cm, At, ct, rfl, rfl, rfl, rfl, rfl, rfl, rfl⟩ := hs7.seven
      have HV7 : Hid (TyV W (.agg #[.int .i64 q.kind, .string q.pkg, .int .i64 q.major, .string q.mod, .string q.name, .slice Am q.names.length cm, .slice At q.subs.length ct]) q) := Lib.hid ⟨_, rfl, hs7⟩
      clear hs7 eA hs
      go_wp2_with fail
      refine (wr_str HR.out ⟨#[41, 32, 45, 62, 32]⟩ ?_).mono ?_
      · show (l ++ [40] ++ rowOf (textsT ss) [] k).length + 5 ≤ 4000000
        simp only [List.length_append, List.length_cons, List.length_nil]; omega
      rintro e w2 ⟨rfl, g2w⟩
      have HW5 : Hid (Below W.heap.size W w2) := Lib.hid (HWw.out.trans (g2w.2.1.mono hWB))
      have tr : ∀ q v, W.cell? ⟨g, q, none⟩ = some v → w2.cell? ⟨g, q, none⟩ = some v := fun q v hv => (HW5.out.cell (p := ⟨g, _, none⟩) hg).trans hv
      have h0 := tr _ _ e0
      have h1 := tr _ _ e1
      have h2 := tr _ _ e2
      have h3 := tr _ _ e3
      have h4 := tr _ _ e4
      have h5 := tr _ _ e5
      have h6 := tr _ _ e6
      clear tr
      clear e0 e1 e2 e3 e4 e5 e6
      go_wp2_with fail
      refine (IHs.out B b _ W w w2 _ HV7.out HWw.out hWB HP.out g2w ?_).mono ?_
      · simp only [List.length_append, List.length_cons, List.length_nil]; omega
      rintro e w4 ⟨rfl, g4⟩
      go_wp2_with fail
      go_end0
      exact ⟨rfl, (HA.out.over g4).eq (by simp)⟩

end Go.Proofs.YtkgmdbkcldojnaaGreatDoor

/- The walk of package kind's write: the text of a type that may be, into a builder. -/
namespace Go.Proofs.YtkgmdbkcldojnaaGreatDoor
open Go.RowKit
open Go.Sort
open M

theorem writeFunc_at (ss : List Ty) (m n : Nat) (hnm : n = m + 1) (hss : ss.length = n) (q : Ty) (hq : ss[m]? = some q) (IH : ∀ s, s ∈ ss → WriteOk s) (As : Option Addr) (cs B b : Nat) (hcap : n ≤ cs) (hz : n ≤ 9223372036854775807) (W w0 w : World) (l : List UInt8) (hS : SubsAt W As ss) (hW : Below W.heap.size W w0) (hWB : W.heap.size ≤ B) (hP : Pow W) (hw : Wr B b w0 l w) (hl : l.length + (rowOf (textsT ss) [] m).length + 6 + (textT q).length ≤ 4000000) :
    Calls Tryz.prog 94 #[.pointer (some ⟨b, 0, none⟩), .slice As n cs] w fun e w' => e = .returned (.tuple #[]) ∧ Wr B b w0 (l ++ ([40] ++ rowOf (textsT ss) [] m ++ [41, 32, 45, 62, 32] ++ textT q)) w' := by
  subst hnm
  exact writeFunc_any ss m hss q hq IH As cs B b hcap hz W w0 w l hS hW hWB hP hw hl

set_option maxRecDepth 100000 in
set_option maxHeartbeats 8000000 in
theorem write_any (N : Nat) : ∀ (t : Ty), many t ≤ N → allOk t = true → WriteOk t := by
  induction N with
  | zero => intro t h; have := many_pos t; omega
  | succ N ih =>
  intro t hN hok B b v W w0 w l hv hW hWB hP hw hl
  have hok' : ownOk t = true ∧ allOkL t.subs = true := by rw [allOk_eq] at hok; simpa using hok
  obtain ⟨hown, hall⟩ := hok'
  have IH : Hid (∀ s, s ∈ t.subs → WriteOk s) := Lib.hid (fun s hs => ih s (by have := manyL_mem t.subs s hs; have := manyL_eq t; omega) ((allOkL_mem _).1 hall s hs))
  have HNM := Lib.hid (M.own_names hown)
  have hshape : shapeOk t = true := by
    have h := hown
    unfold ownOk at h
    simp only [Bool.and_eq_true] at h
    exact h.2
  have HSH := Lib.hid hshape
  have HOWN := Lib.hid hown
  have HP := Lib.hid hP
  have HTX := Lib.hid (textT_eq t)
  clear hN hok hown hall ih hshape hP
  have HV := Lib.hid hv
  obtain ⟨lv, rfl, hT⟩ := hv
  obtain ⟨An, cn, As, cs, rfl, zp, zm, za, hzn, hz, hNA, hS⟩ := hT.parts
  have HCAP := Lib.hid hT.cap
  have HS := Lib.hid hS
  have HNA := Lib.hid hNA
  have HLT := Lib.hid (textsT_len t.subs)
  have hbw := hw.lt
  obtain ⟨wb, hwb⟩ : ∃ wb, wb = w.alloc (.cells #[.int .i64 t.kind, .string t.pkg, .int .i64 t.major, .string t.mod, .string t.name, .slice An t.names.length cn, .slice As t.subs.length cs] 30) := ⟨_, rfl⟩
  have HA : Hid (Wr B b w0 l wb) := Lib.hid (by rw [hwb]; exact hw.alloc _)
  have H0 := Lib.hid HA.out.base
  have HK : Hid (wb.heap[w.heap.size]? = some (.cells #[.int .i64 t.kind, .string t.pkg, .int .i64 t.major, .string t.mod, .string t.name, .slice An t.names.length cn, .slice As t.subs.length cs] 30 (0, 0))) := Lib.hid (by rw [hwb]; exact heap_alloc_new w _)
  have hne : w.heap.size ≠ b := by omega
  have HWB := Lib.hid hwb
  have HWw : Hid (Below W.heap.size W wb) := Lib.hid (hW.trans (HA.out.2.1.mono hWB))
  clear hT hS hNA hW hwb hw
  by_cases hx : t.kind = 1
  · as_aux_lemma =>
    have HJ : Hid (textT t = [73, 110, 116]) := Lib.hid (by rw [HTX.out, hx]; rfl)
    rw [HJ.out] at hl
    have b1 : (t.kind == 1) = true := by rw [hx]; rfl
    clear hx
    go_enter Tryz.func55, Tryz.ntmps55
    go_wp2_with fail
    rw [← HWB.out]
    refine (wr_str H0.out ⟨#[73, 110, 116]⟩ ?_).mono ?_
    · exact hl
    rintro e w1 ⟨rfl, g1⟩
    go_wp2_with fail
    go_end0
    exact ⟨rfl, (HA.out.over g1).eq (by rw [HJ.out])⟩
  by_cases hx : t.kind = 2
  · as_aux_lemma =>
    have HJ : Hid (textT t = [84, 101, 120, 116]) := Lib.hid (by rw [HTX.out, hx]; rfl)
    rw [HJ.out] at hl
    have b1 : (t.kind == 1) = false := by rw [hx]; rfl
    have b2 : (t.kind == 2) = true := by rw [hx]; rfl
    clear hx
    go_enter Tryz.func55, Tryz.ntmps55
    go_wp2_with fail
    rw [← HWB.out]
    refine (wr_str H0.out ⟨#[84, 101, 120, 116]⟩ ?_).mono ?_
    · exact hl
    rintro e w1 ⟨rfl, g1⟩
    go_wp2_with fail
    go_end0
    exact ⟨rfl, (HA.out.over g1).eq (by rw [HJ.out])⟩
  by_cases hx : t.kind = 3
  · as_aux_lemma =>
    have HJ : Hid (textT t = [66, 111, 111, 108]) := Lib.hid (by rw [HTX.out, hx]; rfl)
    rw [HJ.out] at hl
    have b1 : (t.kind == 1) = false := by rw [hx]; rfl
    have b2 : (t.kind == 2) = false := by rw [hx]; rfl
    have b3 : (t.kind == 3) = true := by rw [hx]; rfl
    clear hx
    go_enter Tryz.func55, Tryz.ntmps55
    go_wp2_with fail
    rw [← HWB.out]
    refine (wr_str H0.out ⟨#[66, 111, 111, 108]⟩ ?_).mono ?_
    · exact hl
    rintro e w1 ⟨rfl, g1⟩
    go_wp2_with fail
    go_end0
    exact ⟨rfl, (HA.out.over g1).eq (by rw [HJ.out])⟩
  by_cases hx : t.kind = 4
  · as_aux_lemma =>
    have hn1 : t.subs.length = 1 := by
      have h := HSH.out
      unfold shapeOk at h
      rw [hx] at h
      simp at h
      omega
    obtain ⟨s, hs⟩ : ∃ s, t.subs[0]? = some s := ⟨_, List.getElem?_eq_getElem (by omega)⟩
    have HJ : Hid (textT t = [76, 105, 115, 116, 40] ++ textT s ++ [41]) := Lib.hid (by rw [HTX.out, hx]; simp [kindText]; rw [← List.getD_eq_getElem?_getD, textsT_at _ 0 s hs])
    rw [HJ.out] at hl
    simp only [List.length_append, List.length_cons, List.length_nil] at hl
    obtain ⟨g, o, v0, v1, v2, v3, v4, v5, v6, rfl, hg, e0, e1, e2, e3, e4, e5, e6, hs7⟩ := HS.out 0 s hs
    obtain ⟨Am, cm, At, ct, rfl, rfl, rfl, rfl, rfl, rfl, rfl⟩ := hs7.seven
    have HV7 : Hid (TyV W (.agg #[.int .i64 s.kind, .string s.pkg, .int .i64 s.major, .string s.mod, .string s.name, .slice Am s.names.length cm, .slice At s.subs.length ct]) s) := Lib.hid ⟨_, rfl, hs7⟩
    have IHs := Lib.hid (IH.out s (List.mem_of_getElem? hs))
    simp only [Nat.zero_mul, Nat.add_zero] at e0 e1 e2 e3 e4 e5 e6
    have h01 : 0 < t.subs.length := by omega
    have b1 : (t.kind == 1) = false := by rw [hx]; rfl
    have b2 : (t.kind == 2) = false := by rw [hx]; rfl
    have b3 : (t.kind == 3) = false := by rw [hx]; rfl
    have b4 : (t.kind == 4) = true := by rw [hx]; rfl
    clear hx hs7 hs hn1
    go_enter Tryz.func55, Tryz.ntmps55
    go_wp2_with fail
    rw [← HWB.out]
    refine (wr_str H0.out ⟨#[76, 105, 115, 116, 40]⟩ ?_).mono ?_
    · show l.length + 5 ≤ 4000000; omega
    rintro e w1 ⟨rfl, g1⟩
    have c6 := g1.cell HK.out hne 6
    simp at c6
    have HW1 : Hid (Below W.heap.size W w1) := Lib.hid (HWw.out.trans (g1.2.1.mono hWB))
    have tr : ∀ q v, W.cell? ⟨g, q, none⟩ = some v → w1.cell? ⟨g, q, none⟩ = some v := fun q v hv => (HW1.out.cell (p := ⟨g, _, none⟩) hg).trans hv
    have h0 := tr _ _ e0
    have h1 := tr _ _ e1
    have h2 := tr _ _ e2
    have h3 := tr _ _ e3
    have h4 := tr _ _ e4
    have h5 := tr _ _ e5
    have h6 := tr _ _ e6
    clear tr e0 e1 e2 e3 e4 e5 e6
    go_wp2_with fail
    refine (IHs.out B b _ W wb w1 _ HV7.out HWw.out hWB HP.out g1 ?_).mono ?_
    · simp only [List.length_append, List.length_cons, List.length_nil]; omega
    rintro e w2 ⟨rfl, g2⟩
    clear c6 h0 h1 h2 h3 h4 h5 h6
    go_wp2_with fail
    refine (wr_str g2 ⟨#[41]⟩ ?_).mono ?_
    · show (l ++ [76, 105, 115, 116, 40] ++ textT s).length + 1 ≤ 4000000
      simp only [List.length_append, List.length_cons, List.length_nil]; omega
    rintro e w3 ⟨rfl, g3⟩
    go_wp2_with fail
    go_end0
    exact ⟨rfl, (HA.out.over g3).eq (by rw [HJ.out]; simp)⟩
  by_cases hx : t.kind = 5
  · as_aux_lemma =>
    have hn1 : t.names.length = t.subs.length := by
      have h := HSH.out
      unfold shapeOk at h
      rw [hx] at h
      simp at h
      omega
    have HJ : Hid (textT t = [123] ++ rowOf (textsT t.subs) t.names t.subs.length ++ [125]) := Lib.hid (by rw [HTX.out, hx]; simp [kindText, HLT.out])
    rw [HJ.out] at hl
    simp only [List.length_append, List.length_cons, List.length_nil] at hl
    have HNN := Lib.hid hn1
    have b1 : (t.kind == 1) = false := by rw [hx]; rfl
    have b2 : (t.kind == 2) = false := by rw [hx]; rfl
    have b3 : (t.kind == 3) = false := by rw [hx]; rfl
    have b4 : (t.kind == 4) = false := by rw [hx]; rfl
    have b5 : (t.kind == 5) = true := by rw [hx]; rfl
    clear hx hn1
    go_enter Tryz.func55, Tryz.ntmps55
    go_wp2_with fail
    rw [← HWB.out]
    refine (wr_str H0.out ⟨#[123]⟩ ?_).mono ?_
    · show l.length + 1 ≤ 4000000; omega
    rintro e w1 ⟨rfl, g1⟩
    have c0 := g1.cell HK.out hne 0
    have c1 := g1.cell HK.out hne 1
    have c2 := g1.cell HK.out hne 2
    have c3 := g1.cell HK.out hne 3
    have c4 := g1.cell HK.out hne 4
    have c5 := g1.cell HK.out hne 5
    have c6 := g1.cell HK.out hne 6
    simp at c0 c1 c2 c3 c4 c5 c6
    go_wp2_with fail
    refine (writeNamed_any t IH.out HNN.out HNM.out B b _ W wb w1 _ HV.out HWw.out hWB HP.out g1 ?_).mono ?_
    · simp only [List.length_append, List.length_cons, List.length_nil]; omega
    rintro e w2 ⟨rfl, g2⟩
    clear c0 c1 c2 c3 c4 c5 c6
    go_wp2_with fail
    refine (wr_str g2 ⟨#[125]⟩ ?_).mono ?_
    · show (l ++ [123] ++ rowOf (textsT t.subs) t.names t.subs.length).length + 1 ≤ 4000000
      simp only [List.length_append, List.length_cons, List.length_nil]; omega
    rintro e w3 ⟨rfl, g3⟩
    go_wp2_with fail
    go_end0
    exact ⟨rfl, (HA.out.over g3).eq (by rw [HJ.out]; simp)⟩
  by_cases hx : t.kind = 6
  · as_aux_lemma =>
    have hn1 : t.names.length = t.subs.length := by
      have h := HSH.out
      unfold shapeOk at h
      rw [hx] at h
      simp at h
      omega
    have HJ : Hid (textT t = [91] ++ rowOf (textsT t.subs) t.names t.subs.length ++ [93]) := Lib.hid (by rw [HTX.out, hx]; simp [kindText, HLT.out])
    rw [HJ.out] at hl
    simp only [List.length_append, List.length_cons, List.length_nil] at hl
    have HNN := Lib.hid hn1
    have b1 : (t.kind == 1) = false := by rw [hx]; rfl
    have b2 : (t.kind == 2) = false := by rw [hx]; rfl
    have b3 : (t.kind == 3) = false := by rw [hx]; rfl
    have b4 : (t.kind == 4) = false := by rw [hx]; rfl
    have b5 : (t.kind == 5) = false := by rw [hx]; rfl
    have b6 : (t.kind == 6) = true := by rw [hx]; rfl
    clear hx hn1
    go_enter Tryz.func55, Tryz.ntmps55
    go_wp2_with fail
    rw [← HWB.out]
    refine (wr_str H0.out ⟨#[91]⟩ ?_).mono ?_
    · show l.length + 1 ≤ 4000000; omega
    rintro e w1 ⟨rfl, g1⟩
    have c0 := g1.cell HK.out hne 0
    have c1 := g1.cell HK.out hne 1
    have c2 := g1.cell HK.out hne 2
    have c3 := g1.cell HK.out hne 3
    have c4 := g1.cell HK.out hne 4
    have c5 := g1.cell HK.out hne 5
    have c6 := g1.cell HK.out hne 6
    simp at c0 c1 c2 c3 c4 c5 c6
    go_wp2_with fail
    refine (writeNamed_any t IH.out HNN.out HNM.out B b _ W wb w1 _ HV.out HWw.out hWB HP.out g1 ?_).mono ?_
    · simp only [List.length_append, List.length_cons, List.length_nil]; omega
    rintro e w2 ⟨rfl, g2⟩
    clear c0 c1 c2 c3 c4 c5 c6
    go_wp2_with fail
    refine (wr_str g2 ⟨#[93]⟩ ?_).mono ?_
    · show (l ++ [91] ++ rowOf (textsT t.subs) t.names t.subs.length).length + 1 ≤ 4000000
      simp only [List.length_append, List.length_cons, List.length_nil]; omega
    rintro e w3 ⟨rfl, g3⟩
    go_wp2_with fail
    go_end0
    exact ⟨rfl, (HA.out.over g3).eq (by rw [HJ.out]; simp)⟩
  by_cases hx : t.kind = 7
  · as_aux_lemma =>
    have hn1 : 0 < t.subs.length := by
      have h := HSH.out
      unfold shapeOk at h
      rw [hx] at h
      simp at h
      omega
    obtain ⟨m, hm⟩ : ∃ m, t.subs.length = m + 1 := ⟨t.subs.length - 1, by omega⟩
    obtain ⟨s, hs⟩ : ∃ s, t.subs[m]? = some s := ⟨_, List.getElem?_eq_getElem (by omega)⟩
    have HJ : Hid (textT t = [40] ++ rowOf (textsT t.subs) [] m ++ [41, 32, 45, 62, 32] ++ textT s) := Lib.hid (by rw [HTX.out, hx]; show [40] ++ rowOf (textsT t.subs) [] ((textsT t.subs).length - 1) ++ [41, 32, 45, 62, 32] ++ (textsT t.subs).getD ((textsT t.subs).length - 1) [] = _; rw [HLT.out, hm, Nat.add_sub_cancel, textsT_at _ m s hs])
    rw [HJ.out] at hl
    simp only [List.length_append, List.length_cons, List.length_nil] at hl
    have HM := Lib.hid hm
    have HSS := Lib.hid hs
    have b1 : (t.kind == 1) = false := by rw [hx]; rfl
    have b2 : (t.kind == 2) = false := by rw [hx]; rfl
    have b3 : (t.kind == 3) = false := by rw [hx]; rfl
    have b4 : (t.kind == 4) = false := by rw [hx]; rfl
    have b5 : (t.kind == 5) = false := by rw [hx]; rfl
    have b6 : (t.kind == 6) = false := by rw [hx]; rfl
    have b7 : (t.kind == 7) = true := by rw [hx]; rfl
    clear hx hn1 hm hs
    go_enter Tryz.func55, Tryz.ntmps55
    go_wp2_with fail
    rw [← HWB.out]
    have c6 := H0.out.cell HK.out hne 6
    simp at c6
    go_wp2_with fail
    refine (writeFunc_at t.subs m _ HM.out rfl s HSS.out IH.out As cs B b HCAP.out hz W wb wb l HS.out HWw.out hWB HP.out H0.out ?_).mono ?_
    · omega
    rintro e w2 ⟨rfl, g2⟩
    go_wp2_with fail
    go_end0
    exact ⟨rfl, (HA.out.over g2).eq (by rw [HJ.out])⟩
  by_cases hx : t.kind = 8
  · as_aux_lemma =>
    have HX := Lib.hid hx
    have b1 : (t.kind == 1) = false := by rw [hx]; rfl
    have b2 : (t.kind == 2) = false := by rw [hx]; rfl
    have b3 : (t.kind == 3) = false := by rw [hx]; rfl
    have b4 : (t.kind == 4) = false := by rw [hx]; rfl
    have b5 : (t.kind == 5) = false := by rw [hx]; rfl
    have b6 : (t.kind == 6) = false := by rw [hx]; rfl
    have b7 : (t.kind == 7) = false := by rw [hx]; rfl
    have b8 : (t.kind == 8) = true := by rw [hx]; rfl
    clear hx
    go_enter Tryz.func55, Tryz.ntmps55
    go_wp2_with fail
    rw [← HWB.out]
    have c0 := H0.out.cell HK.out hne 0
    have c1 := H0.out.cell HK.out hne 1
    have c2 := H0.out.cell HK.out hne 2
    have c3 := H0.out.cell HK.out hne 3
    have c4 := H0.out.cell HK.out hne 4
    have c5 := H0.out.cell HK.out hne 5
    have c6 := H0.out.cell HK.out hne 6
    simp at c0 c1 c2 c3 c4 c5 c6
    go_wp2_with fail
    refine (writeLocal_any t HOWN.out HX.out B b _ W wb wb l HV.out HWw.out hWB H0.out hl).mono ?_; rintro e w2 ⟨rfl, g2⟩
    go_wp2_with fail
    go_end0
    exact ⟨rfl, HA.out.over g2⟩
  by_cases hx : t.kind = 9
  · as_aux_lemma =>
    have hm : (1 ≤ t.major ∧ t.major ≤ 999999999) ∧ t.pkg.size ≤ 20 ∧ t.mod.size ≤ 20 ∧ t.name.size ≤ 20 := by
      have h := HSH.out
      unfold shapeOk at h
      rw [hx] at h
      simp at h
      exact ⟨⟨h.1.2, h.2⟩, small_len h.1.1.1.1.2, small_len h.1.1.1.2, great_len h.1.1.2⟩
    obtain ⟨⟨m1, m2⟩, z1, z2, z3⟩ := hm
    have z4 := dec_size t.major (by omega) (by omega)
    have HJ : Hid ((⟨#[60]⟩ ++ t.pkg ++ ⟨#[32]⟩ ++ dec t.major ++ ⟨#[32]⟩ ++ t.mod ++ ⟨#[32]⟩ ++ t.name ++ ⟨#[62]⟩ : ByteArray).data.toList = textT t) := Lib.hid (by rw [HTX.out, hx]; simp [kindText])
    have HZ : Hid ((⟨#[60]⟩ ++ t.pkg ++ ⟨#[32]⟩ ++ dec t.major ++ ⟨#[32]⟩ ++ t.mod ++ ⟨#[32]⟩ ++ t.name ++ ⟨#[62]⟩ : ByteArray).size = (textT t).length) := Lib.hid (by rw [← HJ.out, len_size])
    have n1 : ¬ (1 + t.pkg.size > 9223372036854775807) := by omega
    have n2 : ¬ (1 + t.pkg.size + 1 > 9223372036854775807) := by omega
    have n3 : ¬ (1 + t.pkg.size + 1 + (dec t.major).size > 9223372036854775807) := by omega
    have n4 : ¬ (1 + t.pkg.size + 1 + (dec t.major).size + 1 > 9223372036854775807) := by omega
    have n5 : ¬ (1 + t.pkg.size + 1 + (dec t.major).size + 1 + t.mod.size > 9223372036854775807) := by omega
    have n6 : ¬ (1 + t.pkg.size + 1 + (dec t.major).size + 1 + t.mod.size + 1 > 9223372036854775807) := by omega
    have n7 : ¬ (1 + t.pkg.size + 1 + (dec t.major).size + 1 + t.mod.size + 1 + t.name.size > 9223372036854775807) := by omega
    have n8 : ¬ (1 + t.pkg.size + 1 + (dec t.major).size + 1 + t.mod.size + 1 + t.name.size + 1 > 9223372036854775807) := by omega
    have cD : ∀ dd os, Calls Tryz.prog 96 #[.int .i64 t.major] (Sort.grow (redrawn wb dd) os) fun e w'' => e = .returned (.string (dec t.major)) ∧ ∃ pp : Regrown, w'' = Sort.grow (redrawn wb pp.d) pp.os := fun dd os => Calls.regrown_of (itoa_any _ _ (by omega) (by omega) ((HP.out.on HWw.out).on (below_regrown _ dd os)))
    have y0 := H0.out.cell HK.out hne 0
    have y1 := H0.out.cell HK.out hne 1
    have y2 := H0.out.cell HK.out hne 2
    have y3 := H0.out.cell HK.out hne 3
    have y4 := H0.out.cell HK.out hne 4
    have y5 := H0.out.cell HK.out hne 5
    have y6 := H0.out.cell HK.out hne 6
    simp at y0 y1 y2 y3 y4 y5 y6
    have p1 := cell_regrown y1
    have p2 := cell_regrown y2
    have p3 := cell_regrown y3
    have p4 := cell_regrown y4
    have b1 : (t.kind == 1) = false := by rw [hx]; rfl
    have b2 : (t.kind == 2) = false := by rw [hx]; rfl
    have b3 : (t.kind == 3) = false := by rw [hx]; rfl
    have b4 : (t.kind == 4) = false := by rw [hx]; rfl
    have b5 : (t.kind == 5) = false := by rw [hx]; rfl
    have b6 : (t.kind == 6) = false := by rw [hx]; rfl
    have b7 : (t.kind == 7) = false := by rw [hx]; rfl
    have b8 : (t.kind == 8) = false := by rw [hx]; rfl
    have b9 : (t.kind == 9) = true := by rw [hx]; rfl
    clear hx
    go_enter Tryz.func55, Tryz.ntmps55
    go_wp2_with fail
    rw [← HWB.out]
    clear z4 y0 y5 y6
    go_wp2_with fail
    refine wp_region_last (C := fun w' => ∃ p : Regrown, w' = Sort.grow (redrawn wb p.d) p.os) (by kernel_rfl) rfl rfl (by kernel_rfl) (by intro cs b h; cases h) (by kernel_rfl) (by kernel_rfl) (by kernel_rfl) ⟨⟨wb.drawn + 1, #[]⟩, by rw [grow_empty]; rfl⟩ ?_
    unfold tameLast
    simp only [List.dropLast, List.cons_append, List.nil_append]
    repeat (any_goals (first | go_big_quiet_step (with_reducible exact cD _ _) | quiet_step (with_reducible exact cD _ _)))
    refine wpQuiet_nil ?_
    intro w' hw'
    obtain ⟨⟨dq, osq⟩, hw''⟩ := hw'
    subst hw''
    have g1 := H0.out.below (below_regrown wb dq osq)
    refine ⟨92, #[.pointer (some ⟨b, 0, none⟩), .string (⟨#[60]⟩ ++ t.pkg ++ ⟨#[32]⟩ ++ dec t.major ++ ⟨#[32]⟩ ++ t.mod ++ ⟨#[32]⟩ ++ t.name ++ ⟨#[62]⟩ : ByteArray)], by go_simp, ?_⟩
    refine (wr_str g1 _ ?_).mono ?_
    · rw [HZ.out]; exact hl
    rintro e w3 ⟨rfl, g3⟩
    refine ⟨_, rfl, ?_⟩
    go_wp2_with fail
    go_end0
    exact ⟨rfl, (HA.out.over g3).eq (by rw [HJ.out])⟩
  exfalso
  have h := HSH.out
  unfold shapeOk at h
  simp_all

set_option maxRecDepth 100000 in
set_option maxHeartbeats 4000000 in
theorem printK_yes (t : Ty) (h : mayT t = true) (hM : many t ≤ 9000) (v : Value) (w : World) (hv : TyV w v t) (hP : Pow w) :
    Calls Tryz.prog 23 #[v] w fun e w' => e = .returned (.tuple #[.string (tB t), .nilIface]) ∧ Below w.heap.size w w' := by
  have hall : allOk t = true := by
    have h' := h
    unfold mayT at h'
    simp only [Bool.and_eq_true] at h'
    exact h'.1.1
  have htl := text_len t hall
  have HWR := Lib.hid (write_any _ t (Nat.le_refl _) hall)
  have HM := Lib.hid h
  have HP := Lib.hid hP
  have hlen : (textT t).length ≤ 4000000 := by omega
  have HV := Lib.hid hv
  obtain ⟨lv, rfl, hT⟩ := hv
  obtain ⟨An, cn, As, cs, rfl, -, -, -, -, -, -, -⟩ := hT.parts
  clear hT hP h hall htl
  obtain ⟨wb, hwb⟩ : ∃ wb, wb = w.alloc (.cells #[.int .i64 t.kind, .string t.pkg, .int .i64 t.major, .string t.mod, .string t.name, .slice An t.names.length cn, .slice As t.subs.length cs] 30) := ⟨_, rfl⟩
  have HBB : Hid (Below w.heap.size w wb) := Lib.hid (by rw [hwb]; exact below_new (Below.refl _ _) _)
  have HBX : Hid (wb.heap[w.heap.size]? = some (.cells #[.int .i64 t.kind, .string t.pkg, .int .i64 t.major, .string t.mod, .string t.name, .slice An t.names.length cn, .slice As t.subs.length cs] 30 (0, 0))) := Lib.hid (by rw [hwb]; exact heap_alloc_new w _)
  have HWB := Lib.hid hwb
  clear hwb
  go_enter Tryz.func23, Tryz.ntmps23
  go_wp2_with fail
  rw [← HWB.out]
  refine (mayK_any t _ _ (HV.out.below HBB.out)).mono ?_; rintro e w1 ⟨rfl, hb1⟩; rw [HM.out]
  have HB1 : Hid (Below w.heap.size w w1) := Lib.hid (HBB.out.trans (hb1.mono HBB.out.size))
  have hlt : w.heap.size < wb.heap.size := (Array.getElem?_eq_some_iff.1 HBX.out).1
  have hlt1 : w.heap.size < w1.heap.size := Nat.lt_of_lt_of_le hlt hb1.size
  have HX1 : Hid (∀ i v, (#[.int .i64 t.kind, .string t.pkg, .int .i64 t.major, .string t.mod, .string t.name, .slice An t.names.length cn, .slice As t.subs.length cs] : Array Value)[i]? = some v → w1.cell? ⟨w.heap.size, i, none⟩ = some v) := Lib.hid (fun i v hv => by
    rw [(bcell hb1).1 _ _ hlt, Lib.cell_of_heap HBX.out]; exact hv)
  have x0 := HX1.out 0 _ rfl
  have x1 := HX1.out 1 _ rfl
  have x2 := HX1.out 2 _ rfl
  have x3 := HX1.out 3 _ rfl
  have x4 := HX1.out 4 _ rfl
  have x5 := HX1.out 5 _ rfl
  have x6 := HX1.out 6 _ rfl
  have h0 := Lib.hid (Lib.fresh_isBuilder 108 5 w1)
  clear hb1
  go_wp2_with fail
  have W0 : Wr w1.heap.size w1.heap.size (w1.alloc (.cells #[.pointer none, .slice none 0 0] 108)) [] (w1.alloc (.cells #[.pointer none, .slice none 0 0] 108)) := ⟨h0.out, Below.refl _ _, Lib.OthersKept.refl _ _ _⟩
  refine (HWR.out w1.heap.size w1.heap.size _ w1 _ _ [] (HV.out.below HB1.out) (below_new (Below.refl _ _) _) (Nat.le_refl _) (HP.out.on HB1.out) W0 (by simpa using hlen)).mono ?_; rintro e w2 ⟨rfl, g2⟩
  have HB2 : Hid (Below w.heap.size w w2) := Lib.hid ((below_new HB1.out _).trans (g2.2.1.mono HB1.out.size))
  have hsz : w1.heap.size ≤ w2.heap.size := by have := g2.lt; omega
  clear x0 x1 x2 x3 x4 x5 x6
  go_wp2_with fail
  refine (Tryz.Builder_String_any w1.heap.size w1.heap.size (textT t) _ g2.1 hsz).mono ?_; rintro e w3 ⟨rfl, hb3⟩
  go_wp2_with fail
  go_ret2
  exact ⟨rfl, HB2.out.trans (hb3.mono HB1.out.size)⟩

end Go.Proofs.YtkgmdbkcldojnaaGreatDoor

/- The walk of the document's example at the head of layer 8's statements: it answers true. -/
namespace Go.Proofs.YtkgmdbkcldojnaaGreatDoor
open Go Go.RowKit Go.Shelf
open Go.Sort Go.Maps
open M

def exC (s : UInt8) : List Value := [.int .i64 8, .string ⟨#[]⟩, .int .i64 0, .string ⟨#[]⟩, .string ⟨#[s]⟩, .slice none 0 0, .slice none 0 0]
def exL (s : UInt8) : Ty := .mk 8 ⟨#[]⟩ 0 ⟨#[]⟩ ⟨#[s]⟩ [] []
def exLi : Ty := .mk 4 ⟨#[]⟩ 0 ⟨#[]⟩ ⟨#[]⟩ [] [exL 84]
def exM : Mo := ⟨⟨#[109]⟩, [], [⟨3, ⟨#[65]⟩, exLi⟩, ⟨1, ⟨#[84]⟩, noT⟩]⟩
def exU : Ty := .mk 4 ⟨#[]⟩ 0 ⟨#[]⟩ ⟨#[]⟩ [] [.mk 9 ⟨#[112]⟩ 1 ⟨#[109]⟩ ⟨#[84]⟩ [] []]
theorem exA_may : mayT (exL 65) = true := by decide +kernel
theorem exM_may : mayM exM = true := by decide +kernel
theorem exU_may : mayT exU = true := by decide +kernel
theorem exU_text : tB exU = ⟨#[76, 105, 115, 116, 40, 60, 112, 32, 49, 32, 109, 32, 84, 62, 41]⟩ := by decide +kernel
theorem exT_at : typAt exM ⟨#[84]⟩ = some 1 := by decide +kernel
theorem exA_at : typAt exM ⟨#[65]⟩ = some 0 := by decide +kernel
theorem exLi_said : saidT exM exLi = [1] := by decide +kernel
theorem exN_said : saidT exM noT = [] := by decide +kernel
theorem ex_reach {i : Nat} (h : Reach (entries exM) [1] i) : i = 1 := by
  induction h with
  | one h => simpa using h
  | step _ hx hi ih =>
    subst ih
    have h1 := entries_at (m := exM) (i := 1) (d := ⟨1, ⟨#[84]⟩, noT⟩) rfl
    rw [h1] at hx
    cases hx
    rw [exN_said] at hi
    cases hi
theorem ex_none {i : Nat} (h : Reach (entries exM) [] i) : False := by
  induction h with
  | one h => cases h
  | step _ _ _ ih => exact ih
theorem exM_ok : Ok7 exM := by
  have two : ∀ (i : Nat) (d : De), exM.decs[i]? = some d → (i = 0 ∧ d = ⟨3, ⟨#[65]⟩, exLi⟩) ∨ (i = 1 ∧ d = ⟨1, ⟨#[84]⟩, noT⟩) := fun i d h => by
    match i, h with
    | 0, h => simp [exM] at h; exact .inl ⟨rfl, h.symm⟩
    | 1, h => simp [exM] at h; exact .inr ⟨rfl, h.symm⟩
    | i + 2, h => simp [exM] at h
  refine ⟨fun i h => by simp [exM] at h, fun i h => ?_, fun i d h => ?_, fun i d h hr => ?_, fun i j d e h h' _ => ?_⟩
  · match i, h with
    | 0, _ => decide +kernel
    | 1, _ => decide +kernel
    | i + 2, h => simp [exM] at h; omega
  · rcases two i d h with ⟨-, rfl⟩ | ⟨-, rfl⟩ <;> decide +kernel
  · rcases two i d h with ⟨rfl, rfl⟩ | ⟨rfl, rfl⟩
    · rw [show (De.mk 3 ⟨#[65]⟩ exLi).typ = exLi from rfl, exLi_said] at hr
      have := ex_reach hr
      omega
    · rw [show (De.mk 1 ⟨#[84]⟩ noT).typ = noT from rfl, exN_said] at hr
      exact ex_none hr
  · rcases two j e h' with ⟨-, rfl⟩ | ⟨-, rfl⟩ <;> decide
theorem ex_mayN : MayN exM ⟨#[112]⟩ 1 [] := ⟨⟨exM_may, exM_ok⟩, by decide +kernel, by decide⟩
theorem ex_known : (locT (exL 65)).all (knoN exM) = true := by decide +kernel
theorem exLi_loc : locT exLi = [exL 84] := by rfl
theorem exA_loc : locT (exL 65) = [exL 65] := by rfl
theorem ex_lacks : ((allK exM (exL 65) exM.decs.length).any fun s => lacksN exM [] (locT s)) = false := by
  rw [List.any_eq_false]
  intro s hs
  rcases allK_mem hs with rfl | ⟨k, d, hd, h3, -, rfl⟩
  · rw [exA_loc]; decide
  · match k, hd with
    | 0, hd => simp [exM] at hd; subst hd; rw [show (De.mk 3 ⟨#[65]⟩ exLi).typ = exLi from rfl, exLi_loc]; decide
    | 1, hd => simp [exM] at hd; subst hd; simp at h3
    | k + 2, hd => simp [exM] at hd
theorem ex_exp : ExpH (meanT exM ⟨#[112]⟩ 1 []) 5 (exL 65) exU := by
  have hA : meanT exM ⟨#[112]⟩ 1 [] (exL 65) = some exLi := by
    unfold meanT
    rw [if_pos (show (exL 65).mod.size = 0 from rfl), show (exL 65).name = ⟨#[65]⟩ from rfl, exA_at]
    rfl
  have hT : meanT exM ⟨#[112]⟩ 1 [] (exL 84) = some (.mk 9 ⟨#[112]⟩ 1 ⟨#[109]⟩ ⟨#[84]⟩ [] []) := by
    unfold meanT
    rw [if_pos (show (exL 84).mod.size = 0 from rfl), show (exL 84).name = ⟨#[84]⟩ from rfl, exT_at]
    rfl
  refine .inl ⟨rfl, _, hA, .inr ⟨by decide, [.mk 9 ⟨#[112]⟩ 1 ⟨#[109]⟩ ⟨#[84]⟩ [] []], rfl, rfl, fun i s v hs hv => ?_⟩⟩
  match i, hs, hv with
  | 0, hs, hv =>
    simp [exLi, Ty.subs] at hs hv
    subst hs hv
    exact .inl ⟨rfl, _, hT, .inr ⟨by decide, [], rfl, rfl, fun i s v hs _ => by simp [Ty.subs] at hs⟩⟩
  | i + 1, hs, hv => simp [exLi, Ty.subs] at hs
theorem ex_is {c : Int} {u : Ty} (h : EpIs exM ⟨#[112]⟩ 1 [] (exL 65) c u) : c = 0 ∧ u = exU := by
  rcases h with ⟨-, -, h⟩ | ⟨-, -, h⟩
  · exact absurd ⟨ex_mayN, exA_may⟩ h
  · rcases h with ⟨-, -, h⟩ | ⟨-, h⟩
    · rw [ex_known] at h; cases h
    · rcases h with ⟨-, -, h⟩ | ⟨-, hh, x, hx, h⟩
      · rw [ex_lacks] at h; cases h
      · obtain rfl := exp_one _ _ _ _ _ hx ex_exp
        rcases h with ⟨-, -, h⟩ | ⟨hc, hu, -⟩
        · rcases h with h | h
          · exact absurd h (by decide +kernel)
          · exact absurd h (by decide +kernel)
        · exact ⟨hc, hu⟩
theorem exC_at (w : World) (s : UInt8) : TyAt w (exC s) (exL s) :=
  .mk 8 ⟨#[]⟩ 0 ⟨#[]⟩ ⟨#[s]⟩ [] [] none 0 none 0 (fun _ => exC 0) (by decide) (by decide) (by show (1 : Nat) ≤ _; decide) (by decide) (by decide) (by decide) (fun i s h => by simp at h) (fun _ => rfl) (fun i t h => by simp at h) (fun i t h => by simp at h)
def exLiC (g : Nat) : List Value := [.int .i64 4, .string ⟨#[]⟩, .int .i64 0, .string ⟨#[]⟩, .string ⟨#[]⟩, .slice none 0 0, .slice (some ⟨g, 0, none⟩) 1 1]
/-- A list of one type, in a slice of its own. -/
theorem li_at (w : World) (g : Nat) (t : Ty) (l : List Value) (hT : TyAt w l t) (hc : w.heap[g]? = some (.cells l.toArray 30 (0, 0))) : TyAt w (exLiC g) (.mk 4 ⟨#[]⟩ 0 ⟨#[]⟩ ⟨#[]⟩ [] [t]) := by
  refine .mk 4 ⟨#[]⟩ 0 ⟨#[]⟩ ⟨#[]⟩ [] [t] none 0 (some ⟨g, 0, none⟩) 1 (fun _ => l) (by decide) (by decide) (by decide) (by decide) (by simp) (by simp) (fun i s h => by simp at h) (fun i => hT.len) (fun i t h => ?_) (fun i t h => ?_)
  · refine ⟨g, 0, rfl, (Array.getElem?_eq_some_iff.1 hc).1, fun j v hv => ?_⟩
    have hi : i = 0 := by have := (List.getElem?_eq_some_iff.1 h).1; simp at this; exact this
    subst hi
    rw [Lib.cell_of_heap hc, List.getElem?_toArray, show 0 + 0 * 7 + j = j by omega]
    exact hv
  · have hi : i = 0 := by have := (List.getElem?_eq_some_iff.1 h).1; simp at this; exact this
    subst hi
    cases h
    exact hT
def exDC (g : Nat) : List Value := [.int .i64 3, .string ⟨#[65]⟩, .int .i64 4, .string ⟨#[]⟩, .int .i64 0, .string ⟨#[]⟩, .string ⟨#[]⟩, .slice none 0 0, .slice (some ⟨g, 0, none⟩) 1 1, .int .i64 1, .string ⟨#[84]⟩, .int .i64 0, .string ⟨#[]⟩, .int .i64 0, .string ⟨#[]⟩, .string ⟨#[]⟩, .slice none 0 0, .slice none 0 0]
theorem exM_at (w : World) (g d : Nat) (hc : w.heap[g]? = some (.cells (exC 84).toArray 30 (0, 0))) (hd : w.heap[d]? = some (.cells (exDC g).toArray 63 (0, 0))) :
    MoAt w [.string ⟨#[109]⟩, .slice none 0 0, .slice (some ⟨d, 0, none⟩) 2 2] exM := by
  refine ⟨none, 0, some ⟨d, 0, none⟩, 2, rfl, by decide, by decide, by decide, fun i x h => by simp [exM] at h, fun i x h => ?_⟩
  have hdl := (Array.getElem?_eq_some_iff.1 hd).1
  match i, h with
  | 0, h =>
    simp [exM] at h
    subst h
    refine ⟨d, 0, .int .i64 3 :: .string ⟨#[65]⟩ :: exLiC g, rfl, hdl, fun j v hv => ?_, by show (1 : Nat) ≤ _; decide, exLiC g, rfl, li_at w g (exL 84) _ (exC_at w 84) hc⟩
    have hj := (List.getElem?_eq_some_iff.1 hv).1
    rw [Lib.cell_of_heap hd, List.getElem?_toArray, show 0 + 0 * deR.k + j = j by omega, ← hv]
    exact List.getElem?_append_left (l₁ := .int .i64 3 :: .string ⟨#[65]⟩ :: exLiC g) (l₂ := [.int .i64 1, .string ⟨#[84]⟩, .int .i64 0, .string ⟨#[]⟩, .int .i64 0, .string ⟨#[]⟩, .string ⟨#[]⟩, .slice none 0 0, .slice none 0 0]) hj
  | 1, h =>
    simp [exM] at h
    subst h
    refine ⟨d, 0, [.int .i64 1, .string ⟨#[84]⟩, .int .i64 0, .string ⟨#[]⟩, .int .i64 0, .string ⟨#[]⟩, .string ⟨#[]⟩, .slice none 0 0, .slice none 0 0], rfl, hdl, fun j v hv => ?_, by show (1 : Nat) ≤ _; decide, [.int .i64 0, .string ⟨#[]⟩, .int .i64 0, .string ⟨#[]⟩, .string ⟨#[]⟩, .slice none 0 0, .slice none 0 0], rfl, zero_at w⟩
    have hj := (List.getElem?_eq_some_iff.1 hv).1
    rw [Lib.cell_of_heap hd, List.getElem?_toArray, show 0 + 1 * deR.k + j = 9 + j by show 0 + 1 * 9 + j = 9 + j; omega, ← hv]
    exact (List.getElem?_append_right (l₁ := .int .i64 3 :: .string ⟨#[65]⟩ :: exLiC g) (l₂ := [.int .i64 1, .string ⟨#[84]⟩, .int .i64 0, .string ⟨#[]⟩, .int .i64 0, .string ⟨#[]⟩, .string ⟨#[]⟩, .slice none 0 0, .slice none 0 0]) (by show 9 ≤ 9 + j; omega)).trans (by show _[9 + j - 9]? = _; rw [Nat.add_sub_cancel_left])
  | i + 2, h => simp [exM] at h

set_option maxRecDepth 100000 in
set_option maxHeartbeats 8000000 in
theorem up8_any (w : World) (hP : Pow w) : Calls Tryz.prog 6 #[] w fun e w' => e = .returned (.bool true) ∧ Below w.heap.size w w' := by
  have HP := Lib.hid hP
  obtain ⟨w1, hw1⟩ : ∃ w1, w1 = w.alloc (.cells #[.int .i64 8, .string ⟨#[]⟩, .int .i64 0, .string ⟨#[]⟩, .string ⟨#[65]⟩, .slice none 0 0, .slice none 0 0] 30) := ⟨_, rfl⟩
  obtain ⟨w2, hw2⟩ : ∃ w2, w2 = w1.alloc (.cells #[.int .i64 8, .string ⟨#[]⟩, .int .i64 0, .string ⟨#[]⟩, .string ⟨#[84]⟩, .slice none 0 0, .slice none 0 0] 30) := ⟨_, rfl⟩
  obtain ⟨w3, hw3⟩ : ∃ w3, w3 = w2.alloc (.cells #[.int .i64 3, .string ⟨#[65]⟩, .int .i64 4, .string ⟨#[]⟩, .int .i64 0, .string ⟨#[]⟩, .string ⟨#[]⟩, .slice none 0 0, .slice (some ⟨w.heap.size + 1, 0, none⟩) 1 1, .int .i64 1, .string ⟨#[84]⟩, .int .i64 0, .string ⟨#[]⟩, .int .i64 0, .string ⟨#[]⟩, .string ⟨#[]⟩, .slice none 0 0, .slice none 0 0] 63) := ⟨_, rfl⟩
  obtain ⟨w4, hw4⟩ : ∃ w4, w4 = w3.alloc (.cells #[.string ⟨#[109]⟩, .slice none 0 0, .slice (some ⟨w.heap.size + 1 + 1, 0, none⟩) 2 2] 25) := ⟨_, rfl⟩
  have s1 : w1.heap.size = w.heap.size + 1 := by rw [hw1]; simp
  have s2 : w2.heap.size = w.heap.size + 1 + 1 := by rw [hw2]; simp [s1]
  have s3 : w3.heap.size = w.heap.size + 1 + 1 + 1 := by rw [hw3]; simp [s2]
  have s4 : w4.heap.size = w.heap.size + 1 + 1 + 1 + 1 := by rw [hw4]; simp [s3]
  have B1 : Below w.heap.size w w1 := by rw [hw1]; exact below_new (Below.refl _ _) _
  have B2 : Below w1.heap.size w1 w2 := by rw [hw2]; exact below_new (Below.refl _ _) _
  have B3 : Below w2.heap.size w2 w3 := by rw [hw3]; exact below_new (Below.refl _ _) _
  have B4 : Below w3.heap.size w3 w4 := by rw [hw4]; exact below_new (Below.refl _ _) _
  have X1 : w1.heap[w.heap.size]? = some (.cells (exC 65).toArray 30 (0, 0)) := by rw [hw1]; exact heap_alloc_new w _
  have X2 : w2.heap[w.heap.size + 1]? = some (.cells (exC 84).toArray 30 (0, 0)) := by rw [hw2, ← s1]; exact heap_alloc_new w1 _
  have X3 : w3.heap[w.heap.size + 1 + 1]? = some (.cells (exDC (w.heap.size + 1)).toArray 63 (0, 0)) := by rw [hw3, ← s2]; exact heap_alloc_new w2 _
  have X4 : w4.heap[w.heap.size + 1 + 1 + 1]? = some (.cells #[.string ⟨#[109]⟩, .slice none 0 0, .slice (some ⟨w.heap.size + 1 + 1, 0, none⟩) 2 2] 25 (0, 0)) := by rw [hw4, ← s3]; exact heap_alloc_new w3 _
  have B24 := below_over B3 B4
  have B14 := below_over B2 B24
  have HB4 := Lib.hid (below_over B1 B14)
  have EC := Lib.hid (expand8_any exM ⟨#[112]⟩ 1 [] none 0 (some ⟨w.heap.size + 1 + 1, 0, none⟩) 2 none 0 (exL 65) (exC 65) w4 (exM_at w4 (w.heap.size + 1) (w.heap.size + 1 + 1) ((B24.block _ (by omega)).trans X2) ((B4.block _ (by omega)).trans X3)) (CapsAt.of (m := exM) (Nat.le_refl _) (Nat.le_refl _) rfl)
    (by decide) (fun i x h => by simp at h) (by decide) (exC_at w4 65) (fun d hd => by simp [exM] at hd; rcases hd with rfl | rfl <;> decide +kernel))
  have X1' : w4.heap[w.heap.size]? = some (.cells #[.int .i64 8, .string ⟨#[]⟩, .int .i64 0, .string ⟨#[]⟩, .string ⟨#[65]⟩, .slice none 0 0, .slice none 0 0] 30 (0, 0)) := (B14.block w.heap.size (by omega)).trans X1
  have HW : Hid ((((w.alloc (.cells #[.int .i64 8, .string ⟨#[]⟩, .int .i64 0, .string ⟨#[]⟩, .string ⟨#[65]⟩, .slice none 0 0, .slice none 0 0] 30)).alloc (.cells #[.int .i64 8, .string ⟨#[]⟩, .int .i64 0, .string ⟨#[]⟩, .string ⟨#[84]⟩, .slice none 0 0, .slice none 0 0] 30)).alloc (.cells #[.int .i64 3, .string ⟨#[65]⟩, .int .i64 4, .string ⟨#[]⟩, .int .i64 0, .string ⟨#[]⟩, .string ⟨#[]⟩, .slice none 0 0, .slice (some ⟨w.heap.size + 1, 0, none⟩) 1 1, .int .i64 1, .string ⟨#[84]⟩, .int .i64 0, .string ⟨#[]⟩, .int .i64 0, .string ⟨#[]⟩, .string ⟨#[]⟩, .slice none 0 0, .slice none 0 0] 63)).alloc (.cells #[.string ⟨#[109]⟩, .slice none 0 0, .slice (some ⟨w.heap.size + 1 + 1, 0, none⟩) 2 2] 25) = w4) := Lib.hid (by rw [hw4, hw3, hw2, hw1])
  have a0 := Lib.cell_of_heap X1' 0
  have a1 := Lib.cell_of_heap X1' 1
  have a2 := Lib.cell_of_heap X1' 2
  have a3 := Lib.cell_of_heap X1' 3
  have a4 := Lib.cell_of_heap X1' 4
  have a5 := Lib.cell_of_heap X1' 5
  have a6 := Lib.cell_of_heap X1' 6
  have b0 := Lib.cell_of_heap X4 0
  have b1 := Lib.cell_of_heap X4 1
  have b2 := Lib.cell_of_heap X4 2
  simp at a0 a1 a2 a3 a4 a5 a6 b0 b1 b2
  clear hw1 hw2 hw3 hw4 s1 s2 s3 s4 B1 B2 B3 B4 X1 X2 X3 X4 X1' B24 B14 hP
  go_enter Tryz.func6, Tryz.ntmps6
  go_upto_region 3 with fail
  rw [HW.out]
  go_wp2_with fail
  refine EC.out.mono ?_; rintro e w5 ⟨c, u, l, hep, rfl, hT, hb5⟩
  obtain ⟨rfl, rfl⟩ := ex_is hep
  obtain ⟨Cn, cC, Cs, dC, rfl, -⟩ := hT.parts
  have ev : errV 0 = .nilIface := rfl
  rw [ev]
  obtain ⟨w6, hw6⟩ : ∃ w6, w6 = w5.alloc (.cells #[.int .i64 exU.kind, .string exU.pkg, .int .i64 exU.major, .string exU.mod, .string exU.name, .slice Cn exU.names.length cC, .slice Cs exU.subs.length dC] 30) := ⟨_, rfl⟩
  have B6 : Below w5.heap.size w5 w6 := by rw [hw6]; exact below_new (Below.refl _ _) _
  have Y6 : w6.heap[w5.heap.size]? = some (.cells #[.int .i64 exU.kind, .string exU.pkg, .int .i64 exU.major, .string exU.mod, .string exU.name, .slice Cn exU.names.length cC, .slice Cs exU.subs.length dC] 30 (0, 0)) := by rw [hw6]; exact heap_alloc_new w5 _
  have HB6 : Hid (Below w.heap.size w w6) := Lib.hid (below_over (below_over HB4.out hb5) B6)
  have PC := Lib.hid (printK_yes exU exU_may (by decide +kernel) (.agg #[.int .i64 exU.kind, .string exU.pkg, .int .i64 exU.major, .string exU.mod, .string exU.name, .slice Cn exU.names.length cC, .slice Cs exU.subs.length dC]) w6 ⟨_, rfl, hT.free.keep B6⟩ (HP.out.on HB6.out))
  have HW6 := Lib.hid hw6
  clear a0 a1 a2 a3 a4 a5 a6 b0 b1 b2 hep hT hb5 B6 hw6 EC ev
  go_upto_region 4 with fail
  rw [← HW6.out]
  have y0 := Lib.cell_of_heap Y6 0
  have y1 := Lib.cell_of_heap Y6 1
  have y2 := Lib.cell_of_heap Y6 2
  have y3 := Lib.cell_of_heap Y6 3
  have y4 := Lib.cell_of_heap Y6 4
  have y5 := Lib.cell_of_heap Y6 5
  have y6 := Lib.cell_of_heap Y6 6
  simp at y0 y1 y2 y3 y4 y5 y6
  clear Y6 HW6
  go_wp2_with fail
  refine PC.out.mono ?_; rintro e w7 ⟨rfl, hb7⟩
  rw [exU_text]
  have FIN := Lib.hid (below_over HB6.out hb7)
  clear PC hb7 y0 y1 y2 y3 y4 y5 y6
  go_wp2_with fail
  go_ret
  exact ⟨rfl, FIN.out⟩

end Go.Proofs.YtkgmdbkcldojnaaGreatDoor

/- Plain mathematics for layer 8's laws: what Expand tells of plain types, of lists, of aliases. -/
namespace Go.Proofs.YtkgmdbkcldojnaaGreatDoor
open Go Go.RowKit Go.Shelf
open Go.Sort Go.Maps
open M

theorem said_plain {m : Mo} : ∀ (N : Nat) (t : Ty), many t ≤ N → plainT t = true → saidT m t = [] ∧ locT t = [] := by
  intro N
  induction N with
  | zero => intro t h; have := many_pos t; omega
  | succ N ih =>
    intro t hN hp
    obtain ⟨h8, hs⟩ := plain_parts hp
    have key : ∀ l : List Ty, (∀ s ∈ l, saidT m s = [] ∧ locT s = []) → saidL m l = [] ∧ locL l = [] := by
      intro l
      induction l with
      | nil => intro _; exact ⟨rfl, rfl⟩
      | cons a r ihr =>
        intro h
        obtain ⟨h1, h2⟩ := h a List.mem_cons_self
        obtain ⟨h3, h4⟩ := ihr fun s hs => h s (List.mem_cons_of_mem _ hs)
        unfold saidL locL
        rw [h1, h2, h3, h4]
        exact ⟨rfl, rfl⟩
    have hall := key t.subs fun s hm => ih s (by have := manyL_mem _ _ hm; have := manyL_eq t; omega) (hs s hm)
    rw [saidT_sub m t h8, locT_eq, if_neg h8]
    exact ⟨hall.1, hall.2⟩
theorem reach_nilF {E : List En} {i : Nat} (h : Reach E [] i) : False := by
  induction h with
  | one h => cases h
  | step _ _ _ ih => exact ih
theorem lacks_nil (m : Mo) (env : List If) : lacksN m env [] = false := rfl
theorem ep_zero {m : Mo} {pkg : ByteArray} {major : Int} {env : List If} {t u : Ty} (h : EpIs m pkg major env t 0 u) : MayN m pkg major env ∧ mayT t = true ∧ mayT u = true ∧ plainT u = true := by
  rcases h with ⟨h, -, -⟩ | ⟨h1, h2, h⟩
  · cases h
  · rcases h with ⟨h, -, -⟩ | ⟨hk, h⟩
    · cases h
    · rcases h with ⟨h, -, -⟩ | ⟨hl, hh, x, hx, h⟩
      · cases h
      · rcases h with ⟨h, -, -⟩ | ⟨-, rfl, ha, hb⟩
        · cases h
        · obtain ⟨o1, o2, o3, o4, o5, -⟩ := mayN_parts h1
          refine ⟨h1, h2, ?_, exp_is_plain _ _ _ hx⟩
          have h3 := exp_ok o1 o3 o4 o5 hh t u (may_ok h2) hx
          unfold mayT
          rw [h3, decide_eq_true ha, decide_eq_true hb]; rfl
/-- A plain type comes to itself. -/
theorem ep_plain {m : Mo} {pkg : ByteArray} {major : Int} {env : List If} {t u : Ty} {c : Int} (hN : MayN m pkg major env) (ht : mayT t = true) (hp : plainT t = true) (h : EpIs m pkg major env t c u) : c = 0 ∧ u = t := by
  obtain ⟨hs, hloc⟩ := said_plain (m := m) _ t (Nat.le_refl _) hp
  rcases h with ⟨-, -, h⟩ | ⟨-, -, h⟩
  · exact absurd ⟨hN, ht⟩ h
  · rcases h with ⟨-, -, h⟩ | ⟨-, h⟩
    · rw [hloc] at h; cases h
    · have hl : ((allK m t m.decs.length).any fun s => lacksN m env (locT s)) = false := by
        rw [List.any_eq_false]
        intro s hsm
        rcases allK_mem hsm with rfl | ⟨k, d, -, -, hr, -⟩
        · rw [hloc, lacks_nil]; simp
        · rw [hs] at hr; exact (reach_nilF hr).elim
      rcases h with ⟨-, -, h⟩ | ⟨-, hh, x, hx, h⟩
      · rw [hl] at h; cases h
      · obtain rfl := exp_one _ _ _ _ _ hx (exp_plain _ _ t (Nat.le_refl _) hp)
        have hm := ht
        unfold mayT at hm
        simp only [Bool.and_eq_true, decide_eq_true_eq] at hm
        rcases h with ⟨-, -, h⟩ | ⟨hc, hu, -⟩
        · omega
        · exact ⟨hc, hu⟩
theorem ep_code {m : Mo} {pkg : ByteArray} {major : Int} {env : List If} {t u : Ty} {c : Int} (h : EpIs m pkg major env t c u) : (c = 0 ∨ c = 1 ∨ c = 3 ∨ c = 4 ∨ c = 9) ∧ (c ≠ 0 → u = zTy) := by
  rcases h with ⟨hc, hu, -⟩ | ⟨-, -, h⟩
  · exact ⟨.inr (.inl hc), fun _ => hu⟩
  · rcases h with ⟨hc, hu, -⟩ | ⟨-, h⟩
    · exact ⟨.inr (.inr (.inr (.inl hc))), fun _ => hu⟩
    · rcases h with ⟨hc, hu, -⟩ | ⟨-, hh, x, hx, h⟩
      · exact ⟨.inr (.inr (.inr (.inr hc))), fun _ => hu⟩
      · rcases h with ⟨hc, hu, -⟩ | ⟨hc, hu, -⟩
        · exact ⟨.inr (.inr (.inl hc)), fun _ => hu⟩
        · exact ⟨.inl hc, fun h => absurd hc h⟩
/-- Where it isn't the argument that is amiss a type that is told an error isn't plain. -/
theorem ep_err {m : Mo} {pkg : ByteArray} {major : Int} {env : List If} {t u : Ty} {c : Int} (h : EpIs m pkg major env t c u) (h0 : c ≠ 0) (h1 : c ≠ 1) : (mayT t && plainT t) = false := by
  cases hp : (mayT t && plainT t) with
  | false => rfl
  | true =>
    exfalso
    rw [Bool.and_eq_true] at hp
    rcases h with ⟨hc, -, -⟩ | ⟨hN, ht, h⟩
    · exact h1 hc
    · exact h0 (ep_plain hN ht hp.2 (.inr ⟨hN, ht, h⟩)).1
theorem errV_no {c : Int} (h : c ≠ 0) : errV c = .iface 60 (.int .i64 c) := by unfold errV; rw [if_neg h]
theorem errV_zero : errV 0 = .nilIface := rfl
def liT (t : Ty) : Ty := .mk 4 ⟨#[]⟩ 0 ⟨#[]⟩ ⟨#[]⟩ [] [t]
theorem li_many (t : Ty) : many (liT t) = 1 + many t := by
  rw [show liT t = .mk 4 ⟨#[]⟩ 0 ⟨#[]⟩ ⟨#[]⟩ [] [t] from rfl, many, manyL, manyL]; omega
theorem li_deep (t : Ty) : deep (liT t) = deep t + 1 := by
  rw [show liT t = .mk 4 ⟨#[]⟩ 0 ⟨#[]⟩ ⟨#[]⟩ [] [t] from rfl, deep, deepL, deepL]; omega
theorem li_may {t : Ty} (h : mayT (liT t) = true) : mayT t = true := by
  unfold mayT at h ⊢
  simp only [Bool.and_eq_true, decide_eq_true_eq] at h ⊢
  have h1 := h.1.1
  rw [allOk_eq, Bool.and_eq_true] at h1
  have h2 := (allOkL_mem _).1 h1.2 t (by show t ∈ [t]; simp)
  have hm := li_many t
  have hd := li_deep t
  exact ⟨⟨h2, by omega⟩, by omega⟩
theorem li_loc (t : Ty) : locT (liT t) = locT t := by rw [show liT t = .mk 4 ⟨#[]⟩ 0 ⟨#[]⟩ ⟨#[]⟩ [] [t] from rfl, locT, if_neg (by decide), locL, locL, List.append_nil]
theorem li_said (m : Mo) (t : Ty) : saidT m (liT t) = saidT m t := by rw [show liT t = .mk 4 ⟨#[]⟩ 0 ⟨#[]⟩ ⟨#[]⟩ [] [t] from rfl, saidT, if_neg (by decide), saidL, saidL, List.append_nil]
theorem li_lacks {m : Mo} {env : List If} {t : Ty} : ((allK m (liT t) m.decs.length).any fun s => lacksN m env (locT s)) = ((allK m t m.decs.length).any fun s => lacksN m env (locT s)) := by
  unfold allK
  rw [li_said, List.any_cons, List.any_cons, li_loc]
/-- A list comes to a list. -/
theorem ep_list {m : Mo} {pkg : ByteArray} {major : Int} {env : List If} {t u v : Ty} {c : Int} (h : EpIs m pkg major env t c u) (h' : EpIs m pkg major env (liT t) 0 v) : c = 0 ∧ v = liT u := by
  obtain ⟨hN, htl, -, -⟩ := ep_zero h'
  have ht := li_may htl
  rcases h' with ⟨h', -, -⟩ | ⟨-, -, h'⟩
  · cases h'
  rcases h' with ⟨h', -, -⟩ | ⟨hk', h'⟩
  · cases h'
  rcases h' with ⟨h', -, -⟩ | ⟨hl', hh', x', hx', h'⟩
  · cases h'
  rcases h' with ⟨h', -, -⟩ | ⟨-, rfl, ha, hb⟩
  · cases h'
  rw [li_loc] at hk'
  rw [li_lacks] at hl'
  rcases h with ⟨-, -, h⟩ | ⟨-, -, h⟩
  · exact absurd ⟨hN, ht⟩ h
  rcases h with ⟨-, -, h⟩ | ⟨-, h⟩
  · rw [hk'] at h; cases h
  rcases h with ⟨-, -, h⟩ | ⟨-, hh, x, hx, h⟩
  · rw [hl'] at h; cases h
  have hxl : ExpH (meanT m pkg major env) (hh + 1) (liT t) (liT x) :=   .inr ⟨by show (4 : Int) ≠ 8; decide, [x], rfl, rfl, fun i s w hs hw => by
    match i, hs, hw with
    | 0, hs, hw => simp [liT, Ty.subs] at hs hw; subst hs hw; exact hx
    | i + 1, hs, hw => simp [liT, Ty.subs] at hs⟩
  obtain rfl := exp_one _ _ _ _ _ hx' hxl
  have hm := li_many x
  have hd := li_deep x
  rcases h with ⟨-, -, h⟩ | ⟨hc, hu, -⟩
  · omega
  · exact ⟨hc, by rw [hu]⟩
def locA (s : ByteArray) : Ty := .mk 8 ⟨#[]⟩ 0 ⟨#[]⟩ s [] []
theorem locA_may {s : ByteArray} (h : greatB s.data.toList = true) : mayT (locA s) = true := by
  unfold mayT locA
  rw [allOk_eq]
  unfold ownOk shapeOk
  have e : (⟨#[]⟩ : ByteArray) = ByteArray.empty := rfl
  simp [Ty.kind, Ty.subs, Ty.names, Ty.pkg, Ty.mod, Ty.name, Ty.major, namesOk, allOkL, h, emptyB, many, manyL, deep, deepL, e]
theorem typ_of {m : Mo} (ok : Ok7 m) {k : Nat} {d : De} (hd : m.decs[k]? = some d) (h3 : d.kind = 3) : typAt m d.name = some k := (typAt_iff ok.dec).2 ⟨d, hd, by unfold isTyp; simp [h3]⟩
/-- An alias comes to what its type does. -/
theorem ep_alias {m : Mo} {pkg : ByteArray} {major : Int} {env : List If} (hm : mayM m = true) (ok : Ok7 m) {k : Nat} {d : De} (hd : m.decs[k]? = some d) (h3 : d.kind = 3) {c c' : Int} {u u' : Ty} (h : EpIs m pkg major env d.typ c u) (h' : EpIs m pkg major env (locA d.name) c' u') : c = c' ∧ u = u' := by
  have hmt := alias_may hm hd h3
  have hg : greatB d.name.data.toList = true := by
    rcases mayD_sorts ((mayM_parts hm).2.2.2 d (List.mem_of_getElem? hd)) with ⟨e, -⟩ | ⟨-, -, e⟩ | ⟨e, -⟩
    · rcases e with e | e <;> rw [h3] at e <;> cases e
    · exact e
    · rw [h3] at e; cases e
  have hml := locA_may hg
  have hat := typ_of ok hd h3
  have hloc : locT (locA d.name) = [locA d.name] := rfl
  have hkno : (locT (locA d.name)).all (knoN m) = true := by
    rw [hloc, List.all_cons, List.all_nil, Bool.and_true]
    unfold knoN
    rw [if_pos (show (locA d.name).mod.size = 0 from rfl), show (locA d.name).name = d.name from rfl, hat]; rfl
  have hkt : (locT d.typ).all (knoN m) = true := by
    have := ok.whole k d hd
    rw [(loc_may m hmt).2] at this
    exact this
  have hsaid : saidT m (locA d.name) = [k] := by
    have := saidT_local m (locA d.name) rfl
    rw [this, if_pos (show (locA d.name).mod.size = 0 from rfl)]
    show (typAt m d.name).toList = [k]
    rw [hat]; rfl
  have hreach : ∀ i, Reach (entries m) (saidT m (locA d.name)) i ↔ i = k ∨ Reach (entries m) (saidT m d.typ) i := fun i => by
    rw [hsaid]
    constructor
    · intro hr
      induction hr with
      | one h => exact .inl (by simpa using h)
      | step _ hx hi ih =>
        rcases ih with rfl | ih
        · rw [entries_at hd] at hx
          cases hx
          exact .inr (.one hi)
        · exact .inr (.step ih hx hi)
    · rintro (rfl | hr)
      · exact .one (by simp)
      · exact hr.mono fun j hj => .step (.one (by simp)) (entries_at hd) hj
  have hlack : ((allK m (locA d.name) m.decs.length).any fun s => lacksN m env (locT s)) = ((allK m d.typ m.decs.length).any fun s => lacksN m env (locT s)) := by
    rw [Bool.eq_iff_iff, List.any_eq_true, List.any_eq_true]
    constructor
    · rintro ⟨s, hs, hl⟩
      rcases allK_mem hs with rfl | ⟨j, e, he, h3e, hr, rfl⟩
      · rw [hloc, show lacksN m env [locA d.name] = false from rfl] at hl
        cases hl
      · rcases (hreach j).1 hr with rfl | hr
        · rw [hd] at he
          cases he
          exact ⟨_, List.mem_cons_self, hl⟩
        · exact ⟨_, allK_has he h3e hr, hl⟩
    · rintro ⟨s, hs, hl⟩
      rcases allK_mem hs with rfl | ⟨j, e, he, h3e, hr, rfl⟩
      · exact ⟨_, allK_has hd h3 ((hreach k).2 (.inl rfl)), hl⟩
      · exact ⟨_, allK_has he h3e ((hreach j).2 (.inr hr)), hl⟩
  have hmean : meanT m pkg major env (locA d.name) = some d.typ := by
    unfold meanT
    rw [if_pos (show (locA d.name).mod.size = 0 from rfl), show (locA d.name).name = d.name from rfl, hat]
    simp [hd, h3]
  rcases h with ⟨hc, hu, h⟩ | ⟨hN, -, h⟩
  · rcases h' with ⟨hc', hu', h'⟩ | ⟨hN', -, h'⟩
    · exact ⟨hc.trans hc'.symm, hu.trans hu'.symm⟩
    · exact absurd ⟨hN', hmt⟩ h
  rcases h' with ⟨hc', hu', h'⟩ | ⟨-, -, h'⟩
  · exact absurd ⟨hN, hml⟩ h'
  rcases h with ⟨-, -, h⟩ | ⟨-, h⟩
  · rw [hkt] at h; cases h
  rcases h' with ⟨-, -, h'⟩ | ⟨-, h'⟩
  · rw [hkno] at h'; cases h'
  rw [hlack] at h'
  rcases h with ⟨hc, hu, h⟩ | ⟨hl, hh, x, hx, h⟩ <;> rcases h' with ⟨hc', hu', h'⟩ | ⟨hl', hh', x', hx', h'⟩
  · exact ⟨hc.trans hc'.symm, hu.trans hu'.symm⟩
  · rw [h] at hl'; cases hl'
  · rw [hl] at h'; cases h'
  · have hxx : ExpH (meanT m pkg major env) (hh + 1) (locA d.name) x := .inl ⟨rfl, _, hmean, hx⟩
    obtain rfl := exp_one _ _ _ _ _ hx' hxx
    rcases h with ⟨hc, hu, h⟩ | ⟨hc, hu, h⟩ <;> rcases h' with ⟨hc', hu', h'⟩ | ⟨hc', hu', h'⟩
    · exact ⟨hc.trans hc'.symm, hu.trans hu'.symm⟩
    · omega
    · omega
    · exact ⟨hc.trans hc'.symm, hu.trans hu'.symm⟩

end Go.Proofs.YtkgmdbkcldojnaaGreatDoor

/- '==' between two interface values of one integer type is as the numbers are: a law of the model, over any program. -/
namespace Go.Proofs.YtkgmdbkcldojnaaGreatDoor
section
variable {P : Program} (w : World)

theorem run_equalIn_iface_int (d : Nat) {ti tn : TypeId} {ms : Array (String × TypeId)} {i : TypeInfo} {k : IntKind} (a b : Int)
    (hi : P.underlying ti = some (.interface ms)) (hn : P.underlying tn = some (.int k)) (hinfo : P.info? tn = some i) (hcomp : i.comparable = true) :
    (Op.equalIn (d + 2) ti (.iface tn (.int k a)) (.iface tn (.int k b))).run P w = .ok (a == b) w := by
  simp [Op.equalIn, run_underlying hi, run_underlying hn, typeInfo, hinfo, hcomp]

/-- x == y, both interface values of ONE integer type: as the numbers are. -/
theorem run_eql_iface_int {ti tn : TypeId} {ms : Array (String × TypeId)} {i : TypeInfo} {k : IntKind} (a b : Int)
    (hi : P.underlying ti = some (.interface ms)) (hn : P.underlying tn = some (.int k)) (hinfo : P.info? tn = some i) (hcomp : i.comparable = true) :
    (binOp .eql ti (.iface tn (.int k a)) (.iface tn (.int k b))).run P w = .ok (.bool (a == b)) w := by
  simp only [binOp]
  simp [Op.equal, Op.maxDepth, run_equalIn_iface_int w 9998 a b hi hn hinfo hcomp]
end
end Go.Proofs.YtkgmdbkcldojnaaGreatDoor

/- The walk of the document's example, which stands at the head of every statement of layer 4: it answers true. -/
namespace Go.Proofs.YtkgmdbkcldojnaaGreatDoor
open Go.RowKit
open M

theorem code_comparable : (Tryz.prog.info? 60).map (·.comparable) = some true := by kernel_rfl
/-- '==' between two errors of package api. -/
theorem eqErr (a b : Int) (w : World) : (binOp .eql 50 (.iface 60 (.int .i64 a)) (.iface 60 (.int .i64 b))).run Tryz.prog w = .ok (.bool (a == b)) w := by
  obtain ⟨i, hi, hc⟩ := Option.map_eq_some_iff.1 code_comparable
  exact run_eql_iface_int w a b Tryz.underlying50 Tryz.underlying60 hi hc

end Go.Proofs.YtkgmdbkcldojnaaGreatDoor
