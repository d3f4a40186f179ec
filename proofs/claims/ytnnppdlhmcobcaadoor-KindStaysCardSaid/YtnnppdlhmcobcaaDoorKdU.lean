/-
  The walk of package kind's writeFunc.
-/
import Derived.Test.YtnnppdlhmcobcaaDoorKdV
namespace Go.Proofs.YtnnppdlhmcobcaaDoor
open Go.RowKit
open Go.Sort
open M

set_option maxRecDepth 100000 in
set_option maxHeartbeats 4000000 in
theorem writeFunc_any (ss : List Ty) (m : Nat) (hss : ss.length = m + 1) (q : Ty) (hq : ss[m]? = some q) (IH : ∀ s, s ∈ ss → WriteOk s) (As : Option Addr) (cs B b : Nat) (hcap : m + 1 ≤ cs) (hz : m + 1 ≤ 9223372036854775807) (W w0 w : World) (l : List UInt8) (hS : SubsAt W As ss) (hW : Below W.heap.size W w0) (hWB : W.heap.size ≤ B) (hP : Pow W) (hw : Wr B b w0 l w) (hl : l.length + (rowOf (textsT ss) [] m).length + 6 + (textT q).length ≤ 4000000) :
    Calls Tryd.prog 32 #[.pointer (some ⟨b, 0, none⟩), .slice As (m + 1) cs] w fun e w' => e = .returned (.tuple #[]) ∧ Wr B b w0 (l ++ ([40] ++ rowOf (textsT ss) [] m ++ [41, 32, 45, 62, 32] ++ textT q)) w' := by
  have HIH := Lib.hid IH
  have HP := Lib.hid hP
  have HL := Lib.hid hss
  have HS := Lib.hid hS
  have HQ := Lib.hid hq
  have HA := Lib.hid hw
  have H0 := Lib.hid hw.base
  have HWw : Hid (Below W.heap.size W w) := Lib.hid (hW.trans (hw.2.1.mono hWB))
  obtain ⟨g, o, -, -, -, -, -, -, -, rfl, -⟩ := hS m q hq
  clear IH hP hss hS hq hW hw
  go_enter Tryd.func32, Tryd.ntmps32
  go_wp2_with fail
  refine (wr_str H0.out ⟨#[40]⟩ ?_).mono ?_
  · show l.length + 1 ≤ 4000000; omega
  rintro e w1 ⟨rfl, g1⟩
  have G1 : Hid (Wr B b w (l ++ [40]) w1) := Lib.hid g1
  clear g1
  go_wp2_with fail
  go_loopw [16] (fun i wr => ∃ k : Nat, k ≤ m ∧ i = .int .i64 k ∧ Hid (Wr B b w (l ++ [40] ++ rowOf (textsT ss) [] k) wr)) (fun i _ => m - (intOf i).toNat)
  case atStart => exact ⟨0, by omega, rfl, Lib.hid (G1.out.eq (by simp [rowOf]))⟩
  case round =>
    obtain ⟨k, hk, rfl, HR⟩ := hrel
    obtain ⟨wo, rfl⟩ : ∃ wo : World, wo = wr := ⟨_, rfl⟩
    have HWo : Hid (Below W.heap.size W wo) := Lib.hid (HWw.out.trans (HR.out.2.1.mono hWB))
    by_cases hlt : k < m
    · obtain ⟨s, hs⟩ : ∃ s, ss[k]? = some s := ⟨_, List.getElem?_eq_getElem (by rw [HL.out]; omega)⟩
      obtain ⟨g3, o3, v0, v1, v2, v3, v4, v5, v6, eA, hg, e0, e1, e2, e3, e4, e5, e6, hs7⟩ := HS.out k s hs
      obtain ⟨rfl, rfl⟩ : g = g3 ∧ o = o3 := by simpa using eA
      obtain ⟨Am, cm, At, ct, rfl, rfl, rfl, rfl, rfl, rfl, rfl⟩ := hs7.seven
      have HV7 : Hid (TyV W (.agg #[.int .i64 s.kind, .string s.pkg, .int .i64 s.major, .string s.mod, .string s.name, .slice Am s.names.length cm, .slice At s.subs.length ct]) s) := Lib.hid ⟨_, rfl, hs7⟩
      have tr : ∀ q v, W.cell? ⟨g, q, none⟩ = some v → wo.cell? ⟨g, q, none⟩ = some v := fun q v hv => (HWo.out.cell (p := ⟨g, _, none⟩) hg).trans hv
      have h0 := tr _ _ e0
      have h1 := tr _ _ e1
      have h2 := tr _ _ e2
      have h3 := tr _ _ e3
      have h4 := tr _ _ e4
      have h5 := tr _ _ e5
      have h6 := tr _ _ e6
      clear tr
      clear e0 e1 e2 e3 e4 e5 e6 hs7 eA
      have hlen := row_mono (textsT ss) [] (k := k + 1) m (by omega)
      have hstep := row_step0 (textsT ss) k
      rw [textsT_at _ _ s hs] at hstep
      have hl4 : l.length + (rowOf (textsT ss) [] (k + 1)).length + 6 ≤ 4000000 := by omega
      have IHs := Lib.hid (HIH.out s (List.mem_of_getElem? hs))
      obtain ⟨wo2, hwo2⟩ : ∃ wo2, wo2 = wo.alloc (.cells #[.int .i64 s.kind, .string s.pkg, .int .i64 s.major, .string s.mod, .string s.name, .slice Am s.names.length cm, .slice At s.subs.length ct] 25) := ⟨_, rfl⟩
      have HR2 : Hid (Wr B b wo (l ++ [40] ++ rowOf (textsT ss) [] k) wo2) := Lib.hid (by rw [hwo2]; exact HR.out.base.alloc _)
      have HR3 := Lib.hid HR2.out.base
      have HK2 : Hid (wo2.heap[wo.heap.size]? = some (.cells #[.int .i64 s.kind, .string s.pkg, .int .i64 s.major, .string s.mod, .string s.name, .slice Am s.names.length cm, .slice At s.subs.length ct] 25 (0, 0))) := Lib.hid (by rw [hwo2]; exact heap_alloc_new wo _)
      have hne2 : wo.heap.size ≠ b := by have := HR.out.lt; omega
      have HWO2 := Lib.hid hwo2
      have HW2 : Hid (Below W.heap.size W wo2) := Lib.hid (HWo.out.trans (HR2.out.2.1.mono hWB))
      clear hwo2 hlen hs
      rcases Nat.eq_zero_or_pos k with hp | hp
      · have hp2 : ¬ (0 : Int) < k := by omega
        have HST : Hid (rowOf (textsT ss) [] (k + 1) = rowOf (textsT ss) [] k ++ textT s) := Lib.hid (by rw [hstep, if_neg (by omega)])
        rw [HST.out] at hl4
        simp only [List.length_append] at hl4
        clear hstep hp
        go_wp2_with fail
        rw [← HWO2.out]
        clear h0 h1 h2 h3 h4 h5 h6
        refine (IHs.out B b _ W wo2 wo2 _ HV7.out HW2.out hWB HP.out HR3.out ?_).mono ?_
        · simp only [List.length_append, List.length_cons, List.length_nil]; omega
        rintro e w4 ⟨rfl, g4⟩
        have HR4 : Hid (Wr B b w (l ++ [40] ++ rowOf (textsT ss) [] (k + 1)) w4) := Lib.hid (((HR.out.over HR2.out).over g4).eq (by rw [HST.out]; simp))
        clear g4
        go_wp2_with fail
        go_roundw
        case rel => exact ⟨k + 1, by omega, by go_num, HR4⟩
        case measure => simp [intOf]; omega
      · have hp2 : (0 : Int) < k := by omega
        have HST : Hid (rowOf (textsT ss) [] (k + 1) = rowOf (textsT ss) [] k ++ [44, 32] ++ textT s) := Lib.hid (by rw [hstep, if_pos hp])
        rw [HST.out] at hl4
        simp only [List.length_append, List.length_cons, List.length_nil] at hl4
        clear hstep hp
        go_wp2_with fail
        rw [← HWO2.out]
        clear h0 h1 h2 h3 h4 h5 h6
        refine (wr_str HR3.out ⟨#[44, 32]⟩ ?_).mono ?_
        · simp only [List.length_append, List.length_cons, List.length_nil, z44]; omega
        rintro e w2 ⟨rfl, g2w⟩
        have d0 := g2w.cell HK2.out hne2 0
        have d1 := g2w.cell HK2.out hne2 1
        have d2 := g2w.cell HK2.out hne2 2
        have d3 := g2w.cell HK2.out hne2 3
        have d4 := g2w.cell HK2.out hne2 4
        have d5 := g2w.cell HK2.out hne2 5
        have d6 := g2w.cell HK2.out hne2 6
        simp at d0 d1 d2 d3 d4 d5 d6
        go_wp2_with fail
        refine (IHs.out B b _ W wo2 w2 _ HV7.out HW2.out hWB HP.out g2w ?_).mono ?_
        · simp only [List.length_append, List.length_cons, List.length_nil]; omega
        rintro e w4 ⟨rfl, g4⟩
        have HR4 : Hid (Wr B b w (l ++ [40] ++ rowOf (textsT ss) [] (k + 1)) w4) := Lib.hid (((HR.out.over HR2.out).over g4).eq (by rw [HST.out]; simp))
        clear d0 d1 d2 d3 d4 d5 d6 g2w g4
        go_wp2_with fail
        go_roundw
        case rel => exact ⟨k + 1, by omega, by go_num, HR4⟩
        case measure => simp [intOf]; omega
    · obtain rfl : k = m := by omega
      have IHs := Lib.hid (HIH.out q (List.mem_of_getElem? HQ.out))
      have hs := HQ.out
      obtain ⟨g3, o3, v0, v1, v2, v3, v4, v5, v6, eA, hg, e0, e1, e2, e3, e4, e5, e6, hs7⟩ := HS.out k q hs
      obtain ⟨rfl, rfl⟩ : g = g3 ∧ o = o3 := by simpa using eA
      obtain ⟨Am, cm, At, ct, rfl, rfl, rfl, rfl, rfl, rfl, rfl⟩ := hs7.seven
      have HV7 : Hid (TyV W (.agg #[.int .i64 q.kind, .string q.pkg, .int .i64 q.major, .string q.mod, .string q.name, .slice Am q.names.length cm, .slice At q.subs.length ct]) q) := Lib.hid ⟨_, rfl, hs7⟩
      clear hs7 eA hs
      go_wp2_with fail
      refine (wr_str HR.out ⟨#[41, 32, 45, 62, 32]⟩ ?_).mono ?_
      · show (l ++ [40] ++ rowOf (textsT ss) [] k).length + 5 ≤ 4000000
        simp only [List.length_append, List.length_cons, List.length_nil]; omega
      rintro e w2 ⟨rfl, g2w⟩
      have HW5 : Hid (Below W.heap.size W w2) := Lib.hid (HWw.out.trans (g2w.2.1.mono hWB))
      have tr : ∀ q v, W.cell? ⟨g, q, none⟩ = some v → w2.cell? ⟨g, q, none⟩ = some v := fun q v hv => (HW5.out.cell (p := ⟨g, _, none⟩) hg).trans hv
      have h0 := tr _ _ e0
      have h1 := tr _ _ e1
      have h2 := tr _ _ e2
      have h3 := tr _ _ e3
      have h4 := tr _ _ e4
      have h5 := tr _ _ e5
      have h6 := tr _ _ e6
      clear tr
      clear e0 e1 e2 e3 e4 e5 e6
      go_wp2_with fail
      refine (IHs.out B b _ W w w2 _ HV7.out HWw.out hWB HP.out g2w ?_).mono ?_
      · simp only [List.length_append, List.length_cons, List.length_nil]; omega
      rintro e w4 ⟨rfl, g4⟩
      go_wp2_with fail
      go_end0
      exact ⟨rfl, (HA.out.over g4).eq (by simp)⟩

end Go.Proofs.YtnnppdlhmcobcaaDoor
