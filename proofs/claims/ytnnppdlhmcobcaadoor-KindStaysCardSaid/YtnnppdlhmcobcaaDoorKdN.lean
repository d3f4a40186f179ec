/-
  The walk of package kind's writeNamed.
-/
import Derived.Test.YtnnppdlhmcobcaaDoorKdV
namespace Go.Proofs.YtnnppdlhmcobcaaDoor
open Go.RowKit
open Go.Sort
open M

set_option maxRecDepth 100000 in
set_option maxHeartbeats 4000000 in
theorem writeNamed_any (t : Ty) (IH : ∀ s, s ∈ t.subs → WriteOk s) (hln : t.names.length = t.subs.length) (hbn : ∀ i, i < t.names.length → (nameAt t.names i).size ≤ 20) (B b : Nat) (v : Value) (W w0 w : World) (l : List UInt8) (hv : TyV W v t) (hW : Below W.heap.size W w0) (hWB : W.heap.size ≤ B) (hP : Pow W) (hw : Wr B b w0 l w) (hl : l.length + (rowOf (textsT t.subs) t.names t.subs.length).length ≤ 4000000) :
    Calls Tryd.prog 31 #[.pointer (some ⟨b, 0, none⟩), v] w fun e w' => e = .returned (.tuple #[]) ∧ Wr B b w0 (l ++ rowOf (textsT t.subs) t.names t.subs.length) w' := by
  have HIH := Lib.hid IH
  have HBN := Lib.hid hbn
  have HL := Lib.hid hln
  have HP := Lib.hid hP
  have HROW := Lib.hid hl
  clear IH hbn hP hl hln
  have HV := Lib.hid hv
  obtain ⟨lv, rfl, hT⟩ := hv
  obtain ⟨An, cn, As, cs, rfl, zp, zm, za, hzn, hz, hNA, hS⟩ := hT.parts
  have HCAP := Lib.hid hT.cap
  have HS := Lib.hid hS
  have HNA := Lib.hid hNA
  have HLT := Lib.hid (textsT_len t.subs)
  have hbw := hw.lt
  obtain ⟨wb, hwb⟩ : ∃ wb, wb = w.alloc (.cells #[.int .i64 t.kind, .string t.pkg, .int .i64 t.major, .string t.mod, .string t.name, .slice An t.names.length cn, .slice As t.subs.length cs] 25) := ⟨_, rfl⟩
  have HA : Hid (Wr B b w0 l wb) := Lib.hid (by rw [hwb]; exact hw.alloc _)
  have H0 := Lib.hid HA.out.base
  have HK : Hid (wb.heap[w.heap.size]? = some (.cells #[.int .i64 t.kind, .string t.pkg, .int .i64 t.major, .string t.mod, .string t.name, .slice An t.names.length cn, .slice As t.subs.length cs] 25 (0, 0))) := Lib.hid (by rw [hwb]; exact heap_alloc_new w _)
  have hne : w.heap.size ≠ b := by omega
  have HWB := Lib.hid hwb
  have HWw : Hid (Below W.heap.size W wb) := Lib.hid (hW.trans (HA.out.2.1.mono hWB))
  clear hT hS hNA hW hwb hw
  generalize hn : t.subs.length = n at hz HV HWB HK
  have HN := Lib.hid hn
  have HBOX := Lib.hid (show (0 : Nat) = 0 from rfl)
  clear hn HBOX
  go_enter Tryd.func31, Tryd.ntmps31
  go_wp2_with fail
  rw [← HWB.out]
  go_loopw [9] (fun i wr => ∃ k : Nat, k ≤ n ∧ i = .int .i64 k ∧ Hid (Wr B b wb (l ++ rowOf (textsT t.subs) t.names k) wr)) (fun i _ => n - (intOf i).toNat)
  case atStart => exact ⟨0, by omega, rfl, Lib.hid (H0.out.eq (by simp [rowOf]))⟩
  case round =>
    obtain ⟨k, hk, rfl, HR⟩ := hrel
    obtain ⟨wo, rfl⟩ : ∃ wo : World, wo = wr := ⟨_, rfl⟩
    have HWo : Hid (Below W.heap.size W wo) := Lib.hid (HWw.out.trans (HR.out.2.1.mono hWB))
    by_cases hlt : k < n
    · obtain ⟨s, hs⟩ : ∃ s, t.subs[k]? = some s := ⟨_, List.getElem?_eq_getElem (by rw [HN.out]; exact hlt)⟩
      obtain ⟨x, hx⟩ : ∃ x, t.names[k]? = some x := ⟨_, List.getElem?_eq_getElem (by rw [HL.out, HN.out]; exact hlt)⟩
      obtain ⟨g2, o2, rfl, hg2, f0, -⟩ := HNA.out k x hx
      obtain ⟨g, o, v0, v1, v2, v3, v4, v5, v6, eA, hg, e0, e1, e2, e3, e4, e5, e6, hs7⟩ := HS.out k s hs
      obtain ⟨Am, cm, At, ct, rfl, rfl, rfl, rfl, rfl, rfl, rfl⟩ := hs7.seven
      have HV7 : Hid (TyV W (.agg #[.int .i64 s.kind, .string s.pkg, .int .i64 s.major, .string s.mod, .string s.name, .slice Am s.names.length cm, .slice At s.subs.length ct]) s) := Lib.hid ⟨_, rfl, hs7⟩
      subst eA
      have tr : ∀ q v, W.cell? ⟨g, q, none⟩ = some v → wo.cell? ⟨g, q, none⟩ = some v := fun q v hv => (HWo.out.cell (p := ⟨g, _, none⟩) hg).trans hv
      have h0 := tr _ _ e0
      have h1 := tr _ _ e1
      have h2 := tr _ _ e2
      have h3 := tr _ _ e3
      have h4 := tr _ _ e4
      have h5 := tr _ _ e5
      have h6 := tr _ _ e6
      clear tr
      clear e0 e1 e2 e3 e4 e5 e6 hs7
      have hna := nameAt_of' hx
      have hxz : x.size ≤ 20 := by have := HBN.out k (by rw [HL.out, HN.out]; exact hlt); rw [hna] at this; exact this
      have hkn : k < t.names.length := by rw [HL.out, HN.out]; exact hlt
      have hnp : 0 < t.names.length := by rw [HL.out, HN.out]; omega
      have hlen := row_mono (textsT t.subs) t.names (k := k + 1) n (by omega)
      have hstep := row_step (textsT t.subs) t.names k
      rw [if_pos hnp, hna, textsT_at _ _ s hs] at hstep
      have hl4 : l.length + (rowOf (textsT t.subs) t.names (k + 1)).length ≤ 4000000 := by have := HROW.out; rw [HN.out] at this; omega
      have n1 : ¬ (x.size + 2 > 9223372036854775807) := by omega
      have IHs := Lib.hid (HIH.out s (List.mem_of_getElem? hs))
      obtain ⟨wo2, hwo2⟩ : ∃ wo2, wo2 = wo.alloc (.cells #[.int .i64 s.kind, .string s.pkg, .int .i64 s.major, .string s.mod, .string s.name, .slice Am s.names.length cm, .slice At s.subs.length ct] 25) := ⟨_, rfl⟩
      have HR2 : Hid (Wr B b wo (l ++ rowOf (textsT t.subs) t.names k) wo2) := Lib.hid (by rw [hwo2]; exact HR.out.base.alloc _)
      have HR3 := Lib.hid HR2.out.base
      have HK2 : Hid (wo2.heap[wo.heap.size]? = some (.cells #[.int .i64 s.kind, .string s.pkg, .int .i64 s.major, .string s.mod, .string s.name, .slice Am s.names.length cm, .slice At s.subs.length ct] 25 (0, 0))) := Lib.hid (by rw [hwo2]; exact heap_alloc_new wo _)
      have hne2 : wo.heap.size ≠ b := by have := HR.out.lt; omega
      have HWO2 := Lib.hid hwo2
      have HW2 : Hid (Below W.heap.size W wo2) := Lib.hid (HWo.out.trans (HR2.out.2.1.mono hWB))
      have hG : Hid (wo.heap[w.heap.size]? = some (.cells #[.int .i64 t.kind, .string t.pkg, .int .i64 t.major, .string t.mod, .string t.name, .slice (some ⟨g2, o2, none⟩) t.names.length cn, .slice (some ⟨g, o, none⟩) n cs] 25 (0, 0))) := Lib.hid (HR.out.2.2 _ _ HK.out (by simpa using hne) (fun c fz e => by injection e with _ e _; exact absurd e (by decide)))
      have hnn : w.heap.size < wo.heap.size := (Array.getElem?_eq_some_iff.1 hG.out).1
      have hG2 : Hid (wo2.heap[w.heap.size]? = some (.cells #[.int .i64 t.kind, .string t.pkg, .int .i64 t.major, .string t.mod, .string t.name, .slice (some ⟨g2, o2, none⟩) t.names.length cn, .slice (some ⟨g, o, none⟩) n cs] 25 (0, 0))) := Lib.hid (by rw [hwo2, Lib.alloc_old _ _ _ hnn]; exact hG.out)
      clear hwo2 hna hlen hnp hs
      rcases Nat.eq_zero_or_pos k with hp | hp
      · have hp2 : ¬ (0 : Int) < k := by omega
        have HST : Hid (rowOf (textsT t.subs) t.names (k + 1) = rowOf (textsT t.subs) t.names k ++ (x.data.toList ++ [58, 32]) ++ textT s) := Lib.hid (by rw [hstep, if_neg (by omega)])
        rw [HST.out] at hl4
        simp only [List.length_append, List.length_cons, List.length_nil, len_size] at hl4
        have c5 := HR.out.cell HK.out hne 5
        simp at c5
        have f1 : wo.cell? ⟨g2, o2 + k, none⟩ = some (.string x) := (HWo.out.cell (p := ⟨g2, _, none⟩) hg2).trans f0
        have hg2l : g2 < wo.heap.size := Nat.lt_of_lt_of_le hg2 HWo.out.size
        clear hstep hp
        go_wp2_with fail
        rw [← HWO2.out]
        clear h0 h1 h2 h3 h4 h5 h6
        refine (wr_str HR3.out _ ?_).mono ?_
        · rw [List.length_append, ByteArray.size_append, z58]; omega
        rintro e w3 ⟨rfl, g3⟩
        have d0 := g3.cell HK2.out hne2 0
        have d1 := g3.cell HK2.out hne2 1
        have d2 := g3.cell HK2.out hne2 2
        have d3 := g3.cell HK2.out hne2 3
        have d4 := g3.cell HK2.out hne2 4
        have d5 := g3.cell HK2.out hne2 5
        have d6 := g3.cell HK2.out hne2 6
        simp at d0 d1 d2 d3 d4 d5 d6
        clear c5 f1
        go_wp2_with fail
        refine (IHs.out B b _ W wo2 w3 _ HV7.out HW2.out hWB HP.out g3 ?_).mono ?_
        · rw [len_app, List.length_append, ByteArray.size_append, z58]; omega
        rintro e w4 ⟨rfl, g4⟩
        have HR4 : Hid (Wr B b wb (l ++ rowOf (textsT t.subs) t.names (k + 1)) w4) := Lib.hid (((HR.out.over HR2.out).over g4).eq (by rw [HST.out]; simp))
        clear d0 d1 d2 d3 d4 d5 d6 g3 g4
        go_wp2_with fail
        go_roundw
        case rel => exact ⟨k + 1, by omega, by go_num, HR4⟩
        case measure => simp [intOf]; omega
      · have hp2 : (0 : Int) < k := by omega
        have HST : Hid (rowOf (textsT t.subs) t.names (k + 1) = rowOf (textsT t.subs) t.names k ++ [44, 32] ++ (x.data.toList ++ [58, 32]) ++ textT s) := Lib.hid (by rw [hstep, if_pos hp])
        rw [HST.out] at hl4
        simp only [List.length_append, List.length_cons, List.length_nil, len_size] at hl4
        clear hstep hp
        go_wp2_with fail
        rw [← HWO2.out]
        clear h0 h1 h2 h3 h4 h5 h6
        refine (wr_str HR3.out ⟨#[44, 32]⟩ ?_).mono ?_
        · rw [List.length_append, z44]; omega
        rintro e w2 ⟨rfl, g2w⟩
        have c5 := g2w.cell hG2.out hne 5
        simp at c5
        have f1 : w2.cell? ⟨g2, o2 + k, none⟩ = some (.string x) := ((HW2.out.trans (g2w.2.1.mono hWB)).cell (p := ⟨g2, _, none⟩) hg2).trans f0
        go_wp2_with fail
        refine (wr_str g2w _ ?_).mono ?_
        · simp only [List.length_append, List.length_cons, List.length_nil, ByteArray.size_append, z58]; omega
        rintro e w3 ⟨rfl, g3⟩
        have d0 := g3.cell HK2.out hne2 0
        have d1 := g3.cell HK2.out hne2 1
        have d2 := g3.cell HK2.out hne2 2
        have d3 := g3.cell HK2.out hne2 3
        have d4 := g3.cell HK2.out hne2 4
        have d5 := g3.cell HK2.out hne2 5
        have d6 := g3.cell HK2.out hne2 6
        simp at d0 d1 d2 d3 d4 d5 d6
        clear c5 f1 g2w
        go_wp2_with fail
        refine (IHs.out B b _ W wo2 w3 _ HV7.out HW2.out hWB HP.out g3 ?_).mono ?_
        · simp only [List.length_append, len_size, List.length_cons, List.length_nil, ByteArray.size_append, z58]; omega
        rintro e w4 ⟨rfl, g4⟩
        have HR4 : Hid (Wr B b wb (l ++ rowOf (textsT t.subs) t.names (k + 1)) w4) := Lib.hid (((HR.out.over HR2.out).over g4).eq (by rw [HST.out]; simp))
        clear d0 d1 d2 d3 d4 d5 d6 g3 g4
        go_wp2_with fail
        go_roundw
        case rel => exact ⟨k + 1, by omega, by go_num, HR4⟩
        case measure => simp [intOf]; omega
    · obtain rfl : k = n := by omega
      go_wp2_with fail
      go_end0
      exact ⟨rfl, HA.out.over HR.out⟩

end Go.Proofs.YtnnppdlhmcobcaaDoor
