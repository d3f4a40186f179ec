/-
  Several texts in one.
-/
import Derived.Test.YteecgiebimdbhaaGreatDoorK12
import Derived.Maps.AppendAt
set_option maxRecDepth 100000
set_option maxHeartbeats 8000000
namespace Go.Proofs.YteecgiebimdbhaaGreatDoor
open Go.RowKit
open Go.Sort
open M
theorem writeFunc_at (ss : List Ty) (m n : Nat) (hnm : n = m + 1) (hss : ss.length = n) (q : Ty) (hq : ss[m]? = some q) (IH : ∀ s, s ∈ ss -> WriteOk s) (As : Option Addr) (cs B b : Nat) (hcap : n <= cs) (hz : n <= 9223372036854775807) (W w0 w : World) (l : List UInt8) (hS : SubsAt W As ss) (hW : Below W.heap.size W w0) (hWB : W.heap.size <= B) (hP : Pow W) (hw : Wr B b w0 l w) (hl : l.length + (rowOf (textsT ss) [] m).length + 6 + (textT q).length <= 4000000) :
  Calls Tryz.prog 135 #[.pointer (some ⟨b, 0, none⟩), .slice As n cs] w fun e w' => e = .returned (.tuple #[]) /\ Wr B b w0 (l ++ ([40] ++ rowOf (textsT ss) [] m ++ [41, 32, 45, 62, 32] ++ textT q)) w' := by
 subst hnm
 exact writeFunc_any ss m hss q hq IH As cs B b hcap hz W w0 w l hS hW hWB hP hw hl
theorem write_any (N : Nat) : ∀ (t : Ty), many t <= N -> allOk t = true -> WriteOk t := by
 induction N with
 | zero => intro t h; have := many_pos t; omega
 | succ N ih =>
 intro t hN hok B b v W w0 w l hv hW hWB hP hw hl
 have hok' : ownOk t = true /\ allOkL t.subs = true := by rw [allOk_eq] at hok; simpa using hok
 obtain ⟨hown, hall⟩ := hok'
 have IH : Hid (∀ s, s ∈ t.subs -> WriteOk s) := hZ (fun s hs => ih s (by have := manyL_mem t.subs s hs; have := manyL_eq t; omega) ((allOkL_mem _).1 hall s hs))
 have HNM := hZ (M.own_names hown)
 have hshape : shapeOk t = true := by
  have h := hown;unfold ownOk at h
  simp only [Bool.and_eq_true] at h;exact h.2
 have HSH := hZ hshape
 have HOWN := hZ hown
 have HP := hZ hP
 have HTX := hZ (textT_eq t)
 clear hN hok hown hall ih hshape hP
 have HV := hZ hv
 obtain ⟨lv, rfl, hT⟩ := hv
 obtain ⟨An, cn, As, cs, rfl, zp, zm, za, hzn, hz, hNA, hS⟩ := hT.parts
 have HCAP := hZ hT.cap
 have HS := hZ hS
 have HNA := hZ hNA
 have HLT := hZ (textsT_len t.subs)
 have hbw := hw.lt
 obtain ⟨wb, hwb⟩ : ∃ wb, wb = w.alloc (.cells #[.int .i64 t.kind, .string t.pkg, .int .i64 t.major, .string t.mod, .string t.name, .slice An t.names.length cn, .slice As t.subs.length cs] 55) := ⟨_, rfl⟩
 have HA : Hid (Wr B b w0 l wb) := hZ (by rw [hwb]; exact hw.alloc _)
 have H0 := hZ HA.out.base
 have HK : Hid (wb.heap[w.heap.size]? = some (.cells #[.int .i64 t.kind, .string t.pkg, .int .i64 t.major, .string t.mod, .string t.name, .slice An t.names.length cn, .slice As t.subs.length cs] 55 (0, 0))) := hZ (by rw [hwb]; exact heap_alloc_new w _)
 have hne : w.heap.size ≠ b := by omega
 have HWB := hZ hwb
 have HWw : Hid (Below W.heap.size W wb) := hZ (hW.trans (HA.out.2.1.mono hWB))
 clear hT hS hNA hW hwb hw
 by_cases hx : t.kind = 1
 ·as_aux_lemma =>
  have HJ : Hid (textT t = [73, 110, 116]) := hZ (by rw [HTX.out, hx]; rfl);rw [HJ.out] at hl;have b1 : (t.kind == 1) = true := by rw [hx]; rfl
  clear hx;go_enter Tryz.func93, Tryz.ntmps93
  go_wp2_with fail
  rw [<- HWB.out];refine (wr_str H0.out ⟨#[73, 110, 116]⟩ ?_).mono ?_
  ·exact hl
  rintro e w1 ⟨rfl, g1⟩;go_wp2_with fail
  go_end0
  exact ⟨rfl, (HA.out.over g1).eq (by rw [HJ.out])⟩
 by_cases hx : t.kind = 2
 ·as_aux_lemma =>
  have HJ : Hid (textT t = [84, 101, 120, 116]) := hZ (by rw [HTX.out, hx]; rfl);rw [HJ.out] at hl;have b1 : (t.kind == 1) = false := by rw [hx]; rfl
  have b2 : (t.kind == 2) = true := by rw [hx]; rfl
  clear hx;go_enter Tryz.func93, Tryz.ntmps93
  go_wp2_with fail
  rw [<- HWB.out];refine (wr_str H0.out ⟨#[84, 101, 120, 116]⟩ ?_).mono ?_
  ·exact hl
  rintro e w1 ⟨rfl, g1⟩;go_wp2_with fail
  go_end0
  exact ⟨rfl, (HA.out.over g1).eq (by rw [HJ.out])⟩
 by_cases hx : t.kind = 3
 ·as_aux_lemma =>
  have HJ : Hid (textT t = [66, 111, 111, 108]) := hZ (by rw [HTX.out, hx]; rfl);rw [HJ.out] at hl;have b1 : (t.kind == 1) = false := by rw [hx]; rfl
  have b2 : (t.kind == 2) = false := by rw [hx]; rfl
  have b3 : (t.kind == 3) = true := by rw [hx]; rfl
  clear hx;go_enter Tryz.func93, Tryz.ntmps93
  go_wp2_with fail
  rw [<- HWB.out];refine (wr_str H0.out ⟨#[66, 111, 111, 108]⟩ ?_).mono ?_
  ·exact hl
  rintro e w1 ⟨rfl, g1⟩;go_wp2_with fail
  go_end0
  exact ⟨rfl, (HA.out.over g1).eq (by rw [HJ.out])⟩
 by_cases hx : t.kind = 4
 ·as_aux_lemma =>
  have hn1 : t.subs.length = 1 := by
   have h := HSH.out;unfold shapeOk at h
   rw [hx] at h;simp at h;omega
  obtain ⟨s, hs⟩ : ∃ s, t.subs[0]? = some s := ⟨_, List.getElem?_eq_getElem (by omega)⟩;have HJ : Hid (textT t = [76, 105, 115, 116, 40] ++ textT s ++ [41]) := hZ (by rw [HTX.out, hx]; simp [kindText]; rw [<- List.getD_eq_getElem?_getD, textsT_at _ 0 s hs]);rw [HJ.out] at hl;simp only [List.length_append, List.length_cons, List.length_nil] at hl;obtain ⟨g, o, v0, v1, v2, v3, v4, v5, v6, rfl, hg, e0, e1, e2, e3, e4, e5, e6, hs7⟩ := HS.out 0 s hs;obtain ⟨Am, cm, At, ct, rfl, rfl, rfl, rfl, rfl, rfl, rfl⟩ := hs7.seven;have HV7 : Hid (TyV W (.agg #[.int .i64 s.kind, .string s.pkg, .int .i64 s.major, .string s.mod, .string s.name, .slice Am s.names.length cm, .slice At s.subs.length ct]) s) := hZ ⟨_, rfl, hs7⟩;have IHs := hZ (IH.out s (List.mem_of_getElem? hs));simp only [Nat.zero_mul, Nat.add_zero] at e0 e1 e2 e3 e4 e5 e6;have h01 : 0 < t.subs.length := by omega
  have b1 : (t.kind == 1) = false := by rw [hx]; rfl
  have b2 : (t.kind == 2) = false := by rw [hx]; rfl
  have b3 : (t.kind == 3) = false := by rw [hx]; rfl
  have b4 : (t.kind == 4) = true := by rw [hx]; rfl
  clear hx hs7 hs hn1;go_enter Tryz.func93, Tryz.ntmps93
  go_wp2_with fail
  rw [<- HWB.out];refine (wr_str H0.out ⟨#[76, 105, 115, 116, 40]⟩ ?_).mono ?_
  ·show l.length + 5 <= 4000000; omega
  rintro e w1 ⟨rfl, g1⟩;have c6 := g1.cell HK.out hne 6;simp at c6;have HW1 : Hid (Below W.heap.size W w1) := hZ (HWw.out.trans (g1.2.1.mono hWB));have tr : ∀ q v, W.cell? ⟨g, q, none⟩ = some v -> w1.cell? ⟨g, q, none⟩ = some v := fun q v hv => (HW1.out.cell (p := ⟨g, _, none⟩) hg).trans hv
  have h0 := tr _ _ e0;have h1 := tr _ _ e1;have h2 := tr _ _ e2;have h3 := tr _ _ e3;have h4 := tr _ _ e4;have h5 := tr _ _ e5;have h6 := tr _ _ e6;clear tr e0 e1 e2 e3 e4 e5 e6;go_wp2_with fail
  refine (IHs.out B b _ W wb w1 _ HV7.out HWw.out hWB HP.out g1 ?_).mono ?_
  ·simp only [List.length_append, List.length_cons, List.length_nil]; omega
  rintro e w2 ⟨rfl, g2⟩;clear c6 h0 h1 h2 h3 h4 h5 h6;go_wp2_with fail
  refine (wr_str g2 ⟨#[41]⟩ ?_).mono ?_
  ·show (l ++ [76, 105, 115, 116, 40] ++ textT s).length + 1 <= 4000000
   simp only [List.length_append, List.length_cons, List.length_nil]; omega
  rintro e w3 ⟨rfl, g3⟩;go_wp2_with fail
  go_end0
  exact ⟨rfl, (HA.out.over g3).eq (by rw [HJ.out]; simp)⟩
 by_cases hx : t.kind = 5
 ·as_aux_lemma =>
  have hn1 : t.names.length = t.subs.length := by
   have h := HSH.out;unfold shapeOk at h
   rw [hx] at h;simp at h;omega
  have HJ : Hid (textT t = [123] ++ rowOf (textsT t.subs) t.names t.subs.length ++ [125]) := hZ (by rw [HTX.out, hx]; simp [kindText, HLT.out]);rw [HJ.out] at hl;simp only [List.length_append, List.length_cons, List.length_nil] at hl;have HNN := hZ hn1;have b1 : (t.kind == 1) = false := by rw [hx]; rfl
  have b2 : (t.kind == 2) = false := by rw [hx]; rfl
  have b3 : (t.kind == 3) = false := by rw [hx]; rfl
  have b4 : (t.kind == 4) = false := by rw [hx]; rfl
  have b5 : (t.kind == 5) = true := by rw [hx]; rfl
  clear hx hn1;go_enter Tryz.func93, Tryz.ntmps93
  go_wp2_with fail
  rw [<- HWB.out];refine (wr_str H0.out ⟨#[123]⟩ ?_).mono ?_
  ·show l.length + 1 <= 4000000; omega
  rintro e w1 ⟨rfl, g1⟩;have c0 := g1.cell HK.out hne 0;have c1 := g1.cell HK.out hne 1;have c2 := g1.cell HK.out hne 2;have c3 := g1.cell HK.out hne 3;have c4 := g1.cell HK.out hne 4;have c5 := g1.cell HK.out hne 5;have c6 := g1.cell HK.out hne 6;simp at c0 c1 c2 c3 c4 c5 c6;go_wp2_with fail
  refine (writeNamed_any t IH.out HNN.out HNM.out B b _ W wb w1 _ HV.out HWw.out hWB HP.out g1 ?_).mono ?_
  ·simp only [List.length_append, List.length_cons, List.length_nil]; omega
  rintro e w2 ⟨rfl, g2⟩;clear c0 c1 c2 c3 c4 c5 c6;go_wp2_with fail
  refine (wr_str g2 ⟨#[125]⟩ ?_).mono ?_
  ·show (l ++ [123] ++ rowOf (textsT t.subs) t.names t.subs.length).length + 1 <= 4000000
   simp only [List.length_append, List.length_cons, List.length_nil]; omega
  rintro e w3 ⟨rfl, g3⟩;go_wp2_with fail
  go_end0
  exact ⟨rfl, (HA.out.over g3).eq (by rw [HJ.out]; simp)⟩
 by_cases hx : t.kind = 6
 ·as_aux_lemma =>
  have hn1 : t.names.length = t.subs.length := by
   have h := HSH.out;unfold shapeOk at h
   rw [hx] at h;simp at h;omega
  have HJ : Hid (textT t = [91] ++ rowOf (textsT t.subs) t.names t.subs.length ++ [93]) := hZ (by rw [HTX.out, hx]; simp [kindText, HLT.out]);rw [HJ.out] at hl;simp only [List.length_append, List.length_cons, List.length_nil] at hl;have HNN := hZ hn1;have b1 : (t.kind == 1) = false := by rw [hx]; rfl
  have b2 : (t.kind == 2) = false := by rw [hx]; rfl
  have b3 : (t.kind == 3) = false := by rw [hx]; rfl
  have b4 : (t.kind == 4) = false := by rw [hx]; rfl
  have b5 : (t.kind == 5) = false := by rw [hx]; rfl
  have b6 : (t.kind == 6) = true := by rw [hx]; rfl
  clear hx hn1;go_enter Tryz.func93, Tryz.ntmps93
  go_wp2_with fail
  rw [<- HWB.out];refine (wr_str H0.out ⟨#[91]⟩ ?_).mono ?_
  ·show l.length + 1 <= 4000000; omega
  rintro e w1 ⟨rfl, g1⟩;have c0 := g1.cell HK.out hne 0;have c1 := g1.cell HK.out hne 1;have c2 := g1.cell HK.out hne 2;have c3 := g1.cell HK.out hne 3;have c4 := g1.cell HK.out hne 4;have c5 := g1.cell HK.out hne 5;have c6 := g1.cell HK.out hne 6;simp at c0 c1 c2 c3 c4 c5 c6;go_wp2_with fail
  refine (writeNamed_any t IH.out HNN.out HNM.out B b _ W wb w1 _ HV.out HWw.out hWB HP.out g1 ?_).mono ?_
  ·simp only [List.length_append, List.length_cons, List.length_nil]; omega
  rintro e w2 ⟨rfl, g2⟩;clear c0 c1 c2 c3 c4 c5 c6;go_wp2_with fail
  refine (wr_str g2 ⟨#[93]⟩ ?_).mono ?_
  ·show (l ++ [91] ++ rowOf (textsT t.subs) t.names t.subs.length).length + 1 <= 4000000
   simp only [List.length_append, List.length_cons, List.length_nil]; omega
  rintro e w3 ⟨rfl, g3⟩;go_wp2_with fail
  go_end0
  exact ⟨rfl, (HA.out.over g3).eq (by rw [HJ.out]; simp)⟩
 by_cases hx : t.kind = 7
 ·as_aux_lemma =>
  have hn1 : 0 < t.subs.length := by
   have h := HSH.out;unfold shapeOk at h
   rw [hx] at h;simp at h;omega
  obtain ⟨m, hm⟩ : ∃ m, t.subs.length = m + 1 := ⟨t.subs.length - 1, by omega⟩;obtain ⟨s, hs⟩ : ∃ s, t.subs[m]? = some s := ⟨_, List.getElem?_eq_getElem (by omega)⟩;have HJ : Hid (textT t = [40] ++ rowOf (textsT t.subs) [] m ++ [41, 32, 45, 62, 32] ++ textT s) := hZ (by rw [HTX.out, hx]; show [40] ++ rowOf (textsT t.subs) [] ((textsT t.subs).length - 1) ++ [41, 32, 45, 62, 32] ++ (textsT t.subs).getD ((textsT t.subs).length - 1) [] = _; rw [HLT.out, hm, Nat.add_sub_cancel, textsT_at _ m s hs]);rw [HJ.out] at hl;simp only [List.length_append, List.length_cons, List.length_nil] at hl;have HM := hZ hm;have HSS := hZ hs;have b1 : (t.kind == 1) = false := by rw [hx]; rfl
  have b2 : (t.kind == 2) = false := by rw [hx]; rfl
  have b3 : (t.kind == 3) = false := by rw [hx]; rfl
  have b4 : (t.kind == 4) = false := by rw [hx]; rfl
  have b5 : (t.kind == 5) = false := by rw [hx]; rfl
  have b6 : (t.kind == 6) = false := by rw [hx]; rfl
  have b7 : (t.kind == 7) = true := by rw [hx]; rfl
  clear hx hn1 hm hs;go_enter Tryz.func93, Tryz.ntmps93
  go_wp2_with fail
  rw [<- HWB.out];have c6 := H0.out.cell HK.out hne 6;simp at c6;go_wp2_with fail
  refine (writeFunc_at t.subs m _ HM.out rfl s HSS.out IH.out As cs B b HCAP.out hz W wb wb l HS.out HWw.out hWB HP.out H0.out ?_).mono ?_
  ·omega
  rintro e w2 ⟨rfl, g2⟩;go_wp2_with fail
  go_end0
  exact ⟨rfl, (HA.out.over g2).eq (by rw [HJ.out])⟩
 by_cases hx : t.kind = 8
 ·as_aux_lemma =>
  have HX := hZ hx;have b1 : (t.kind == 1) = false := by rw [hx]; rfl
  have b2 : (t.kind == 2) = false := by rw [hx]; rfl
  have b3 : (t.kind == 3) = false := by rw [hx]; rfl
  have b4 : (t.kind == 4) = false := by rw [hx]; rfl
  have b5 : (t.kind == 5) = false := by rw [hx]; rfl
  have b6 : (t.kind == 6) = false := by rw [hx]; rfl
  have b7 : (t.kind == 7) = false := by rw [hx]; rfl
  have b8 : (t.kind == 8) = true := by rw [hx]; rfl
  clear hx;go_enter Tryz.func93, Tryz.ntmps93
  go_wp2_with fail
  rw [<- HWB.out];have c0 := H0.out.cell HK.out hne 0;have c1 := H0.out.cell HK.out hne 1;have c2 := H0.out.cell HK.out hne 2;have c3 := H0.out.cell HK.out hne 3;have c4 := H0.out.cell HK.out hne 4;have c5 := H0.out.cell HK.out hne 5;have c6 := H0.out.cell HK.out hne 6;simp at c0 c1 c2 c3 c4 c5 c6;go_wp2_with fail
  refine (writeLocal_any t HOWN.out HX.out B b _ W wb wb l HV.out HWw.out hWB H0.out hl).mono ?_; rintro e w2 ⟨rfl, g2⟩
  go_wp2_with fail
  go_end0
  exact ⟨rfl, HA.out.over g2⟩
 by_cases hx : t.kind = 9
 ·as_aux_lemma =>
  have hm : (1 <= t.major /\ t.major <= 999999999) /\ t.pkg.size <= 20 /\ t.mod.size <= 20 /\ t.name.size <= 20 := by
   have h := HSH.out;unfold shapeOk at h
   rw [hx] at h;simp at h;exact ⟨⟨h.1.2, h.2⟩, small_len h.1.1.1.1.2, small_len h.1.1.1.2, great_len h.1.1.2⟩
  obtain ⟨⟨m1, m2⟩, z1, z2, z3⟩ := hm;have z4 := dec_size t.major (by omega) (by omega);have HJ : Hid ((⟨#[60]⟩ ++ t.pkg ++ ⟨#[32]⟩ ++ dec t.major ++ ⟨#[32]⟩ ++ t.mod ++ ⟨#[32]⟩ ++ t.name ++ ⟨#[62]⟩ : ByteArray).data.toList = textT t) := hZ (by rw [HTX.out, hx]; simp [kindText]);have HZ : Hid ((⟨#[60]⟩ ++ t.pkg ++ ⟨#[32]⟩ ++ dec t.major ++ ⟨#[32]⟩ ++ t.mod ++ ⟨#[32]⟩ ++ t.name ++ ⟨#[62]⟩ : ByteArray).size = (textT t).length) := hZ (by rw [<- HJ.out, len_size]);have n1 : ¬ (1 + t.pkg.size > 9223372036854775807) := by omega
  have n2 : ¬ (1 + t.pkg.size + 1 > 9223372036854775807) := by omega
  have n3 : ¬ (1 + t.pkg.size + 1 + (dec t.major).size > 9223372036854775807) := by omega
  have n4 : ¬ (1 + t.pkg.size + 1 + (dec t.major).size + 1 > 9223372036854775807) := by omega
  have n5 : ¬ (1 + t.pkg.size + 1 + (dec t.major).size + 1 + t.mod.size > 9223372036854775807) := by omega
  have n6 : ¬ (1 + t.pkg.size + 1 + (dec t.major).size + 1 + t.mod.size + 1 > 9223372036854775807) := by omega
  have n7 : ¬ (1 + t.pkg.size + 1 + (dec t.major).size + 1 + t.mod.size + 1 + t.name.size > 9223372036854775807) := by omega
  have n8 : ¬ (1 + t.pkg.size + 1 + (dec t.major).size + 1 + t.mod.size + 1 + t.name.size + 1 > 9223372036854775807) := by omega
  have cD : ∀ dd os, Calls Tryz.prog 51 #[.int .i64 t.major] (Sort.grow (redrawn wb dd) os) fun e w'' => e = .returned (.string (dec t.major)) /\ ∃ pp : Regrown, w'' = Sort.grow (redrawn wb pp.d) pp.os := fun dd os => Calls.regrown_of (itoa_any _ _ (by omega) (by omega) ((HP.out.on HWw.out).on (below_regrown _ dd os)))
  have y0 := H0.out.cell HK.out hne 0;have y1 := H0.out.cell HK.out hne 1;have y2 := H0.out.cell HK.out hne 2;have y3 := H0.out.cell HK.out hne 3;have y4 := H0.out.cell HK.out hne 4;have y5 := H0.out.cell HK.out hne 5;have y6 := H0.out.cell HK.out hne 6;simp at y0 y1 y2 y3 y4 y5 y6;have p1 := cell_regrown y1;have p2 := cell_regrown y2;have p3 := cell_regrown y3;have p4 := cell_regrown y4;have b1 : (t.kind == 1) = false := by rw [hx]; rfl
  have b2 : (t.kind == 2) = false := by rw [hx]; rfl
  have b3 : (t.kind == 3) = false := by rw [hx]; rfl
  have b4 : (t.kind == 4) = false := by rw [hx]; rfl
  have b5 : (t.kind == 5) = false := by rw [hx]; rfl
  have b6 : (t.kind == 6) = false := by rw [hx]; rfl
  have b7 : (t.kind == 7) = false := by rw [hx]; rfl
  have b8 : (t.kind == 8) = false := by rw [hx]; rfl
  have b9 : (t.kind == 9) = true := by rw [hx]; rfl
  clear hx;go_enter Tryz.func93, Tryz.ntmps93
  go_wp2_with fail
  rw [<- HWB.out];clear z4 y0 y5 y6;go_wp2_with fail
  refine wp_region_last (C := fun w' => ∃ p : Regrown, w' = Sort.grow (redrawn wb p.d) p.os) (by kernel_rfl) rfl rfl (by kernel_rfl) (by intro cs b h; cases h) (by kernel_rfl) (by kernel_rfl) (by kernel_rfl) ⟨⟨wb.drawn + 1, #[]⟩, by rw [grow_empty]; rfl⟩ ?_;unfold tameLast
  simp only [List.dropLast, List.cons_append, List.nil_append];repeat (any_goals (first | go_big_quiet_step (with_reducible exact cD _ _) | quiet_step (with_reducible exact cD _ _)))
  refine wpQuiet_nil ?_;intro w' hw';obtain ⟨⟨dq, osq⟩, hw''⟩ := hw';subst hw'';have g1 := H0.out.below (below_regrown wb dq osq);refine ⟨22, #[.pointer (some ⟨b, 0, none⟩), .string (⟨#[60]⟩ ++ t.pkg ++ ⟨#[32]⟩ ++ dec t.major ++ ⟨#[32]⟩ ++ t.mod ++ ⟨#[32]⟩ ++ t.name ++ ⟨#[62]⟩ : ByteArray)], by go_simp, ?_⟩;refine (wr_str g1 _ ?_).mono ?_
  ·rw [HZ.out]; exact hl
  rintro e w3 ⟨rfl, g3⟩;refine ⟨_, rfl, ?_⟩;go_wp2_with fail
  go_end0
  exact ⟨rfl, (HA.out.over g3).eq (by rw [HJ.out])⟩
 exfalso
 have h := HSH.out
 unfold shapeOk at h
 simp_all
theorem printK_yes (t : Ty) (h : mayT t = true) (hM : many t <= 9000) (v : Value) (w : World) (hv : TyV w v t) (hP : Pow w) :
  Calls Tryz.prog 52 #[v] w fun e w' => e = .returned (.tuple #[.string (tB t), .nilIface]) /\ Below w.heap.size w w' := by
 have hall : allOk t = true := by
  have h' := h
  unfold mayT at h'
  simp only [Bool.and_eq_true] at h';exact h'.1.1
 have htl := text_len t hall
 have HWR := hZ (write_any _ t (Nat.le_refl _) hall)
 have HM := hZ h
 have HP := hZ hP
 have hlen : (textT t).length <= 4000000 := by omega
 have HV := hZ hv
 obtain ⟨lv, rfl, hT⟩ := hv
 obtain ⟨An, cn, As, cs, rfl, -, -, -, -, -, -, -⟩ := hT.parts
 clear hT hP h hall htl
 obtain ⟨wb, hwb⟩ : ∃ wb, wb = w.alloc (.cells #[.int .i64 t.kind, .string t.pkg, .int .i64 t.major, .string t.mod, .string t.name, .slice An t.names.length cn, .slice As t.subs.length cs] 55) := ⟨_, rfl⟩
 have HBB : Hid (Below w.heap.size w wb) := hZ (by rw [hwb]; exact below_new (Below.refl _ _) _)
 have HBX : Hid (wb.heap[w.heap.size]? = some (.cells #[.int .i64 t.kind, .string t.pkg, .int .i64 t.major, .string t.mod, .string t.name, .slice An t.names.length cn, .slice As t.subs.length cs] 55 (0, 0))) := hZ (by rw [hwb]; exact heap_alloc_new w _)
 have HWB := hZ hwb
 clear hwb
 go_enter Tryz.func52, Tryz.ntmps52
 go_wp2_with fail
 rw [<- HWB.out]
 refine (mayK_any t _ _ (HV.out.below HBB.out)).mono ?_; rintro e w1 ⟨rfl, hb1⟩; rw [HM.out]
 have HB1 : Hid (Below w.heap.size w w1) := hZ (HBB.out.trans (hb1.mono HBB.out.size))
 have hlt : w.heap.size < wb.heap.size := (Array.getElem?_eq_some_iff.1 HBX.out).1
 have hlt1 : w.heap.size < w1.heap.size := Nat.lt_of_lt_of_le hlt hb1.size
 have HX1 : Hid (∀ i v, (#[.int .i64 t.kind, .string t.pkg, .int .i64 t.major, .string t.mod, .string t.name, .slice An t.names.length cn, .slice As t.subs.length cs] : Array Value)[i]? = some v -> w1.cell? ⟨w.heap.size, i, none⟩ = some v) := hZ (fun i v hv => by
  rw [(bcell hb1).1 _ _ hlt, cZ HBX.out]; exact hv)
 have x0 := HX1.out 0 _ rfl
 have x1 := HX1.out 1 _ rfl
 have x2 := HX1.out 2 _ rfl
 have x3 := HX1.out 3 _ rfl
 have x4 := HX1.out 4 _ rfl
 have x5 := HX1.out 5 _ rfl
 have x6 := HX1.out 6 _ rfl
 have h0 := hZ (Lib.fresh_isBuilder 64 5 w1)
 clear hb1
 go_wp2_with fail
 have W0 : Wr w1.heap.size w1.heap.size (w1.alloc (.cells #[.pointer none, .slice none 0 0] 64)) [] (w1.alloc (.cells #[.pointer none, .slice none 0 0] 64)) := ⟨h0.out, Below.refl _ _, Lib.OthersKept.refl _ _ _⟩
 refine (HWR.out w1.heap.size w1.heap.size _ w1 _ _ [] (HV.out.below HB1.out) (below_new (Below.refl _ _) _) (Nat.le_refl _) (HP.out.on HB1.out) W0 (by simpa using hlen)).mono ?_; rintro e w2 ⟨rfl, g2⟩
 have HB2 : Hid (Below w.heap.size w w2) := hZ ((below_new HB1.out _).trans (g2.2.1.mono HB1.out.size))
 have hsz : w1.heap.size <= w2.heap.size := by have := g2.lt; omega
 clear x0 x1 x2 x3 x4 x5 x6
 go_wp2_with fail
 refine (Tryz.Builder_String_any w1.heap.size w1.heap.size (textT t) _ g2.1 hsz).mono ?_; rintro e w3 ⟨rfl, hb3⟩
 go_wp2_with fail
 go_ret2
 exact ⟨rfl, HB2.out.trans (hb3.mono HB1.out.size)⟩
theorem tB_eq (t : Ty) : (tB t).data.toList = kindText t.kind t.pkg t.major t.mod t.name t.names (textsT t.subs) := by unfold tB; rw [textT_eq]
theorem row_at (A : Option Addr) (c : Nat) (ss : List Ty) (An : Option Addr) (cn : Nat) (ns : List ByteArray) (x : Int) (r n m : Nat) (w : World) (hx : x = r) (hn : ss.length = n) (hm : ns.length = m) (hr : r <= ss.length) (hl : ss.length <= 9223372036854775807) (hln : ns.length <= 9223372036854775807)
  (hS : SubsAt w A ss) (hN : NamesAt w An ns) (hnr : 0 < ns.length -> r <= ns.length) (hbr : ∀ k, k <= r -> (rowOf (textsT ss) ns k).length <= 2000000) (hbs : ∀ s, s ∈ ss -> (textT s).length <= 2000000) (hbn : ∀ i, i < ns.length -> (nameAt ns i).size <= 20)
  (IH : ∀ s, s ∈ ss -> ∀ (v : Value) (w : World), TyV w v s -> Calls Tryz.prog 33 #[v] w fun e w' => e = .returned (.string (tB s)) /\ Below w.heap.size w w') :
  Calls Tryz.prog 64 #[.slice A n c, .slice An m cn, .int .i64 x] w fun e w' => e = .returned (.string (rB (textsT ss) ns r)) /\ Below w.heap.size w w' := by
 subst hx hn hm; exact row_any A c ss An cn ns r w hr hl hln hS hN hnr hbr hbs hbn IH
theorem print_any (N : Nat) : ∀ (t : Ty), many t <= N -> many t <= 9000 -> allOk t = true -> ∀ (v : Value) (w : World), TyV w v t ->
  Calls Tryz.prog 33 #[v] w fun e w' => e = .returned (.string (tB t)) /\ Below w.heap.size w w' := by
 induction N with
 | zero => intro t h; have := many_pos t; omega
 | succ N ih =>
  intro t hN hM hok v w hv;have hok' : ownOk t = true /\ allOkL t.subs = true := by rw [allOk_eq] at hok; simpa using hok
  obtain ⟨hown, hall⟩ := hok';have hme := manyL_eq t
  have hsub : ∀ s, s ∈ t.subs -> many s <= N /\ many s <= 9000 /\ allOk s = true := fun s hs => by
   have := manyL_mem t.subs s hs
   exact ⟨by omega, by omega, (allOkL_mem _).1 hall s hs⟩
  have IH : Hid (∀ s, s ∈ t.subs -> ∀ (v : Value) (w : World), TyV w v s -> Calls Tryz.prog 33 #[v] w fun e w' => e = .returned (.string (tB s)) /\ Below w.heap.size w w') :=
   hZ (fun s hs v w hv => ih s (hsub s hs).1 (hsub s hs).2.1 (hsub s hs).2.2 v w hv)
  have hbs : Hid (∀ s, s ∈ t.subs -> (textT s).length <= 2000000) := hZ (fun s hs => by
   have a := text_len s (hsub s hs).2.2;have b := (hsub s hs).2.1;omega)
  have hrow : ∀ ns : List ByteArray, (∀ i, i < ns.length -> (nameAt ns i).size <= 20) -> ∀ k, k <= t.subs.length -> (rowOf (textsT t.subs) ns k).length <= 2000000 := fun ns hn k hk => by
   have a := row_len t.subs ns (texts_len t.subs hall) hn k hk;have b := manyL_take_le t.subs k;omega
  have HROW := hZ hrow;have HNM := hZ (M.own_names hown)
  have hshape : shapeOk t = true := by
   unfold ownOk at hown
   simp only [Bool.and_eq_true] at hown;exact hown.2
  have HSH := hZ hshape;have HLT := hZ (textsT_len t.subs);have htl := text_len t hok;have htb := tB_size t;have hts : (tB t).size <= 2000000 := by omega
  obtain ⟨l, rfl, hT⟩ := hv;obtain ⟨An, cn, As, cs, rfl, zp, zm, za, hzn, hz, hNA, hS⟩ := hT.parts;have HS := hZ hS;have HNA := hZ hNA;clear hT hS hNA hok hown hall hsub ih hrow hshape htl htb hme hN hM;by_cases hx : t.kind = 1
  ·as_aux_lemma =>
   have HJ : Hid (tB t = ⟨#[73, 110, 116]⟩) := hZ (bytes_ext' (by rw [tB_eq t, hx]; rfl));rw [HJ.out];have b1 : (t.kind == 1) = true := by rw [hx]; rfl
   clear hx;go_enter Tryz.func33, Tryz.ntmps33
   go_wp2_with fail
   go_ret;exact ⟨rfl, below_new (Below.refl _ _) _⟩
  by_cases hx : t.kind = 2
  ·as_aux_lemma =>
   have HJ : Hid (tB t = ⟨#[84, 101, 120, 116]⟩) := hZ (bytes_ext' (by rw [tB_eq t, hx]; rfl));rw [HJ.out];have b1 : (t.kind == 1) = false := by rw [hx]; rfl
   have b2 : (t.kind == 2) = true := by rw [hx]; rfl
   clear hx;go_enter Tryz.func33, Tryz.ntmps33
   go_wp2_with fail
   go_ret;exact ⟨rfl, below_new (Below.refl _ _) _⟩
  by_cases hx : t.kind = 3
  ·as_aux_lemma =>
   have HJ : Hid (tB t = ⟨#[66, 111, 111, 108]⟩) := hZ (bytes_ext' (by rw [tB_eq t, hx]; rfl));rw [HJ.out];have b1 : (t.kind == 1) = false := by rw [hx]; rfl
   have b2 : (t.kind == 2) = false := by rw [hx]; rfl
   have b3 : (t.kind == 3) = true := by rw [hx]; rfl
   clear hx;go_enter Tryz.func33, Tryz.ntmps33
   go_wp2_with fail
   go_ret;exact ⟨rfl, below_new (Below.refl _ _) _⟩
  by_cases hx : t.kind = 4
  ·as_aux_lemma =>
   have hn1 : t.subs.length = 1 := by
    have h := HSH.out;unfold shapeOk at h
    rw [hx] at h;simp at h;omega
   obtain ⟨s, hs⟩ : ∃ s, t.subs[0]? = some s := ⟨_, List.getElem?_eq_getElem (by omega)⟩;obtain ⟨g, o, v0, v1, v2, v3, v4, v5, v6, rfl, hgl, h0, h1, h2, h3, h4, h5, h6, hs7⟩ := HS.out 0 s hs
   have HJ : Hid (⟨#[76, 105, 115, 116, 40]⟩ ++ tB s ++ ⟨#[41]⟩ = tB t) := hZ (bytes_ext' (by
    rw [tB_eq t, hx]; simp [kindText, tB]; rw [<- List.getD_eq_getElem?_getD, textsT_at _ 0 s hs]))
   have IHs := hZ (IH.out s (List.mem_of_getElem? hs) (.agg #[v0, v1, v2, v3, v4, v5, v6]) _ ⟨_, rfl, hs7.keep (below_new (Below.refl _ w) (.cells #[.int .i64 t.kind, .string t.pkg, .int .i64 t.major, .string t.mod, .string t.name, .slice An t.names.length cn, .slice (some ⟨g, o, none⟩) t.subs.length cs] 55))⟩);have bs := hbs.out s (List.mem_of_getElem? hs);have bt := tB_size s;have n1 : ¬ (5 + (tB s).size > 9223372036854775807) := by omega
   have n2 : ¬ (5 + (tB s).size + 1 > 9223372036854775807) := by omega
   simp only [Nat.zero_mul, Nat.add_zero] at h0 h1 h2 h3 h4 h5 h6;rw [hn1] at IHs ⊢;have b1 : (t.kind == 1) = false := by rw [hx]; rfl
   have b2 : (t.kind == 2) = false := by rw [hx]; rfl
   have b3 : (t.kind == 3) = false := by rw [hx]; rfl
   have b4 : (t.kind == 4) = true := by rw [hx]; rfl
   clear hx hs7 hs bs bt hn1 HSH;go_enter Tryz.func33, Tryz.ntmps33
   go_wp2_with fail
   refine IHs.out.mono ?_; rintro e w2 ⟨rfl, hb2⟩
   go_wp2_with fail
   rw [HJ.out];go_ret;exact ⟨rfl, (below_new (Below.refl _ _) _).trans (hb2.mono (by simp))⟩
  by_cases hx : t.kind = 5
  ·as_aux_lemma =>
   have hnn : t.subs.length = t.names.length := by
    have h := HSH.out;unfold shapeOk at h
    rw [hx] at h;simp at h;omega
   have HJ : Hid (⟨#[123]⟩ ++ rB (textsT t.subs) t.names t.subs.length ++ ⟨#[125]⟩ = tB t) := hZ (bytes_ext' (by
    rw [tB_eq t, hx]; simp [kindText, rB, HLT.out]))
   have bz := rB_size (textsT t.subs) t.names t.subs.length;have br := HROW.out t.names HNM.out t.subs.length (Nat.le_refl _);have n1 : ¬ (1 + (rB (textsT t.subs) t.names t.subs.length).size > 9223372036854775807) := by omega
   have n2 : ¬ (1 + (rB (textsT t.subs) t.names t.subs.length).size + 1 > 9223372036854775807) := by omega
   have HB := hZ (below_new (Below.refl _ w) (.cells #[.int .i64 t.kind, .string t.pkg, .int .i64 t.major, .string t.mod, .string t.name, .slice An t.names.length cn, .slice As t.subs.length cs] 55));have ROW := hZ (row_at As cs t.subs An cn t.names _ t.subs.length _ _ _ rfl rfl rfl (Nat.le_refl _) hz hzn (HS.out.below HB.out) (HNA.out.below HB.out) (fun _ => by omega) (HROW.out t.names HNM.out) hbs.out HNM.out IH.out);have b1 : (t.kind == 1) = false := by rw [hx]; rfl
   have b2 : (t.kind == 2) = false := by rw [hx]; rfl
   have b3 : (t.kind == 3) = false := by rw [hx]; rfl
   have b4 : (t.kind == 4) = false := by rw [hx]; rfl
   have b5 : (t.kind == 5) = true := by rw [hx]; rfl
   clear hx bz br HSH hnn;go_enter Tryz.func33, Tryz.ntmps33
   go_wp2_with fail
   refine ROW.out.mono ?_; rintro e w2 ⟨rfl, hb2⟩
   go_wp2_with fail
   rw [HJ.out];go_ret;exact ⟨rfl, (below_new (Below.refl _ _) _).trans (hb2.mono (by simp))⟩
  by_cases hx : t.kind = 6
  ·as_aux_lemma =>
   have hnn : t.subs.length = t.names.length := by
    have h := HSH.out;unfold shapeOk at h
    rw [hx] at h;simp at h;omega
   have HJ : Hid (⟨#[91]⟩ ++ rB (textsT t.subs) t.names t.subs.length ++ ⟨#[93]⟩ = tB t) := hZ (bytes_ext' (by
    rw [tB_eq t, hx]; simp [kindText, rB, HLT.out]))
   have bz := rB_size (textsT t.subs) t.names t.subs.length;have br := HROW.out t.names HNM.out t.subs.length (Nat.le_refl _);have n1 : ¬ (1 + (rB (textsT t.subs) t.names t.subs.length).size > 9223372036854775807) := by omega
   have n2 : ¬ (1 + (rB (textsT t.subs) t.names t.subs.length).size + 1 > 9223372036854775807) := by omega
   have HB := hZ (below_new (Below.refl _ w) (.cells #[.int .i64 t.kind, .string t.pkg, .int .i64 t.major, .string t.mod, .string t.name, .slice An t.names.length cn, .slice As t.subs.length cs] 55));have ROW := hZ (row_at As cs t.subs An cn t.names _ t.subs.length _ _ _ rfl rfl rfl (Nat.le_refl _) hz hzn (HS.out.below HB.out) (HNA.out.below HB.out) (fun _ => by omega) (HROW.out t.names HNM.out) hbs.out HNM.out IH.out);have b1 : (t.kind == 1) = false := by rw [hx]; rfl
   have b2 : (t.kind == 2) = false := by rw [hx]; rfl
   have b3 : (t.kind == 3) = false := by rw [hx]; rfl
   have b4 : (t.kind == 4) = false := by rw [hx]; rfl
   have b5 : (t.kind == 5) = false := by rw [hx]; rfl
   have b6 : (t.kind == 6) = true := by rw [hx]; rfl
   clear hx bz br HSH hnn;go_enter Tryz.func33, Tryz.ntmps33
   go_wp2_with fail
   refine ROW.out.mono ?_; rintro e w2 ⟨rfl, hb2⟩
   go_wp2_with fail
   rw [HJ.out];go_ret;exact ⟨rfl, (below_new (Below.refl _ _) _).trans (hb2.mono (by simp))⟩
  by_cases hx : t.kind = 7
  ·as_aux_lemma =>
   have hn0 : 0 < t.subs.length := by
    have h := HSH.out;unfold shapeOk at h
    rw [hx] at h;simp at h;omega
   obtain ⟨s, hs⟩ : ∃ s, t.subs[t.subs.length - 1]? = some s := ⟨_, List.getElem?_eq_getElem (by omega)⟩;have HSW : Hid (SubsAt (w.alloc (.cells #[.int .i64 t.kind, .string t.pkg, .int .i64 t.major, .string t.mod, .string t.name, .slice An t.names.length cn, .slice As t.subs.length cs] 55)) As t.subs) := hZ (HS.out.below (below_new (Below.refl _ w) _));obtain ⟨g, o, v0, v1, v2, v3, v4, v5, v6, rfl, hgl, h0, h1, h2, h3, h4, h5, h6, hs7⟩ := HSW.out _ s hs
   have HJ : Hid (⟨#[40]⟩ ++ rB (textsT t.subs) [] (t.subs.length - 1) ++ ⟨#[41, 32, 45, 62, 32]⟩ ++ tB s = tB t) := hZ (bytes_ext' (by
    rw [tB_eq t, hx]; simp [kindText, rB, tB, HLT.out]; rw [<- List.getD_eq_getElem?_getD, textsT_at _ _ s hs]))
   have bz := rB_size (textsT t.subs) [] (t.subs.length - 1);have br := HROW.out [] (fun i hi => by simp at hi) (t.subs.length - 1) (by omega);have bs := hbs.out s (List.mem_of_getElem? hs);have bt := tB_size s;have n1 : ¬ (1 + (rB (textsT t.subs) [] (t.subs.length - 1)).size > 9223372036854775807) := by omega
   have n2 : ¬ (1 + (rB (textsT t.subs) [] (t.subs.length - 1)).size + 5 > 9223372036854775807) := by omega
   have n3 : ¬ (1 + (rB (textsT t.subs) [] (t.subs.length - 1)).size + 5 + (tB s).size > 9223372036854775807) := by omega
   have HIH := hZ (IH.out s (List.mem_of_getElem? hs));have cP1 : ∀ dd os, Calls Tryz.prog 64 #[.slice (some ⟨g, o, none⟩) t.subs.length cs, .slice none 0 0, .int .i64 ((t.subs.length : Int) - 1)] (Sort.grow (redrawn (w.alloc (.cells #[.int .i64 t.kind, .string t.pkg, .int .i64 t.major, .string t.mod, .string t.name, .slice An t.names.length cn, .slice (some ⟨g, o, none⟩) t.subs.length cs] 55)) dd) os) fun e w'' => e = .returned (.string (rB (textsT t.subs) [] (t.subs.length - 1))) /\ ∃ pp : Regrown, w'' = Sort.grow (redrawn (w.alloc (.cells #[.int .i64 t.kind, .string t.pkg, .int .i64 t.major, .string t.mod, .string t.name, .slice An t.names.length cn, .slice (some ⟨g, o, none⟩) t.subs.length cs] 55)) pp.d) pp.os := fun dd os => Calls.regrown_of (row_at _ cs t.subs none 0 [] _ (t.subs.length - 1) _ 0 _ (by omega) rfl rfl (by omega) hz (by simp) (HSW.out.below (below_regrown _ dd os)) (fun i s hs => by simp at hs) (fun h => by simp at h) (fun k hk => HROW.out [] (fun i hi => by simp at hi) k (by omega)) hbs.out (fun i hi => by simp at hi) IH.out)
   have cP2 : ∀ dd os, Calls Tryz.prog 33 #[.agg #[v0, v1, v2, v3, v4, v5, v6]] (Sort.grow (redrawn (w.alloc (.cells #[.int .i64 t.kind, .string t.pkg, .int .i64 t.major, .string t.mod, .string t.name, .slice An t.names.length cn, .slice (some ⟨g, o, none⟩) t.subs.length cs] 55)) dd) os) fun e w'' => e = .returned (.string (tB s)) /\ ∃ pp : Regrown, w'' = Sort.grow (redrawn (w.alloc (.cells #[.int .i64 t.kind, .string t.pkg, .int .i64 t.major, .string t.mod, .string t.name, .slice An t.names.length cn, .slice (some ⟨g, o, none⟩) t.subs.length cs] 55)) pp.d) pp.os := fun dd os => Calls.regrown_of (HIH.out _ _ ⟨_, rfl, hs7.keep (below_regrown _ dd os)⟩)
   have y6 : (w.alloc (.cells #[.int .i64 t.kind, .string t.pkg, .int .i64 t.major, .string t.mod, .string t.name, .slice An t.names.length cn, .slice (some ⟨g, o, none⟩) t.subs.length cs] 55)).cell? ⟨w.heap.size, 6, none⟩ = some (.slice (some ⟨g, o, none⟩) t.subs.length cs) := by go_simp
   have p0 := cell_regrown h0;have p1 := cell_regrown h1;have p2 := cell_regrown h2;have p3 := cell_regrown h3;have p4 := cell_regrown h4;have p5 := cell_regrown h5;have p6 := cell_regrown h6;have p7 := cell_regrown y6;generalize hnn : t.subs.length = n at *
   have s1 : IntKind.i64.wrap ((n : Int) - 1) = (n : Int) - 1 := IntWalk.i64_in _ (by omega);have s2 : 0 <= (n : Int) - 1 := by omega
   have s3 : ((n : Int) - 1).toNat = n - 1 := by omega
   have b1 : (t.kind == 1) = false := by rw [hx]; rfl
   have b2 : (t.kind == 2) = false := by rw [hx]; rfl
   have b3 : (t.kind == 3) = false := by rw [hx]; rfl
   have b4 : (t.kind == 4) = false := by rw [hx]; rfl
   have b5 : (t.kind == 5) = false := by rw [hx]; rfl
   have b6 : (t.kind == 6) = false := by rw [hx]; rfl
   have b7 : (t.kind == 7) = true := by rw [hx]; rfl
   clear hx h0 h1 h2 h3 h4 h5 h6 y6 hs hs7 bs bt bz br HSH;go_enter Tryz.func33, Tryz.ntmps33
   go_wp2_with fail
   refine wp_region_quiet_below (by kernel_rfl) (by kernel_rfl) ?_;repeat (any_goals (first | go_big_quiet_step (first | (with_reducible exact cP1 _ _) | (with_reducible exact cP2 _ _)) | quiet_step (first | (with_reducible exact cP1 _ _) | (with_reducible exact cP2 _ _))))
   refine wpQuiet_nil ?_;intro _ hw';obtain ⟨⟨dq, osq⟩, hw''⟩ := hw';subst hw'';have hb3 := below_regrown (w.alloc (.cells #[.int .i64 t.kind, .string t.pkg, .int .i64 t.major, .string t.mod, .string t.name, .slice An t.names.length cn, .slice (some ⟨g, o, none⟩) n cs] 55)) dq osq;go_wp2_with fail
   rw [HJ.out];go_ret;exact ⟨rfl, below_over (below_new (Below.refl _ _) _) hb3⟩
  by_cases hx : t.kind = 9
  ·as_aux_lemma =>
   have hm : (1 <= t.major /\ t.major <= 999999999) /\ t.pkg.size <= 20 /\ t.mod.size <= 20 /\ t.name.size <= 20 := by
    have h := HSH.out;unfold shapeOk at h
    rw [hx] at h;simp at h;exact ⟨⟨h.1.2, h.2⟩, small_len h.1.1.1.1.2, small_len h.1.1.1.2, great_len h.1.1.2⟩
   obtain ⟨⟨m1, m2⟩, z1, z2, z3⟩ := hm;have z4 := dec_size t.major (by omega) (by omega)
   have HJ : Hid (⟨#[60]⟩ ++ t.pkg ++ ⟨#[32]⟩ ++ dec t.major ++ ⟨#[32]⟩ ++ t.mod ++ ⟨#[32]⟩ ++ t.name ++ ⟨#[62]⟩ = tB t) := hZ (bytes_ext' (by
    rw [tB_eq t, hx]; simp [kindText]))
   have n1 : ¬ (1 + t.pkg.size > 9223372036854775807) := by omega
   have n2 : ¬ (1 + t.pkg.size + 1 > 9223372036854775807) := by omega
   have n3 : ¬ (1 + t.pkg.size + 1 + (dec t.major).size > 9223372036854775807) := by omega
   have n4 : ¬ (1 + t.pkg.size + 1 + (dec t.major).size + 1 > 9223372036854775807) := by omega
   have n5 : ¬ (1 + t.pkg.size + 1 + (dec t.major).size + 1 + t.mod.size > 9223372036854775807) := by omega
   have n6 : ¬ (1 + t.pkg.size + 1 + (dec t.major).size + 1 + t.mod.size + 1 > 9223372036854775807) := by omega
   have n7 : ¬ (1 + t.pkg.size + 1 + (dec t.major).size + 1 + t.mod.size + 1 + t.name.size > 9223372036854775807) := by omega
   have n8 : ¬ (1 + t.pkg.size + 1 + (dec t.major).size + 1 + t.mod.size + 1 + t.name.size + 1 > 9223372036854775807) := by omega
   have cD : ∀ dd os, Calls Tryz.prog 32 #[.int .i64 t.major] (Sort.grow (redrawn (w.alloc (.cells #[.int .i64 t.kind, .string t.pkg, .int .i64 t.major, .string t.mod, .string t.name, .slice An t.names.length cn, .slice As t.subs.length cs] 55)) dd) os) fun e w'' => e = .returned (.string (dec t.major)) /\ ∃ pp : Regrown, w'' = Sort.grow (redrawn (w.alloc (.cells #[.int .i64 t.kind, .string t.pkg, .int .i64 t.major, .string t.mod, .string t.name, .slice An t.names.length cn, .slice As t.subs.length cs] 55)) pp.d) pp.os := fun dd os => Calls.regrown_of (digits_any _ _ (by omega) (by omega))
   have y1 : (w.alloc (.cells #[.int .i64 t.kind, .string t.pkg, .int .i64 t.major, .string t.mod, .string t.name, .slice An t.names.length cn, .slice As t.subs.length cs] 55)).cell? ⟨w.heap.size, 1, none⟩ = some (.string t.pkg) := by go_simp
   have y2 : (w.alloc (.cells #[.int .i64 t.kind, .string t.pkg, .int .i64 t.major, .string t.mod, .string t.name, .slice An t.names.length cn, .slice As t.subs.length cs] 55)).cell? ⟨w.heap.size, 2, none⟩ = some (.int .i64 t.major) := by go_simp
   have y3 : (w.alloc (.cells #[.int .i64 t.kind, .string t.pkg, .int .i64 t.major, .string t.mod, .string t.name, .slice An t.names.length cn, .slice As t.subs.length cs] 55)).cell? ⟨w.heap.size, 3, none⟩ = some (.string t.mod) := by go_simp
   have y4 : (w.alloc (.cells #[.int .i64 t.kind, .string t.pkg, .int .i64 t.major, .string t.mod, .string t.name, .slice An t.names.length cn, .slice As t.subs.length cs] 55)).cell? ⟨w.heap.size, 4, none⟩ = some (.string t.name) := by go_simp
   have p1 := cell_regrown y1;have p2 := cell_regrown y2;have p3 := cell_regrown y3;have p4 := cell_regrown y4;have b1 : (t.kind == 1) = false := by rw [hx]; rfl
   have b2 : (t.kind == 2) = false := by rw [hx]; rfl
   have b3 : (t.kind == 3) = false := by rw [hx]; rfl
   have b4 : (t.kind == 4) = false := by rw [hx]; rfl
   have b5 : (t.kind == 5) = false := by rw [hx]; rfl
   have b6 : (t.kind == 6) = false := by rw [hx]; rfl
   have b7 : (t.kind == 7) = false := by rw [hx]; rfl
   have b9 : (t.kind == 9) = true := by rw [hx]; rfl
   clear hx y1 y2 y3 y4 HSH z4;go_enter Tryz.func33, Tryz.ntmps33
   go_wp2_with fail
   refine wp_region_quiet_below (by kernel_rfl) (by kernel_rfl) ?_;repeat (any_goals (first | go_big_quiet_step (with_reducible exact cD _ _) | quiet_step (with_reducible exact cD _ _)))
   refine wpQuiet_nil ?_;intro _ hw';obtain ⟨⟨dq, osq⟩, hw''⟩ := hw';subst hw'';have hb3 := below_regrown (w.alloc (.cells #[.int .i64 t.kind, .string t.pkg, .int .i64 t.major, .string t.mod, .string t.name, .slice An t.names.length cn, .slice As t.subs.length cs] 55)) dq osq;go_wp2_with fail
   rw [HJ.out];go_ret;exact ⟨rfl, below_over (below_new (Below.refl _ _) _) hb3⟩
  have hxs : t.kind ≠ 1 /\ t.kind ≠ 2 /\ t.kind ≠ 3 /\ t.kind ≠ 4 /\ t.kind ≠ 5 /\ t.kind ≠ 6 /\ t.kind ≠ 7 /\ t.kind ≠ 9 := by
   refine ⟨?_, ?_, ?_, ?_, ?_, ?_, ?_, ?_⟩ <;> assumption
  obtain ⟨x1, x2, x3, x4, x5, x6, x7, x9⟩ := hxs;have b1 : (t.kind == 1) = false := by simpa using x1
  have b2 : (t.kind == 2) = false := by simpa using x2
  have b3 : (t.kind == 3) = false := by simpa using x3
  have b4 : (t.kind == 4) = false := by simpa using x4
  have b5 : (t.kind == 5) = false := by simpa using x5
  have b6 : (t.kind == 6) = false := by simpa using x6
  have b7 : (t.kind == 7) = false := by simpa using x7
  have b9 : (t.kind == 9) = false := by simpa using x9
  have h8 : t.kind = 8 := by
   have h := HSH.out;unfold shapeOk at h
   rw [if_neg (by omega), if_neg x4, if_neg x5, if_neg x6, if_neg x7] at h;by_cases e : t.kind = 8
   ·exact e
   ·rw [if_neg e, if_neg x9] at h; cases h
  have hm : t.mod.size <= 20 /\ t.name.size <= 20 := by
   have h := HSH.out;unfold shapeOk at h
   rw [h8] at h;simp [emptyB] at h
   have hz8 : t.mod.size <= 20 := by
    rcases h.2 with h | h
    ·exact small_len h
    ·rw [h]; exact Nat.zero_le _
   exact ⟨hz8, great_len h.1.2⟩
  obtain ⟨z1, z2⟩ := hm;by_cases hmod : t.mod.size = 0
  ·as_aux_lemma =>
   obtain ⟨e1, e2⟩ : t.mod.toList = [] /\ t.mod.toList.isEmpty = true := by
    have hl : t.mod.data.toList = [] := by rw [<- List.length_eq_zero_iff, len_size]; exact hmod
    have g1 : t.mod.toList = [] := by rw [Lib.toList_data, hl]
    exact ⟨g1, by rw [g1]; rfl⟩
   have HJ : Hid (tB t = t.name) := hZ (bytes_ext' (by rw [tB_eq t, h8]; simp [kindText, hmod]));rw [HJ.out];clear x1 x2 x3 x4 x5 x6 x7 x9 h8 hmod HSH;go_enter Tryz.func33, Tryz.ntmps33
   go_wp2_with fail
   go_ret;exact ⟨rfl, below_new (Below.refl _ _) _⟩
  ·as_aux_lemma =>
   obtain ⟨e1, e2⟩ : ¬ t.mod.toList = [] /\ t.mod.toList.isEmpty = false := by
    have hl : t.mod.data.toList ≠ [] := by intro e; apply hmod; rw [<- len_size, e]; rfl
    have g1 : ¬ t.mod.toList = [] := by rw [Lib.toList_data]; exact hl
    exact ⟨g1, by simpa using g1⟩
   have HJ : Hid (t.mod ++ ⟨#[46]⟩ ++ t.name = tB t) := hZ (bytes_ext' (by rw [tB_eq t, h8]; simp [kindText, hmod]));have n1 : ¬ (t.mod.size + 1 > 9223372036854775807) := by omega
   have n2 : ¬ (t.mod.size + 1 + t.name.size > 9223372036854775807) := by omega
   clear x1 x2 x3 x4 x5 x6 x7 x9 h8 hmod HSH;go_enter Tryz.func33, Tryz.ntmps33
   go_wp2_with fail
   rw [HJ.out];go_ret;exact ⟨rfl, below_new (Below.refl _ _) _⟩
theorem mayT_bd {t : Ty} (h : mayT t = true) : allOk t = true /\ many t <= 500 /\ (tB t).size <= 62000 := by
  unfold mayT at h
  simp only [Bool.and_eq_true, decide_eq_true_eq] at h;have h1 := text_len t h.1.1;have h2 : (tB t).size = (textT t).length := by rw [<- len_size]; unfold tB; simp
  exact ⟨h.1.1, h.1.2, by have := h.1.2; omega⟩
theorem textI_len (xs : List Im) (h : ∀ x ∈ xs, mayI x = true) : (textI xs).length <= 120 * xs.length := by
  induction xs with
  | nil => simp [textI]
  | cons x xs ih =>
    have h1 := txI_size (h x (by simp));have h2 := ih (fun y hy => h y (by simp [hy]));simp only [textI, List.length_append, List.length_cons, len_size];omega
end Go.Proofs.YteecgiebimdbhaaGreatDoor
namespace Go.Proofs.YteecgiebimdbhaaGreatDoor
open Go.RowKit
open M
def fewB (t : Ty) : Bool := decide (0 <= fewT t 3000)
theorem few_small {t : Ty} (h : fewB t = true) : many t <= 3000 := by
  have h0 : 0 <= fewT t 3000 := by simpa [fewB] using h
  have a := few_many t 3000 h0;omega
theorem fewB_any (t : Ty) (v : Value) (w : World) (hv : TyV w v t) :
    Calls Tryz.prog 21 #[v] w fun e w' => e = .returned (.bool (fewB t)) /\ Below w.heap.size w w' := by
  have HV := hZ hv;obtain ⟨l, rfl, hT⟩ := hv;obtain ⟨An, cn, As, cs, rfl, -, -, -, -, -, -, -⟩ := hT.parts;clear hT;have bd := few_bd t 3000 (by omega);unfold fewB
  go_enter Tryz.func21, Tryz.ntmps21
  go_wp2_with fail
  refine (few_any _ t (Nat.le_refl _) 3000 (by omega) (by omega) _ _ (HV.out.below (by first | exact below_new (Below.refl _ _) _ | exact Below.refl _ _))).mono ?_; rintro e w1 ⟨rfl, hb1⟩
  go_wp2_with fail
  go_ret;refine ⟨rfl, ?_⟩;first | exact hb1 | exact (below_new (Below.refl _ _) _).trans (hb1.mono (by simp))
end Go.Proofs.YteecgiebimdbhaaGreatDoor
namespace Go.Proofs.YteecgiebimdbhaaGreatDoor
open Go.RowKit
open Go.Sort
open M
theorem all_one {α : Type} (p : α -> Bool) (l : List α) (j : Nat) (x : α) (h : l[j]? = some x) (hp : p x = false) : l.all p = false := by
  rw [List.all_eq_false];exact ⟨x, List.mem_of_getElem? h, by rw [hp]; decide⟩
end Go.Proofs.YteecgiebimdbhaaGreatDoor
namespace Go.Proofs.YteecgiebimdbhaaGreatDoor
open Go
open M
structure Ln where
  kind : Int
  mod : ByteArray
  name : ByteArray
  typ : Ty
structure Us where
  imps : List Im
  lines : List Ln
def kUse : List UInt8 := [117, 115, 101]
def kIs : List UInt8 := [105, 115]
def mayLn (l : Ln) : Bool := smallB l.mod.data.toList && (mayT l.typ && ((l.kind == 1) && smallB l.name.data.toList || (l.kind == 2) && greatB l.name.data.toList))
def mayU (u : Us) : Bool := decide (u.imps.length <= 20) && (decide (u.lines.length <= 60) && (u.imps.all mayI && u.lines.all mayLn))
def fewLn (l : Ln) : Bool := fewB l.typ && decide (l.name.size <= 500)
def fewU (u : Us) : Bool := decide (u.imps.length <= 100) && (decide (u.lines.length <= 100) && u.lines.all fewLn)
theorem mayLn_sorts {l : Ln} (h : mayLn l = true) : smallB l.mod.data.toList = true /\ mayT l.typ = true /\ ((l.kind = 1 /\ smallB l.name.data.toList = true) \/ (l.kind = 2 /\ greatB l.name.data.toList = true)) := by
  unfold mayLn at h
  simp only [Bool.and_eq_true, Bool.or_eq_true, beq_iff_eq] at h;exact h
theorem mayU_parts {u : Us} (h : mayU u = true) : u.imps.length <= 20 /\ u.lines.length <= 60 /\ (∀ x ∈ u.imps, mayI x = true) /\ ∀ l ∈ u.lines, mayLn l = true := by
  unfold mayU at h
  simp only [Bool.and_eq_true, decide_eq_true_eq, List.all_eq_true] at h;exact ⟨h.1, h.2.1, h.2.2.1, h.2.2.2⟩
def txL (l : Ln) : ByteArray :=
  if l.kind = 1 then ⟨#[117, 115, 101, 32]⟩ ++ l.mod ++ ⟨#[46]⟩ ++ l.name ++ ⟨#[32, 58, 32]⟩ ++ tB l.typ ++ ⟨#[10]⟩
  else ⟨#[105, 115, 32]⟩ ++ l.mod ++ ⟨#[46]⟩ ++ l.name ++ ⟨#[32, 61, 32]⟩ ++ tB l.typ ++ ⟨#[10]⟩
def textL : List Ln -> List UInt8
  | [] => []
  | x :: xs => (txL x).data.toList ++ textL xs
theorem textL_snoc (xs : List Ln) (x : Ln) : textL (xs ++ [x]) = textL xs ++ (txL x).data.toList := by
  induction xs with
  | nil => simp [textL]
  | cons y ys ih => simp [textL, ih]
theorem textL_take (xs : List Ln) (k : Nat) (x : Ln) (h : xs[k]? = some x) : textL (xs.take (k + 1)) = textL (xs.take k) ++ (txL x).data.toList := by
  rw [List.take_add_one, h]; exact textL_snoc _ _
def textU (u : Us) : List UInt8 := textI u.imps ++ textL u.lines
def typL (k : Int) (m s : ByteArray) : Res Ty -> Res Ln
  | .err b j => .err b j
  | .ok t j _ => .ok ⟨k, m, s, t⟩ j 0
def lineR (S : Toks) (k : Int) (i : Nat) : Res Ln :=
  if S.small i = false then .err 2 i
  else if S.sign (i + 1) [46] = false then .err 2 (i + 1)
  else if k = 1 then (if S.small (i + 2) = false then .err 2 (i + 2) else if S.sign (i + 3) [58] = false then .err 2 (i + 3) else typL 1 (S.T i) (S.T (i + 2)) (atR S (i + 4)))
  else (if S.great (i + 2) = false then .err 2 (i + 2) else if S.sign (i + 3) [61] = false then .err 2 (i + 3) else typL 2 (S.T i) (S.T (i + 2)) (atR S (i + 4)))
def lineK (S : Toks) (i : Nat) : Int := if keyS S i kUse = true then 1 else if keyS S i kIs = true then 2 else 0
def linesR (S : Toks) : Nat -> Nat -> List Ln -> Res (List Ln)
  | 0, _, _ => .err 99 0
  | f + 1, i, l =>
    if lineK S i = 0 then .ok l i 0
    else if 60 <= l.length then .err 3 i
    else match lineR S (lineK S i) (i + 1) with
      | .err b j => .err b j
      | .ok x j _ => linesR S f j (l ++ [x])
def endU (S : Toks) (l : List Im) : Res (List Ln) -> Res Us
  | .err b j => .err b j
  | .ok ls j _ => if j < S.n then .err 2 j else .ok ⟨l, ls⟩ j 0
def restU (S : Toks) : Res (List Im) -> Res Us
  | .err b j => .err b j
  | .ok l j _ => endU S l (linesR S 61 j [])
def usesR (S : Toks) : Res Us := restU S (impsR S 21 0 [])
def parU (s : ByteArray) : Res Us := if (fin s 0 []).2 < 0 then usesR (tkS (fin s 0 []).1) else .err 2 (fin s 0 []).2.toNat
theorem parU_yes {s : ByteArray} {ts : List Tok} (h : fin s 0 [] = (ts, -1)) : parU s = usesR (tkS ts) := by unfold parU; rw [h]; rfl
theorem parU_no {s : ByteArray} {k : Nat} (h : fin s 0 [] = ([], (k : Int))) : parU s = .err 2 k := by unfold parU; rw [h]; rw [if_neg (by show ¬ (k : Int) < 0; omega)]; rfl
end Go.Proofs.YteecgiebimdbhaaGreatDoor
namespace Go.Proofs.YteecgiebimdbhaaGreatDoor
open Go.RowKit
open M
structure Cp1 (w : World) (t : Ty) (As : Option Addr) (n cs : Nat) (A5 : Option Addr) (c5 : Nat) (wr : World) : Prop where
  below : Below w.heap.size w wr
  box : wr.heap[w.heap.size]? = some (.cells #[.int .i64 t.kind, .string t.pkg, .int .i64 t.major, .string t.mod, .string t.name, .slice A5 t.names.length c5, .slice As n cs] 55 (0, 0))
  res : wr.heap[w.heap.size + 1]? = some (.cells #[.int .i64 0, .string ⟨#[]⟩, .int .i64 0, .string ⟨#[]⟩, .string ⟨#[]⟩, .slice none 0 0, .slice none 0 0] 55 (0, 0))
  own : wr.ownsRow (w.heap.size + 2) 9 1 (.slice A5 t.names.length c5) t.names.length (t.names.map Value.string)
end Go.Proofs.YteecgiebimdbhaaGreatDoor
namespace Go.Proofs.YteecgiebimdbhaaGreatDoor
open Go.RowKit
open Go.Sort
open M
theorem own_slice {w : World} {base : Nat} {e : TypeId} {z : Nat} {v : Value} {n : Nat} {xs : List Value} (h : w.ownsRow base e z v n xs) : ∃ A c, v = .slice A n c := by
  rcases h.2 with ⟨rfl, h0⟩ | ⟨g, cap, cur, rfl, -⟩
  · exact ⟨none, 0, by rw [h0]⟩
  · exact ⟨_, _, rfl⟩
end Go.Proofs.YteecgiebimdbhaaGreatDoor
