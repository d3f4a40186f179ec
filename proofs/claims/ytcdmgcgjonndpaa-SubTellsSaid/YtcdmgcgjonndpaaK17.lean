/-
  Several texts in one:  ·  · 
-/
import Derived.Test.YtcdmgcgjonndpaaK16
import Derived.Below
import Derived.Carry
import Derived.ChangeSame
import Derived.WideKeyArgs
import Derived.ProofKit
import Derived.Test.YtcdmgcgjonndpaaRows
import Derived.Lib.SmallJoins
import Derived.OpenShut
/-  -/
namespace Go.Proofs.Ytcdmgcgjonndpaa
open Go Go.RowKit Go.Shelf
open Go.Sort
open M
theorem okL_no {t : Ty} (hf : fewB t = true) (h : okL t = false) : okT t = false := by
 unfold okL at h
 rw [hf] at h
 simpa using h
set_option maxRecDepth 100000 in
set_option maxHeartbeats 16000000 in
theorem subTells_any (a b : Ty) (la lb : List Value) (w : World) (hTa : TyAt w la a) (hTb : TyAt w lb b) :
  Calls Try.prog 3 #[.agg la.toArray, .agg lb.toArray] w fun e w' => e = .returned (.bool true) ∧ Below w.heap.size w w' := by
 obtain ⟨p, hp⟩ : ∃ p, p = fewB a := ⟨_, rfl⟩
 have Hp := Lib.hid hp
 clear hp
 obtain ⟨q, hq⟩ : ∃ q, q = fewB b := ⟨_, rfl⟩
 have Hq := Lib.hid hq
 clear hq
 obtain ⟨r, hr⟩ : ∃ r, r = okL a := ⟨_, rfl⟩
 have Hr := Lib.hid hr
 clear hr
 obtain ⟨s, hs⟩ : ∃ s, s = okL b := ⟨_, rfl⟩
 have Hs := Lib.hid hs
 clear hs
 have HTa := Lib.hid hTa
 have HTb := Lib.hid hTb
 obtain ⟨An, Ac, As, Ad, rfl, -⟩ := hTa.parts
 obtain ⟨Bn, Bc, Bs, Bd, rfl, -⟩ := hTb.parts
 obtain ⟨U0, hU0⟩ : ∃ U0, U0 = w.alloc (.cells #[.int .i64 a.kind, .string a.pkg, .int .i64 a.major, .string a.mod, .string a.name, .slice An a.names.length Ac, .slice As a.subs.length Ad] 25) := ⟨_, rfl⟩
 obtain ⟨U1, hU1⟩ : ∃ U1, U1 = U0.alloc (.cells #[.int .i64 b.kind, .string b.pkg, .int .i64 b.major, .string b.mod, .string b.name, .slice Bn b.names.length Bc, .slice Bs b.subs.length Bd] 25) := ⟨_, rfl⟩
 have s0 : U0.heap.size = w.heap.size + 1 := by rw [hU0]; simp
 have B0 : Below w.heap.size w U0 := by rw [hU0]; exact below_new (Below.refl _ _) _
 have O0 : U0.heap[w.heap.size]? = some (.cells #[.int .i64 a.kind, .string a.pkg, .int .i64 a.major, .string a.mod, .string a.name, .slice An a.names.length Ac, .slice As a.subs.length Ad] 25 (0, 0)) := by rw [hU0]; exact heap_alloc_new w _
 have s1 : U1.heap.size = w.heap.size + 1 + 1 := by rw [hU1]; simp [s0]
 have B1 : Below U0.heap.size U0 U1 := by rw [hU1]; exact below_new (Below.refl _ _) _
 have O1 : U1.heap[w.heap.size + 1]? = some (.cells #[.int .i64 b.kind, .string b.pkg, .int .i64 b.major, .string b.mod, .string b.name, .slice Bn b.names.length Bc, .slice Bs b.subs.length Bd] 25 (0, 0)) := by rw [hU1, ← s0]; exact heap_alloc_new U0 _
 have BW : Below w.heap.size w U1 := below_over B0 B1
 have BXa : Hid (w.heap.size < U1.heap.size ∧ U1.heap[w.heap.size]? = some (.cells #[.int .i64 a.kind, .string a.pkg, .int .i64 a.major, .string a.mod, .string a.name, .slice An a.names.length Ac, .slice As a.subs.length Ad] 25 (0, 0))) := Lib.hid ⟨by omega, (B1.block _ (by omega)).trans (O0)⟩
 have KTa := Lib.hid (HTa.out.keep BW)
 have BXb : Hid (w.heap.size + 1 < U1.heap.size ∧ U1.heap[w.heap.size + 1]? = some (.cells #[.int .i64 b.kind, .string b.pkg, .int .i64 b.major, .string b.mod, .string b.name, .slice Bn b.names.length Bc, .slice Bs b.subs.length Bd] 25 (0, 0))) := Lib.hid ⟨by omega, O1⟩
 have KTb := Lib.hid (HTb.out.keep BW)
 have HW : Hid ((w.alloc (.cells #[.int .i64 a.kind, .string a.pkg, .int .i64 a.major, .string a.mod, .string a.name, .slice An a.names.length Ac, .slice As a.subs.length Ad] 25)).alloc (.cells #[.int .i64 b.kind, .string b.pkg, .int .i64 b.major, .string b.mod, .string b.name, .slice Bn b.names.length Bc, .slice Bs b.subs.length Bd] 25) = U1) := Lib.hid (by rw [hU1, hU0])
 have HB := Lib.hid BW
 clear hU0 s0 B0 O0 hU1 s1 B1 O1 BW hTa hTb
 go_enter Try.func3, Try.ntmps3
 go_upto_region 1 with fail
 rw [HW.out]
 clear HW
 have CT := Lib.hid (up9_any U1)
 go_wp2_with fail
 refine CT.out.mono ?_; rintro e w1 ⟨rfl, hb⟩
 clear CT
 replace BXa := Lib.hid (box_step BXa.out hb)
 replace BXb := Lib.hid (box_step BXb.out hb)
 replace KTa := Lib.hid (KTa.out.keep hb)
 replace KTb := Lib.hid (KTb.out.keep hb)
 replace HB := Lib.hid (below_over HB.out hb)
 clear hb
 have CT := Lib.hid (fewB_any a (.agg #[.int .i64 a.kind, .string a.pkg, .int .i64 a.major, .string a.mod, .string a.name, .slice An a.names.length Ac, .slice As a.subs.length Ad]) w1 ⟨_, rfl, KTa.out⟩)
 rw [← Hp.out] at CT
 obtain ⟨-, Xa⟩ := BXa.out
 have xa0 := Lib.cell_of_heap Xa 0
 have xa1 := Lib.cell_of_heap Xa 1
 have xa2 := Lib.cell_of_heap Xa 2
 have xa3 := Lib.cell_of_heap Xa 3
 have xa4 := Lib.cell_of_heap Xa 4
 have xa5 := Lib.cell_of_heap Xa 5
 have xa6 := Lib.cell_of_heap Xa 6
 simp at xa0 xa1 xa2 xa3 xa4 xa5 xa6
 clear Xa
 go_wp2_with fail
 refine CT.out.mono ?_; rintro e w2 ⟨rfl, hb⟩
 clear xa0 xa1 xa2 xa3 xa4 xa5 xa6
 clear CT
 replace BXa := Lib.hid (box_step BXa.out hb)
 replace BXb := Lib.hid (box_step BXb.out hb)
 replace KTa := Lib.hid (KTa.out.keep hb)
 replace KTb := Lib.hid (KTb.out.keep hb)
 replace HB := Lib.hid (below_over HB.out hb)
 clear hb
 have CT := Lib.hid (fewB_any b (.agg #[.int .i64 b.kind, .string b.pkg, .int .i64 b.major, .string b.mod, .string b.name, .slice Bn b.names.length Bc, .slice Bs b.subs.length Bd]) w2 ⟨_, rfl, KTb.out⟩)
 rw [← Hq.out] at CT
 obtain ⟨-, Xb⟩ := BXb.out
 have xb0 := Lib.cell_of_heap Xb 0
 have xb1 := Lib.cell_of_heap Xb 1
 have xb2 := Lib.cell_of_heap Xb 2
 have xb3 := Lib.cell_of_heap Xb 3
 have xb4 := Lib.cell_of_heap Xb 4
 have xb5 := Lib.cell_of_heap Xb 5
 have xb6 := Lib.cell_of_heap Xb 6
 simp at xb0 xb1 xb2 xb3 xb4 xb5 xb6
 clear Xb
 go_wp2_with fail
 refine CT.out.mono ?_; rintro e w3 ⟨rfl, hb⟩
 clear xb0 xb1 xb2 xb3 xb4 xb5 xb6
 clear CT
 replace BXa := Lib.hid (box_step BXa.out hb)
 replace BXb := Lib.hid (box_step BXb.out hb)
 replace KTa := Lib.hid (KTa.out.keep hb)
 replace KTb := Lib.hid (KTb.out.keep hb)
 replace HB := Lib.hid (below_over HB.out hb)
 clear hb
 cases p with
 | false =>
  go_wp2_with fail
  go_ret
  exact ⟨rfl, HB.out⟩
 | true =>
  cases q with
  | false =>
   go_wp2_with fail
   go_ret
   exact ⟨rfl, HB.out⟩
  | true =>
   have CT := Lib.hid (lplain9_any a [.int .i64 a.kind, .string a.pkg, .int .i64 a.major, .string a.mod, .string a.name, .slice An a.names.length Ac, .slice As a.subs.length Ad] w3 KTa.out)
   rw [← Hr.out] at CT
   obtain ⟨-, Xa⟩ := BXa.out
   have xa0 := Lib.cell_of_heap Xa 0
   have xa1 := Lib.cell_of_heap Xa 1
   have xa2 := Lib.cell_of_heap Xa 2
   have xa3 := Lib.cell_of_heap Xa 3
   have xa4 := Lib.cell_of_heap Xa 4
   have xa5 := Lib.cell_of_heap Xa 5
   have xa6 := Lib.cell_of_heap Xa 6
   simp at xa0 xa1 xa2 xa3 xa4 xa5 xa6
   clear Xa
   go_wp2_with fail
   refine CT.out.mono ?_; rintro e w4 ⟨rfl, hb⟩
   clear xa0 xa1 xa2 xa3 xa4 xa5 xa6
   clear CT
   replace BXa := Lib.hid (box_step BXa.out hb)
   replace BXb := Lib.hid (box_step BXb.out hb)
   replace KTa := Lib.hid (KTa.out.keep hb)
   replace KTb := Lib.hid (KTb.out.keep hb)
   replace HB := Lib.hid (below_over HB.out hb)
   clear hb
   have CT := Lib.hid (lplain9_any b [.int .i64 b.kind, .string b.pkg, .int .i64 b.major, .string b.mod, .string b.name, .slice Bn b.names.length Bc, .slice Bs b.subs.length Bd] w4 KTb.out)
   rw [← Hs.out] at CT
   obtain ⟨-, Xb⟩ := BXb.out
   have xb0 := Lib.cell_of_heap Xb 0
   have xb1 := Lib.cell_of_heap Xb 1
   have xb2 := Lib.cell_of_heap Xb 2
   have xb3 := Lib.cell_of_heap Xb 3
   have xb4 := Lib.cell_of_heap Xb 4
   have xb5 := Lib.cell_of_heap Xb 5
   have xb6 := Lib.cell_of_heap Xb 6
   simp at xb0 xb1 xb2 xb3 xb4 xb5 xb6
   clear Xb
   go_wp2_with fail
   refine CT.out.mono ?_; rintro e w5 ⟨rfl, hb⟩
   clear xb0 xb1 xb2 xb3 xb4 xb5 xb6
   clear CT
   replace BXa := Lib.hid (box_step BXa.out hb)
   replace BXb := Lib.hid (box_step BXb.out hb)
   replace KTa := Lib.hid (KTa.out.keep hb)
   replace KTb := Lib.hid (KTb.out.keep hb)
   replace HB := Lib.hid (below_over HB.out hb)
   clear hb
   cases r with
   | false =>
    have NO : Hid (subP a b = false ∧ subP b a = false) := Lib.hid (by have h := okL_no Hp.out.symm Hr.out.symm; rw [subP_ok, subP_ok, h]; simp)
    have CT := Lib.hid (subC_any9 a b [.int .i64 a.kind, .string a.pkg, .int .i64 a.major, .string a.mod, .string a.name, .slice An a.names.length Ac, .slice As a.subs.length Ad] [.int .i64 b.kind, .string b.pkg, .int .i64 b.major, .string b.mod, .string b.name, .slice Bn b.names.length Bc, .slice Bs b.subs.length Bd] w5 may9 may9 KTa.out KTb.out)
    rw [NO.out.1] at CT
    obtain ⟨-, Xa⟩ := BXa.out
    have xa0 := Lib.cell_of_heap Xa 0
    have xa1 := Lib.cell_of_heap Xa 1
    have xa2 := Lib.cell_of_heap Xa 2
    have xa3 := Lib.cell_of_heap Xa 3
    have xa4 := Lib.cell_of_heap Xa 4
    have xa5 := Lib.cell_of_heap Xa 5
    have xa6 := Lib.cell_of_heap Xa 6
    obtain ⟨-, Xb⟩ := BXb.out
    have xb0 := Lib.cell_of_heap Xb 0
    have xb1 := Lib.cell_of_heap Xb 1
    have xb2 := Lib.cell_of_heap Xb 2
    have xb3 := Lib.cell_of_heap Xb 3
    have xb4 := Lib.cell_of_heap Xb 4
    have xb5 := Lib.cell_of_heap Xb 5
    have xb6 := Lib.cell_of_heap Xb 6
    simp at xa0 xa1 xa2 xa3 xa4 xa5 xa6 xb0 xb1 xb2 xb3 xb4 xb5 xb6
    clear Xa Xb
    go_wp2_with fail
    refine CT.out.mono ?_; rintro e w6 ⟨rfl, hb⟩
    clear xa0 xa1 xa2 xa3 xa4 xa5 xa6 xb0 xb1 xb2 xb3 xb4 xb5 xb6
    clear CT
    replace BXa := Lib.hid (box_step BXa.out hb)
    replace BXb := Lib.hid (box_step BXb.out hb)
    replace KTa := Lib.hid (KTa.out.keep hb)
    replace KTb := Lib.hid (KTb.out.keep hb)
    replace HB := Lib.hid (below_over HB.out hb)
    clear hb
    have CT := Lib.hid (subC_any9 b a [.int .i64 b.kind, .string b.pkg, .int .i64 b.major, .string b.mod, .string b.name, .slice Bn b.names.length Bc, .slice Bs b.subs.length Bd] [.int .i64 a.kind, .string a.pkg, .int .i64 a.major, .string a.mod, .string a.name, .slice An a.names.length Ac, .slice As a.subs.length Ad] w6 may9 may9 KTb.out KTa.out)
    rw [NO.out.2] at CT
    obtain ⟨-, Xb⟩ := BXb.out
    have xb0 := Lib.cell_of_heap Xb 0
    have xb1 := Lib.cell_of_heap Xb 1
    have xb2 := Lib.cell_of_heap Xb 2
    have xb3 := Lib.cell_of_heap Xb 3
    have xb4 := Lib.cell_of_heap Xb 4
    have xb5 := Lib.cell_of_heap Xb 5
    have xb6 := Lib.cell_of_heap Xb 6
    obtain ⟨-, Xa⟩ := BXa.out
    have xa0 := Lib.cell_of_heap Xa 0
    have xa1 := Lib.cell_of_heap Xa 1
    have xa2 := Lib.cell_of_heap Xa 2
    have xa3 := Lib.cell_of_heap Xa 3
    have xa4 := Lib.cell_of_heap Xa 4
    have xa5 := Lib.cell_of_heap Xa 5
    have xa6 := Lib.cell_of_heap Xa 6
    simp at xb0 xb1 xb2 xb3 xb4 xb5 xb6 xa0 xa1 xa2 xa3 xa4 xa5 xa6
    clear Xb Xa
    go_wp2_with fail
    refine CT.out.mono ?_; rintro e w7 ⟨rfl, hb⟩
    clear xb0 xb1 xb2 xb3 xb4 xb5 xb6 xa0 xa1 xa2 xa3 xa4 xa5 xa6
    clear CT
    replace BXa := Lib.hid (box_step BXa.out hb)
    replace BXb := Lib.hid (box_step BXb.out hb)
    replace KTa := Lib.hid (KTa.out.keep hb)
    replace KTb := Lib.hid (KTb.out.keep hb)
    replace HB := Lib.hid (below_over HB.out hb)
    clear hb
    go_wp2_with fail
    go_ret
    exact ⟨rfl, HB.out⟩
   | true =>
    cases s with
    | false =>
     have NO : Hid (subP a b = false ∧ subP b a = false) := Lib.hid (by have h := okL_no Hq.out.symm Hs.out.symm; rw [subP_ok, subP_ok, h]; simp)
     have CT := Lib.hid (subC_any9 a b [.int .i64 a.kind, .string a.pkg, .int .i64 a.major, .string a.mod, .string a.name, .slice An a.names.length Ac, .slice As a.subs.length Ad] [.int .i64 b.kind, .string b.pkg, .int .i64 b.major, .string b.mod, .string b.name, .slice Bn b.names.length Bc, .slice Bs b.subs.length Bd] w5 may9 may9 KTa.out KTb.out)
     rw [NO.out.1] at CT
     obtain ⟨-, Xa⟩ := BXa.out
     have xa0 := Lib.cell_of_heap Xa 0
     have xa1 := Lib.cell_of_heap Xa 1
     have xa2 := Lib.cell_of_heap Xa 2
     have xa3 := Lib.cell_of_heap Xa 3
     have xa4 := Lib.cell_of_heap Xa 4
     have xa5 := Lib.cell_of_heap Xa 5
     have xa6 := Lib.cell_of_heap Xa 6
     obtain ⟨-, Xb⟩ := BXb.out
     have xb0 := Lib.cell_of_heap Xb 0
     have xb1 := Lib.cell_of_heap Xb 1
     have xb2 := Lib.cell_of_heap Xb 2
     have xb3 := Lib.cell_of_heap Xb 3
     have xb4 := Lib.cell_of_heap Xb 4
     have xb5 := Lib.cell_of_heap Xb 5
     have xb6 := Lib.cell_of_heap Xb 6
     simp at xa0 xa1 xa2 xa3 xa4 xa5 xa6 xb0 xb1 xb2 xb3 xb4 xb5 xb6
     clear Xa Xb
     go_wp2_with fail
     refine CT.out.mono ?_; rintro e w6 ⟨rfl, hb⟩
     clear xa0 xa1 xa2 xa3 xa4 xa5 xa6 xb0 xb1 xb2 xb3 xb4 xb5 xb6
     clear CT
     replace BXa := Lib.hid (box_step BXa.out hb)
     replace BXb := Lib.hid (box_step BXb.out hb)
     replace KTa := Lib.hid (KTa.out.keep hb)
     replace KTb := Lib.hid (KTb.out.keep hb)
     replace HB := Lib.hid (below_over HB.out hb)
     clear hb
     have CT := Lib.hid (subC_any9 b a [.int .i64 b.kind, .string b.pkg, .int .i64 b.major, .string b.mod, .string b.name, .slice Bn b.names.length Bc, .slice Bs b.subs.length Bd] [.int .i64 a.kind, .string a.pkg, .int .i64 a.major, .string a.mod, .string a.name, .slice An a.names.length Ac, .slice As a.subs.length Ad] w6 may9 may9 KTb.out KTa.out)
     rw [NO.out.2] at CT
     obtain ⟨-, Xb⟩ := BXb.out
     have xb0 := Lib.cell_of_heap Xb 0
     have xb1 := Lib.cell_of_heap Xb 1
     have xb2 := Lib.cell_of_heap Xb 2
     have xb3 := Lib.cell_of_heap Xb 3
     have xb4 := Lib.cell_of_heap Xb 4
     have xb5 := Lib.cell_of_heap Xb 5
     have xb6 := Lib.cell_of_heap Xb 6
     obtain ⟨-, Xa⟩ := BXa.out
     have xa0 := Lib.cell_of_heap Xa 0
     have xa1 := Lib.cell_of_heap Xa 1
     have xa2 := Lib.cell_of_heap Xa 2
     have xa3 := Lib.cell_of_heap Xa 3
     have xa4 := Lib.cell_of_heap Xa 4
     have xa5 := Lib.cell_of_heap Xa 5
     have xa6 := Lib.cell_of_heap Xa 6
     simp at xb0 xb1 xb2 xb3 xb4 xb5 xb6 xa0 xa1 xa2 xa3 xa4 xa5 xa6
     clear Xb Xa
     go_wp2_with fail
     refine CT.out.mono ?_; rintro e w7 ⟨rfl, hb⟩
     clear xb0 xb1 xb2 xb3 xb4 xb5 xb6 xa0 xa1 xa2 xa3 xa4 xa5 xa6
     clear CT
     replace BXa := Lib.hid (box_step BXa.out hb)
     replace BXb := Lib.hid (box_step BXb.out hb)
     replace KTa := Lib.hid (KTa.out.keep hb)
     replace KTb := Lib.hid (KTb.out.keep hb)
     replace HB := Lib.hid (below_over HB.out hb)
     clear hb
     go_wp2_with fail
     go_ret
     exact ⟨rfl, HB.out⟩
    | true =>
     have OKa := Lib.hid (okL_ok Hr.out.symm)
     have OKb := Lib.hid (okL_ok Hs.out.symm)
     obtain ⟨x, hx⟩ : ∃ x, x = subB a b := ⟨_, rfl⟩
     have Hx := Lib.hid hx
     clear hx
     obtain ⟨y, hy⟩ : ∃ y, y = subB b a := ⟨_, rfl⟩
     have Hy := Lib.hid hy
     clear hy
     have c1 : ∀ dd os, Calls Try.prog 11 #[.agg #[.int .i64 a.kind, .string a.pkg, .int .i64 a.major, .string a.mod, .string a.name, .slice An a.names.length Ac, .slice As a.subs.length Ad], .agg #[.int .i64 b.kind, .string b.pkg, .int .i64 b.major, .string b.mod, .string b.name, .slice Bn b.names.length Bc, .slice Bs b.subs.length Bd]] (Sort.grow (redrawn w5 dd) os) fun e w'' => e = .returned (.bool x) ∧ ∃ pp : Regrown, w'' = Sort.grow (redrawn w5 pp.d) pp.os := fun dd os => Calls.regrown_of (by
      have CT := subC_any9 a b [.int .i64 a.kind, .string a.pkg, .int .i64 a.major, .string a.mod, .string a.name, .slice An a.names.length Ac, .slice As a.subs.length Ad] [.int .i64 b.kind, .string b.pkg, .int .i64 b.major, .string b.mod, .string b.name, .slice Bn b.names.length Bc, .slice Bs b.subs.length Bd] (Sort.grow (redrawn w5 dd) os) may9 may9 (KTa.out.keep (below_regrown w5 dd os)) (KTb.out.keep (below_regrown w5 dd os))
      rw [subP_of OKa.out OKb.out, ← Hx.out] at CT
      exact CT)
     have c3 : ∀ dd os, Calls Try.prog 11 #[.agg #[.int .i64 b.kind, .string b.pkg, .int .i64 b.major, .string b.mod, .string b.name, .slice Bn b.names.length Bc, .slice Bs b.subs.length Bd], .agg #[.int .i64 a.kind, .string a.pkg, .int .i64 a.major, .string a.mod, .string a.name, .slice An a.names.length Ac, .slice As a.subs.length Ad]] (Sort.grow (redrawn w5 dd) os) fun e w'' => e = .returned (.bool y) ∧ ∃ pp : Regrown, w'' = Sort.grow (redrawn w5 pp.d) pp.os := fun dd os => Calls.regrown_of (by
      have CT := subC_any9 b a [.int .i64 b.kind, .string b.pkg, .int .i64 b.major, .string b.mod, .string b.name, .slice Bn b.names.length Bc, .slice Bs b.subs.length Bd] [.int .i64 a.kind, .string a.pkg, .int .i64 a.major, .string a.mod, .string a.name, .slice An a.names.length Ac, .slice As a.subs.length Ad] (Sort.grow (redrawn w5 dd) os) may9 may9 (KTb.out.keep (below_regrown w5 dd os)) (KTa.out.keep (below_regrown w5 dd os))
      rw [subP_of OKb.out OKa.out, ← Hy.out] at CT
      exact CT)
     have c2 : ∀ dd os, Calls Try.prog 12 #[.agg #[.int .i64 a.kind, .string a.pkg, .int .i64 a.major, .string a.mod, .string a.name, .slice An a.names.length Ac, .slice As a.subs.length Ad], .agg #[.int .i64 b.kind, .string b.pkg, .int .i64 b.major, .string b.mod, .string b.name, .slice Bn b.names.length Bc, .slice Bs b.subs.length Bd]] (Sort.grow (redrawn w5 dd) os) fun e w'' => e = .returned (.bool x) ∧ ∃ pp : Regrown, w'' = Sort.grow (redrawn w5 pp.d) pp.os := fun dd os => Calls.regrown_of (by
      have CT := rsub_any _ a b (Nat.le_refl _) (okT_many OKa.out) (okT_many OKb.out) (okT_good OKa.out) (okT_good OKb.out) [.int .i64 a.kind, .string a.pkg, .int .i64 a.major, .string a.mod, .string a.name, .slice An a.names.length Ac, .slice As a.subs.length Ad] [.int .i64 b.kind, .string b.pkg, .int .i64 b.major, .string b.mod, .string b.name, .slice Bn b.names.length Bc, .slice Bs b.subs.length Bd] (Sort.grow (redrawn w5 dd) os) (KTa.out.keep (below_regrown w5 dd os)) (KTb.out.keep (below_regrown w5 dd os))
      rw [← Hx.out] at CT
      exact CT)
     have c4 : ∀ dd os, Calls Try.prog 12 #[.agg #[.int .i64 b.kind, .string b.pkg, .int .i64 b.major, .string b.mod, .string b.name, .slice Bn b.names.length Bc, .slice Bs b.subs.length Bd], .agg #[.int .i64 a.kind, .string a.pkg, .int .i64 a.major, .string a.mod, .string a.name, .slice An a.names.length Ac, .slice As a.subs.length Ad]] (Sort.grow (redrawn w5 dd) os) fun e w'' => e = .returned (.bool y) ∧ ∃ pp : Regrown, w'' = Sort.grow (redrawn w5 pp.d) pp.os := fun dd os => Calls.regrown_of (by
      have CT := rsub_any _ b a (Nat.le_refl _) (okT_many OKb.out) (okT_many OKa.out) (okT_good OKb.out) (okT_good OKa.out) [.int .i64 b.kind, .string b.pkg, .int .i64 b.major, .string b.mod, .string b.name, .slice Bn b.names.length Bc, .slice Bs b.subs.length Bd] [.int .i64 a.kind, .string a.pkg, .int .i64 a.major, .string a.mod, .string a.name, .slice An a.names.length Ac, .slice As a.subs.length Ad] (Sort.grow (redrawn w5 dd) os) (KTb.out.keep (below_regrown w5 dd os)) (KTa.out.keep (below_regrown w5 dd os))
      rw [← Hy.out] at CT
      exact CT)
     obtain ⟨-, Xa⟩ := BXa.out
     have xa0 := Lib.cell_of_heap Xa 0
     have xa1 := Lib.cell_of_heap Xa 1
     have xa2 := Lib.cell_of_heap Xa 2
     have xa3 := Lib.cell_of_heap Xa 3
     have xa4 := Lib.cell_of_heap Xa 4
     have xa5 := Lib.cell_of_heap Xa 5
     have xa6 := Lib.cell_of_heap Xa 6
     obtain ⟨-, Xb⟩ := BXb.out
     have xb0 := Lib.cell_of_heap Xb 0
     have xb1 := Lib.cell_of_heap Xb 1
     have xb2 := Lib.cell_of_heap Xb 2
     have xb3 := Lib.cell_of_heap Xb 3
     have xb4 := Lib.cell_of_heap Xb 4
     have xb5 := Lib.cell_of_heap Xb 5
     have xb6 := Lib.cell_of_heap Xb 6
     simp at xa0 xa1 xa2 xa3 xa4 xa5 xa6 xb0 xb1 xb2 xb3 xb4 xb5 xb6
     clear Xa Xb
     have xa0r := cell_regrown xa0
     have xa1r := cell_regrown xa1
     have xa2r := cell_regrown xa2
     have xa3r := cell_regrown xa3
     have xa4r := cell_regrown xa4
     have xa5r := cell_regrown xa5
     have xa6r := cell_regrown xa6
     have xb0r := cell_regrown xb0
     have xb1r := cell_regrown xb1
     have xb2r := cell_regrown xb2
     have xb3r := cell_regrown xb3
     have xb4r := cell_regrown xb4
     have xb5r := cell_regrown xb5
     have xb6r := cell_regrown xb6
     clear xa0 xa1 xa2 xa3 xa4 xa5 xa6 xb0 xb1 xb2 xb3 xb4 xb5 xb6
     go_upto_region 10 with fail
     refine wp_region_quiet_below (by kernel_rfl) (by kernel_rfl) ?_
     repeat (any_goals (first | go_big_quiet_step (first | with_reducible exact c1 _ _ | with_reducible exact c2 _ _ | with_reducible exact c3 _ _ | with_reducible exact c4 _ _) | quiet_step (first | with_reducible exact c1 _ _ | with_reducible exact c2 _ _ | with_reducible exact c3 _ _ | with_reducible exact c4 _ _)))
     refine wpQuiet_nil ?_
     intro wz hw'
     have HBz : Hid (Below w.heap.size w wz) := Lib.hid (by
      obtain ⟨⟨dq, osq⟩, hw''⟩ := hw'
      rw [hw'']
      exact below_over HB.out (below_regrown w5 dq osq))
     clear hw' c1 c2 c3 c4 xa0r xa1r xa2r xa3r xa4r xa5r xa6r xb0r xb1r xb2r xb3r xb4r xb5r xb6r
     go_wp2_with fail
     go_ret
     exact ⟨by simp, HBz.out⟩
end Go.Proofs.Ytcdmgcgjonndpaa

/-  -/
namespace Go.Proofs.Ytcdmgcgjonndpaa
open Go Go.RowKit Go.WideShapes Go.ChangeShapes
section
variable {H : Type} {enc : TypeId × Value → H} {P : Program}
theorem post_of_below {f : Func} {s : ChangeSpec} {apart fresh handsOn again : Bool} {W W' : World} {args : Array Value} {v : Value} {ds gs : List (DataW H)} {before pa pv : List MemPlace}
    (hW : DataW.Whole enc P f.params.toList s.vars apart W args.toList ds gs before)
    (hres : ∀ (b : Nat) (sp : Nat → Bool) (hd : Bool), DataW.TrodAll enc P W' b sp hd f.resultTypes.toList (v.resultList f.resultTypes.size) (s.fn H (ds ++ gs)).results [])
    (hargs : ∀ sp : Nat → Bool, (∀ p ∈ before, sp p.block = true) → DataW.TrodAll enc P W' 0 sp true f.params.toList args.toList (s.fn H (ds ++ gs)).args pa)
    (hvars : ∀ sp : Nat → Bool, (∀ p ∈ before, sp p.block = true) → DataW.TrodVars enc P W' sp s.vars (s.fn H (ds ++ gs)).vars pv)
    (hps : before = pa ++ pv) (hb : Below W.heap.size W W')
    (hok : ∀ (j : Nat) (t : TypeId) (r : Value), f.resultTypes[j]? = some t → (v.resultList f.resultTypes.size)[j]? = some r → Value.okWide P W' .any 0 t r) :
    s.post enc P f apart fresh handsOn again W args v W' := by
  have hlt : ∀ p ∈ before, p.block < W.heap.size := fun p hp => hW.lt p hp
  have hold : ∀ p ∈ before, (fun b => decide (b < W.heap.size)) p.block = true := fun p hp => by simpa using hlt p hp
  refine ⟨ds, gs, before, [], pa, pv, hW, hres _ _ _, hargs _ hold, hvars _ hold, World.keptBut_mono (fun p hp => ⟨hp, ?_⟩) (hb.frame (· ∈ before)), fun _ => ?_⟩
  · rw [hps, List.mem_append] at hp
    exact Or.inr hp
  · obtain ⟨_, _, _, _, _, hz, hn⟩ := hW
    refine ⟨hok, _, _, ([] ++ pa) ++ pv, ⟨[] ++ pa, pv, trodAll_append (hargs _ (fun _ _ => rfl)) (hres _ _ _), hvars _ (fun _ _ => rfl), rfl, ?_, ?_⟩, ?_⟩
    · intro b off hp
      have hin : MemPlace.cell b off ∈ before := by rw [hps]; simpa using hp
      rw [hb.frozen (hlt _ hin)]
      exact hz b off hin
    · intro ha
      have := hn ha
      rw [hps] at this
      simpa using this
    · intro p hp _
      rw [hps]
      simpa using hp
theorem trodAll_stays (hl : laidOutB P = true) {W W' : World} {sp : Nat → Bool} (hb : Below W.heap.size W W') :
    ∀ (ts : List TypeId) (vs : List Value) (ds : List (DataW H)) (ps : List MemPlace), (∀ t ∈ ts, P.readableRec t = true ∧ t < P.types.size) →
      DataW.TrodAll enc P W 0 (fun _ => true) true ts vs ds ps → (∀ x ∈ ps, x.block < W.heap.size) → (∀ x ∈ ps, sp x.block = true) → DataW.TrodAll enc P W' 0 sp true ts vs ds ps
  | [], vs, ds, ps, _, h, _, _ => by
    obtain ⟨rfl, rfl, rfl⟩ := trodAll_nil h
    exact trodAll_mk0
  | t :: ts, vs, ds, ps, ht, h, hlt, hs => by
    obtain ⟨v, vs', d, ds', p, q, rfl, rfl, rfl, h0, h1⟩ := trodAll_cons h
    obtain ⟨hr, hrow⟩ := ht t (by simp)
    exact ⟨p, q, WideElems.Trod_stays hl hr hrow h0 (fun x hx => hb.same (hlt x (by simp [hx]))) (fun x hx => hs x (by simp [hx])),
      trodAll_stays hl hb ts vs' ds' q (fun u hu => ht u (by simp [hu])) h1 (fun x hx => hlt x (by simp [hx])) (fun x hx => hs x (by simp [hx])), rfl⟩
theorem law_post {f : Func} {s : ChangeSpec} {apart fresh handsOn again : Bool} {W W' : World} {args : Array Value} {ds gs : List (DataW H)} {before : List MemPlace} {tb : TypeId}
    (hl : laidOutB P = true) (hro : f.params.toList.all (fun t => P.readableRec t && decide (t < P.types.size)) = true) (hres : f.resultTypes = #[tb]) (hbool : P.underlying tb = some .bool) (hvars : s.vars = [])
    (hW : DataW.Whole enc P f.params.toList s.vars apart W args.toList ds gs before) (hb : Below W.heap.size W W')
    (hs : s.fn H (ds ++ gs) = { results := [.lit (.bool true)], args := ds }) :
    s.post enc P f apart fresh handsOn again W args (.bool true) W' := by
  have hW' := hW
  obtain ⟨p, q, hA, hV, hpq, _, _⟩ := hW
  rw [hvars] at hV
  obtain ⟨rfl, rfl⟩ := trodVars_none hV
  rw [List.append_nil] at hpq
  subst hpq
  have hlt : ∀ x ∈ before, x.block < W.heap.size := fun x hx => hW'.lt x hx
  have hro' : ∀ t ∈ f.params.toList, P.readableRec t = true ∧ t < P.types.size := fun t ht => by
    have := List.all_eq_true.1 hro t ht
    simpa using this
  refine post_of_below (pa := before) (pv := []) hW' ?_ ?_ ?_ (by simp) hb ?_
  · intro b sp hd
    rw [hs, hres]
    exact trodAll_mk1 (shut_bool hbool true)
  · intro sp hsp
    rw [hs]
    exact trodAll_stays hl hb _ _ _ _ hro' hA hlt hsp
  · intro sp _
    rw [hs, hvars]
    exact rfl
  · exact ok_one hres rfl (okWide_bool_mk hbool true)
end
end Go.Proofs.Ytcdmgcgjonndpaa

/-  -/
namespace Go.Proofs.Ytcdmgcgjonndpaa
open Go Go.ChangeShapes Go.WideShapes Go.ChangeAt Go.RowKit Go.Joins
theorem own : ownKnob Try.prog.godebug = none := by kernel_rfl
theorem laidOut : laidOutB Try.prog = true := by kernel_rfl
end Go.Proofs.Ytcdmgcgjonndpaa
