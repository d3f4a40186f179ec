/-
  Several texts in one:  ·  · 
-/
import Derived.Test.YtcdmgcgjonndpaaK15
import Derived.Test.YtcdmgcgjonndpaaK05
import Derived.Test.YtcdmgcgjonndpaaK04
import Derived.Below
import Derived.Carry
import Derived.ChangeSame
import Derived.WideKeyArgs
import Derived.ProofKit
import Derived.Test.YtcdmgcgjonndpaaRows
import Derived.Lib.SmallJoins
import Derived.OpenShut
/-  -/
namespace Go.Proofs.Ytcdmgcgjonndpaa
open Go Go.RowKit Go.Shelf
open Go.Sort
open M
def okL (t : Ty) : Bool := fewB t && okT t
theorem okL_ok {t : Ty} (h : okL t = true) : okT t = true := by
 unfold okL at h
 rw [Bool.and_eq_true] at h
 exact h.2
theorem may9 {t : Ty} (h : mayT t = true) : many t ≤ 9000 := by have := mayT_many h; omega
theorem subP_of {a b : Ty} (ha : okT a = true) (hb : okT b = true) : subP a b = subB a b := by rw [subP_ok, ha, hb]; rfl
theorem box_step {w w' : World} {b : Nat} {c : Obj} (h : b < w.heap.size ∧ w.heap[b]? = some c) (hb : Below w.heap.size w w') : b < w'.heap.size ∧ w'.heap[b]? = some c := ⟨Nat.lt_of_lt_of_le h.1 hb.size, (hb.block _ h.1).trans h.2⟩
set_option maxRecDepth 100000 in
set_option maxHeartbeats 8000000 in
theorem lplain9_any (a : Ty) (la : List Value) (w : World) (hTa : TyAt w la a) :
  Calls Try.prog 10 #[.agg la.toArray] w fun e w' => e = .returned (.bool (okL a)) ∧ Below w.heap.size w w' := by
 have RES : Hid (okL a = (fewB a && (mayT a && plainT a))) := Lib.hid rfl
 obtain ⟨p, hp⟩ : ∃ p, p = fewB a := ⟨_, rfl⟩
 obtain ⟨q, hq⟩ : ∃ q, q = mayT a := ⟨_, rfl⟩
 obtain ⟨r, hr⟩ : ∃ r, r = plainT a := ⟨_, rfl⟩
 have HP := Lib.hid hp
 have HQ := Lib.hid hq
 have HR := Lib.hid hr
 rw [← hp, ← hq, ← hr] at RES
 clear hp hq hr
 have HTa := Lib.hid hTa
 obtain ⟨An, Ac, As, Ad, rfl, -⟩ := hTa.parts
 obtain ⟨U0, hU0⟩ : ∃ U0, U0 = w.alloc (.cells #[.int .i64 a.kind, .string a.pkg, .int .i64 a.major, .string a.mod, .string a.name, .slice An a.names.length Ac, .slice As a.subs.length Ad] 25) := ⟨_, rfl⟩
 have s0 : U0.heap.size = w.heap.size + 1 := by rw [hU0]; simp
 have B0 : Below w.heap.size w U0 := by rw [hU0]; exact below_new (Below.refl _ _) _
 have O0 : U0.heap[w.heap.size]? = some (.cells #[.int .i64 a.kind, .string a.pkg, .int .i64 a.major, .string a.mod, .string a.name, .slice An a.names.length Ac, .slice As a.subs.length Ad] 25 (0, 0)) := by rw [hU0]; exact heap_alloc_new w _
 have BW : Below w.heap.size w U0 := B0
 have BXa : Hid (w.heap.size < U0.heap.size ∧ U0.heap[w.heap.size]? = some (.cells #[.int .i64 a.kind, .string a.pkg, .int .i64 a.major, .string a.mod, .string a.name, .slice An a.names.length Ac, .slice As a.subs.length Ad] 25 (0, 0))) := Lib.hid ⟨by omega, O0⟩
 have KTa := Lib.hid (HTa.out.keep BW)
 have HW : Hid (w.alloc (.cells #[.int .i64 a.kind, .string a.pkg, .int .i64 a.major, .string a.mod, .string a.name, .slice An a.names.length Ac, .slice As a.subs.length Ad] 25) = U0) := Lib.hid (by rw [hU0])
 have HB := Lib.hid BW
 clear hU0 s0 B0 O0 BW hTa
 go_enter Try.func10, Try.ntmps10
 go_upto_region 1 with fail
 rw [HW.out]
 clear HW
 have CT := Lib.hid (fewB_any a (.agg #[.int .i64 a.kind, .string a.pkg, .int .i64 a.major, .string a.mod, .string a.name, .slice An a.names.length Ac, .slice As a.subs.length Ad]) U0 ⟨_, rfl, KTa.out⟩)
 rw [← HP.out] at CT
 obtain ⟨-, Xa⟩ := BXa.out
 have xa0 := Lib.cell_of_heap Xa 0
 have xa1 := Lib.cell_of_heap Xa 1
 have xa2 := Lib.cell_of_heap Xa 2
 have xa3 := Lib.cell_of_heap Xa 3
 have xa4 := Lib.cell_of_heap Xa 4
 have xa5 := Lib.cell_of_heap Xa 5
 have xa6 := Lib.cell_of_heap Xa 6
 simp at xa0 xa1 xa2 xa3 xa4 xa5 xa6
 clear Xa
 go_wp2_with fail
 refine CT.out.mono ?_; rintro e w1 ⟨rfl, hb⟩
 clear xa0 xa1 xa2 xa3 xa4 xa5 xa6
 clear CT
 replace BXa := Lib.hid (box_step BXa.out hb)
 replace KTa := Lib.hid (KTa.out.keep hb)
 replace HB := Lib.hid (below_over HB.out hb)
 clear hb
 cases p with
 | false =>
  go_wp2_with fail
  go_ret
  exact ⟨by rw [RES.out]; rfl, HB.out⟩
 | true =>
  have CT := Lib.hid (may_any a (.agg #[.int .i64 a.kind, .string a.pkg, .int .i64 a.major, .string a.mod, .string a.name, .slice An a.names.length Ac, .slice As a.subs.length Ad]) w1 (by have := few_small HP.out.symm; omega) ⟨_, rfl, KTa.out⟩)
  rw [← HQ.out] at CT
  obtain ⟨-, Xa⟩ := BXa.out
  have xa0 := Lib.cell_of_heap Xa 0
  have xa1 := Lib.cell_of_heap Xa 1
  have xa2 := Lib.cell_of_heap Xa 2
  have xa3 := Lib.cell_of_heap Xa 3
  have xa4 := Lib.cell_of_heap Xa 4
  have xa5 := Lib.cell_of_heap Xa 5
  have xa6 := Lib.cell_of_heap Xa 6
  simp at xa0 xa1 xa2 xa3 xa4 xa5 xa6
  clear Xa
  go_wp2_with fail
  refine CT.out.mono ?_; rintro e w2 ⟨rfl, hb⟩
  clear xa0 xa1 xa2 xa3 xa4 xa5 xa6
  clear CT
  replace BXa := Lib.hid (box_step BXa.out hb)
  replace KTa := Lib.hid (KTa.out.keep hb)
  replace HB := Lib.hid (below_over HB.out hb)
  clear hb
  cases q with
  | false =>
   go_wp2_with fail
   go_ret
   exact ⟨by rw [RES.out]; rfl, HB.out⟩
  | true =>
   have CT := Lib.hid (plain_any _ a (Nat.le_refl _) (.agg #[.int .i64 a.kind, .string a.pkg, .int .i64 a.major, .string a.mod, .string a.name, .slice An a.names.length Ac, .slice As a.subs.length Ad]) w2 ⟨_, rfl, KTa.out⟩)
   rw [← HR.out] at CT
   obtain ⟨-, Xa⟩ := BXa.out
   have xa0 := Lib.cell_of_heap Xa 0
   have xa1 := Lib.cell_of_heap Xa 1
   have xa2 := Lib.cell_of_heap Xa 2
   have xa3 := Lib.cell_of_heap Xa 3
   have xa4 := Lib.cell_of_heap Xa 4
   have xa5 := Lib.cell_of_heap Xa 5
   have xa6 := Lib.cell_of_heap Xa 6
   simp at xa0 xa1 xa2 xa3 xa4 xa5 xa6
   clear Xa
   go_wp2_with fail
   refine CT.out.mono ?_; rintro e w3 ⟨rfl, hb⟩
   clear xa0 xa1 xa2 xa3 xa4 xa5 xa6
   clear CT
   replace BXa := Lib.hid (box_step BXa.out hb)
   replace KTa := Lib.hid (KTa.out.keep hb)
   replace HB := Lib.hid (below_over HB.out hb)
   clear hb
   go_wp2_with fail
   go_ret
   exact ⟨by rw [RES.out]; rfl, HB.out⟩
set_option maxRecDepth 100000 in
set_option maxHeartbeats 16000000 in
theorem orders_any (a b c : Ty) (la lb lc : List Value) (w : World) (hTa : TyAt w la a) (hTb : TyAt w lb b) (hTc : TyAt w lc c) :
  Calls Try.prog 5 #[.agg la.toArray, .agg lb.toArray, .agg lc.toArray] w fun e w' => e = .returned (.bool true) ∧ Below w.heap.size w w' := by
 obtain ⟨p, hp⟩ : ∃ p, p = okL a := ⟨_, rfl⟩
 have Hp := Lib.hid hp
 clear hp
 obtain ⟨q, hq⟩ : ∃ q, q = okL b := ⟨_, rfl⟩
 have Hq := Lib.hid hq
 clear hq
 obtain ⟨r, hr⟩ : ∃ r, r = okL c := ⟨_, rfl⟩
 have Hr := Lib.hid hr
 clear hr
 have HTa := Lib.hid hTa
 have HTb := Lib.hid hTb
 have HTc := Lib.hid hTc
 obtain ⟨An, Ac, As, Ad, rfl, -⟩ := hTa.parts
 obtain ⟨Bn, Bc, Bs, Bd, rfl, -⟩ := hTb.parts
 obtain ⟨Cn, Cc, Cs, Cd, rfl, -⟩ := hTc.parts
 obtain ⟨U0, hU0⟩ : ∃ U0, U0 = w.alloc (.cells #[.int .i64 a.kind, .string a.pkg, .int .i64 a.major, .string a.mod, .string a.name, .slice An a.names.length Ac, .slice As a.subs.length Ad] 25) := ⟨_, rfl⟩
 obtain ⟨U1, hU1⟩ : ∃ U1, U1 = U0.alloc (.cells #[.int .i64 b.kind, .string b.pkg, .int .i64 b.major, .string b.mod, .string b.name, .slice Bn b.names.length Bc, .slice Bs b.subs.length Bd] 25) := ⟨_, rfl⟩
 obtain ⟨U2, hU2⟩ : ∃ U2, U2 = U1.alloc (.cells #[.int .i64 c.kind, .string c.pkg, .int .i64 c.major, .string c.mod, .string c.name, .slice Cn c.names.length Cc, .slice Cs c.subs.length Cd] 25) := ⟨_, rfl⟩
 have s0 : U0.heap.size = w.heap.size + 1 := by rw [hU0]; simp
 have B0 : Below w.heap.size w U0 := by rw [hU0]; exact below_new (Below.refl _ _) _
 have O0 : U0.heap[w.heap.size]? = some (.cells #[.int .i64 a.kind, .string a.pkg, .int .i64 a.major, .string a.mod, .string a.name, .slice An a.names.length Ac, .slice As a.subs.length Ad] 25 (0, 0)) := by rw [hU0]; exact heap_alloc_new w _
 have s1 : U1.heap.size = w.heap.size + 1 + 1 := by rw [hU1]; simp [s0]
 have B1 : Below U0.heap.size U0 U1 := by rw [hU1]; exact below_new (Below.refl _ _) _
 have O1 : U1.heap[w.heap.size + 1]? = some (.cells #[.int .i64 b.kind, .string b.pkg, .int .i64 b.major, .string b.mod, .string b.name, .slice Bn b.names.length Bc, .slice Bs b.subs.length Bd] 25 (0, 0)) := by rw [hU1, ← s0]; exact heap_alloc_new U0 _
 have s2 : U2.heap.size = w.heap.size + 1 + 1 + 1 := by rw [hU2]; simp [s1]
 have B2 : Below U1.heap.size U1 U2 := by rw [hU2]; exact below_new (Below.refl _ _) _
 have O2 : U2.heap[w.heap.size + 1 + 1]? = some (.cells #[.int .i64 c.kind, .string c.pkg, .int .i64 c.major, .string c.mod, .string c.name, .slice Cn c.names.length Cc, .slice Cs c.subs.length Cd] 25 (0, 0)) := by rw [hU2, ← s1]; exact heap_alloc_new U1 _
 have BW : Below w.heap.size w U2 := below_over B0 (below_over B1 B2)
 have BXa : Hid (w.heap.size < U2.heap.size ∧ U2.heap[w.heap.size]? = some (.cells #[.int .i64 a.kind, .string a.pkg, .int .i64 a.major, .string a.mod, .string a.name, .slice An a.names.length Ac, .slice As a.subs.length Ad] 25 (0, 0))) := Lib.hid ⟨by omega, (B2.block _ (by omega)).trans ((B1.block _ (by omega)).trans (O0))⟩
 have KTa := Lib.hid (HTa.out.keep BW)
 have BXb : Hid (w.heap.size + 1 < U2.heap.size ∧ U2.heap[w.heap.size + 1]? = some (.cells #[.int .i64 b.kind, .string b.pkg, .int .i64 b.major, .string b.mod, .string b.name, .slice Bn b.names.length Bc, .slice Bs b.subs.length Bd] 25 (0, 0))) := Lib.hid ⟨by omega, (B2.block _ (by omega)).trans (O1)⟩
 have KTb := Lib.hid (HTb.out.keep BW)
 have BXc : Hid (w.heap.size + 1 + 1 < U2.heap.size ∧ U2.heap[w.heap.size + 1 + 1]? = some (.cells #[.int .i64 c.kind, .string c.pkg, .int .i64 c.major, .string c.mod, .string c.name, .slice Cn c.names.length Cc, .slice Cs c.subs.length Cd] 25 (0, 0))) := Lib.hid ⟨by omega, O2⟩
 have KTc := Lib.hid (HTc.out.keep BW)
 have HW : Hid (((w.alloc (.cells #[.int .i64 a.kind, .string a.pkg, .int .i64 a.major, .string a.mod, .string a.name, .slice An a.names.length Ac, .slice As a.subs.length Ad] 25)).alloc (.cells #[.int .i64 b.kind, .string b.pkg, .int .i64 b.major, .string b.mod, .string b.name, .slice Bn b.names.length Bc, .slice Bs b.subs.length Bd] 25)).alloc (.cells #[.int .i64 c.kind, .string c.pkg, .int .i64 c.major, .string c.mod, .string c.name, .slice Cn c.names.length Cc, .slice Cs c.subs.length Cd] 25) = U2) := Lib.hid (by rw [hU2, hU1, hU0])
 have HB := Lib.hid BW
 clear hU0 s0 B0 O0 hU1 s1 B1 O1 hU2 s2 B2 O2 BW hTa hTb hTc
 go_enter Try.func5, Try.ntmps5
 go_upto_region 1 with fail
 rw [HW.out]
 clear HW
 have CT := Lib.hid (up9_any U2)
 go_wp2_with fail
 refine CT.out.mono ?_; rintro e w1 ⟨rfl, hb⟩
 clear CT
 replace BXa := Lib.hid (box_step BXa.out hb)
 replace BXb := Lib.hid (box_step BXb.out hb)
 replace BXc := Lib.hid (box_step BXc.out hb)
 replace KTa := Lib.hid (KTa.out.keep hb)
 replace KTb := Lib.hid (KTb.out.keep hb)
 replace KTc := Lib.hid (KTc.out.keep hb)
 replace HB := Lib.hid (below_over HB.out hb)
 clear hb
 have CT := Lib.hid (lplain9_any a [.int .i64 a.kind, .string a.pkg, .int .i64 a.major, .string a.mod, .string a.name, .slice An a.names.length Ac, .slice As a.subs.length Ad] w1 KTa.out)
 rw [← Hp.out] at CT
 obtain ⟨-, Xa⟩ := BXa.out
 have xa0 := Lib.cell_of_heap Xa 0
 have xa1 := Lib.cell_of_heap Xa 1
 have xa2 := Lib.cell_of_heap Xa 2
 have xa3 := Lib.cell_of_heap Xa 3
 have xa4 := Lib.cell_of_heap Xa 4
 have xa5 := Lib.cell_of_heap Xa 5
 have xa6 := Lib.cell_of_heap Xa 6
 simp at xa0 xa1 xa2 xa3 xa4 xa5 xa6
 clear Xa
 go_wp2_with fail
 refine CT.out.mono ?_; rintro e w2 ⟨rfl, hb⟩
 clear xa0 xa1 xa2 xa3 xa4 xa5 xa6
 clear CT
 replace BXa := Lib.hid (box_step BXa.out hb)
 replace BXb := Lib.hid (box_step BXb.out hb)
 replace BXc := Lib.hid (box_step BXc.out hb)
 replace KTa := Lib.hid (KTa.out.keep hb)
 replace KTb := Lib.hid (KTb.out.keep hb)
 replace KTc := Lib.hid (KTc.out.keep hb)
 replace HB := Lib.hid (below_over HB.out hb)
 clear hb
 have CT := Lib.hid (lplain9_any b [.int .i64 b.kind, .string b.pkg, .int .i64 b.major, .string b.mod, .string b.name, .slice Bn b.names.length Bc, .slice Bs b.subs.length Bd] w2 KTb.out)
 rw [← Hq.out] at CT
 obtain ⟨-, Xb⟩ := BXb.out
 have xb0 := Lib.cell_of_heap Xb 0
 have xb1 := Lib.cell_of_heap Xb 1
 have xb2 := Lib.cell_of_heap Xb 2
 have xb3 := Lib.cell_of_heap Xb 3
 have xb4 := Lib.cell_of_heap Xb 4
 have xb5 := Lib.cell_of_heap Xb 5
 have xb6 := Lib.cell_of_heap Xb 6
 simp at xb0 xb1 xb2 xb3 xb4 xb5 xb6
 clear Xb
 go_wp2_with fail
 refine CT.out.mono ?_; rintro e w3 ⟨rfl, hb⟩
 clear xb0 xb1 xb2 xb3 xb4 xb5 xb6
 clear CT
 replace BXa := Lib.hid (box_step BXa.out hb)
 replace BXb := Lib.hid (box_step BXb.out hb)
 replace BXc := Lib.hid (box_step BXc.out hb)
 replace KTa := Lib.hid (KTa.out.keep hb)
 replace KTb := Lib.hid (KTb.out.keep hb)
 replace KTc := Lib.hid (KTc.out.keep hb)
 replace HB := Lib.hid (below_over HB.out hb)
 clear hb
 have CT := Lib.hid (lplain9_any c [.int .i64 c.kind, .string c.pkg, .int .i64 c.major, .string c.mod, .string c.name, .slice Cn c.names.length Cc, .slice Cs c.subs.length Cd] w3 KTc.out)
 rw [← Hr.out] at CT
 obtain ⟨-, Xc⟩ := BXc.out
 have xc0 := Lib.cell_of_heap Xc 0
 have xc1 := Lib.cell_of_heap Xc 1
 have xc2 := Lib.cell_of_heap Xc 2
 have xc3 := Lib.cell_of_heap Xc 3
 have xc4 := Lib.cell_of_heap Xc 4
 have xc5 := Lib.cell_of_heap Xc 5
 have xc6 := Lib.cell_of_heap Xc 6
 simp at xc0 xc1 xc2 xc3 xc4 xc5 xc6
 clear Xc
 go_wp2_with fail
 refine CT.out.mono ?_; rintro e w4 ⟨rfl, hb⟩
 clear xc0 xc1 xc2 xc3 xc4 xc5 xc6
 clear CT
 replace BXa := Lib.hid (box_step BXa.out hb)
 replace BXb := Lib.hid (box_step BXb.out hb)
 replace BXc := Lib.hid (box_step BXc.out hb)
 replace KTa := Lib.hid (KTa.out.keep hb)
 replace KTb := Lib.hid (KTb.out.keep hb)
 replace KTc := Lib.hid (KTc.out.keep hb)
 replace HB := Lib.hid (below_over HB.out hb)
 clear hb
 cases p with
 | false =>
  go_wp2_with fail
  go_ret
  exact ⟨rfl, HB.out⟩
 | true =>
  cases q with
  | false =>
   go_wp2_with fail
   go_ret
   exact ⟨rfl, HB.out⟩
  | true =>
   cases r with
   | false =>
    go_wp2_with fail
    go_ret
    exact ⟨rfl, HB.out⟩
   | true =>
    have OKa := Lib.hid (okL_ok Hp.out.symm)
    have OKb := Lib.hid (okL_ok Hq.out.symm)
    have OKc := Lib.hid (okL_ok Hr.out.symm)
    obtain ⟨dv, hd⟩ : ∃ dv, dv = subB a b := ⟨_, rfl⟩
    have Hd := Lib.hid hd
    clear hd
    have CT := Lib.hid (subC_any9 a b [.int .i64 a.kind, .string a.pkg, .int .i64 a.major, .string a.mod, .string a.name, .slice An a.names.length Ac, .slice As a.subs.length Ad] [.int .i64 b.kind, .string b.pkg, .int .i64 b.major, .string b.mod, .string b.name, .slice Bn b.names.length Bc, .slice Bs b.subs.length Bd] w4 may9 may9 KTa.out KTb.out)
    rw [subP_of OKa.out OKb.out, ← Hd.out] at CT
    obtain ⟨-, Xa⟩ := BXa.out
    have xa0 := Lib.cell_of_heap Xa 0
    have xa1 := Lib.cell_of_heap Xa 1
    have xa2 := Lib.cell_of_heap Xa 2
    have xa3 := Lib.cell_of_heap Xa 3
    have xa4 := Lib.cell_of_heap Xa 4
    have xa5 := Lib.cell_of_heap Xa 5
    have xa6 := Lib.cell_of_heap Xa 6
    obtain ⟨-, Xb⟩ := BXb.out
    have xb0 := Lib.cell_of_heap Xb 0
    have xb1 := Lib.cell_of_heap Xb 1
    have xb2 := Lib.cell_of_heap Xb 2
    have xb3 := Lib.cell_of_heap Xb 3
    have xb4 := Lib.cell_of_heap Xb 4
    have xb5 := Lib.cell_of_heap Xb 5
    have xb6 := Lib.cell_of_heap Xb 6
    simp at xa0 xa1 xa2 xa3 xa4 xa5 xa6 xb0 xb1 xb2 xb3 xb4 xb5 xb6
    clear Xa Xb
    go_wp2_with fail
    refine CT.out.mono ?_; rintro e w5 ⟨rfl, hb⟩
    clear xa0 xa1 xa2 xa3 xa4 xa5 xa6 xb0 xb1 xb2 xb3 xb4 xb5 xb6
    clear CT
    replace BXa := Lib.hid (box_step BXa.out hb)
    replace BXb := Lib.hid (box_step BXb.out hb)
    replace BXc := Lib.hid (box_step BXc.out hb)
    replace KTa := Lib.hid (KTa.out.keep hb)
    replace KTb := Lib.hid (KTb.out.keep hb)
    replace KTc := Lib.hid (KTc.out.keep hb)
    replace HB := Lib.hid (below_over HB.out hb)
    clear hb
    obtain ⟨ev, he⟩ : ∃ ev, ev = subB b c := ⟨_, rfl⟩
    have He := Lib.hid he
    clear he
    have CT := Lib.hid (subC_any9 b c [.int .i64 b.kind, .string b.pkg, .int .i64 b.major, .string b.mod, .string b.name, .slice Bn b.names.length Bc, .slice Bs b.subs.length Bd] [.int .i64 c.kind, .string c.pkg, .int .i64 c.major, .string c.mod, .string c.name, .slice Cn c.names.length Cc, .slice Cs c.subs.length Cd] w5 may9 may9 KTb.out KTc.out)
    rw [subP_of OKb.out OKc.out, ← He.out] at CT
    obtain ⟨-, Xb⟩ := BXb.out
    have xb0 := Lib.cell_of_heap Xb 0
    have xb1 := Lib.cell_of_heap Xb 1
    have xb2 := Lib.cell_of_heap Xb 2
    have xb3 := Lib.cell_of_heap Xb 3
    have xb4 := Lib.cell_of_heap Xb 4
    have xb5 := Lib.cell_of_heap Xb 5
    have xb6 := Lib.cell_of_heap Xb 6
    obtain ⟨-, Xc⟩ := BXc.out
    have xc0 := Lib.cell_of_heap Xc 0
    have xc1 := Lib.cell_of_heap Xc 1
    have xc2 := Lib.cell_of_heap Xc 2
    have xc3 := Lib.cell_of_heap Xc 3
    have xc4 := Lib.cell_of_heap Xc 4
    have xc5 := Lib.cell_of_heap Xc 5
    have xc6 := Lib.cell_of_heap Xc 6
    simp at xb0 xb1 xb2 xb3 xb4 xb5 xb6 xc0 xc1 xc2 xc3 xc4 xc5 xc6
    clear Xb Xc
    go_wp2_with fail
    refine CT.out.mono ?_; rintro e w6 ⟨rfl, hb⟩
    clear xb0 xb1 xb2 xb3 xb4 xb5 xb6 xc0 xc1 xc2 xc3 xc4 xc5 xc6
    clear CT
    replace BXa := Lib.hid (box_step BXa.out hb)
    replace BXb := Lib.hid (box_step BXb.out hb)
    replace BXc := Lib.hid (box_step BXc.out hb)
    replace KTa := Lib.hid (KTa.out.keep hb)
    replace KTb := Lib.hid (KTb.out.keep hb)
    replace KTc := Lib.hid (KTc.out.keep hb)
    replace HB := Lib.hid (below_over HB.out hb)
    clear hb
    obtain ⟨fv, hf⟩ : ∃ fv, fv = subB b a := ⟨_, rfl⟩
    have Hf := Lib.hid hf
    clear hf
    have CT := Lib.hid (subC_any9 b a [.int .i64 b.kind, .string b.pkg, .int .i64 b.major, .string b.mod, .string b.name, .slice Bn b.names.length Bc, .slice Bs b.subs.length Bd] [.int .i64 a.kind, .string a.pkg, .int .i64 a.major, .string a.mod, .string a.name, .slice An a.names.length Ac, .slice As a.subs.length Ad] w6 may9 may9 KTb.out KTa.out)
    rw [subP_of OKb.out OKa.out, ← Hf.out] at CT
    obtain ⟨-, Xb⟩ := BXb.out
    have xb0 := Lib.cell_of_heap Xb 0
    have xb1 := Lib.cell_of_heap Xb 1
    have xb2 := Lib.cell_of_heap Xb 2
    have xb3 := Lib.cell_of_heap Xb 3
    have xb4 := Lib.cell_of_heap Xb 4
    have xb5 := Lib.cell_of_heap Xb 5
    have xb6 := Lib.cell_of_heap Xb 6
    obtain ⟨-, Xa⟩ := BXa.out
    have xa0 := Lib.cell_of_heap Xa 0
    have xa1 := Lib.cell_of_heap Xa 1
    have xa2 := Lib.cell_of_heap Xa 2
    have xa3 := Lib.cell_of_heap Xa 3
    have xa4 := Lib.cell_of_heap Xa 4
    have xa5 := Lib.cell_of_heap Xa 5
    have xa6 := Lib.cell_of_heap Xa 6
    simp at xb0 xb1 xb2 xb3 xb4 xb5 xb6 xa0 xa1 xa2 xa3 xa4 xa5 xa6
    clear Xb Xa
    go_wp2_with fail
    refine CT.out.mono ?_; rintro e w7 ⟨rfl, hb⟩
    clear xb0 xb1 xb2 xb3 xb4 xb5 xb6 xa0 xa1 xa2 xa3 xa4 xa5 xa6
    clear CT
    replace BXa := Lib.hid (box_step BXa.out hb)
    replace BXb := Lib.hid (box_step BXb.out hb)
    replace BXc := Lib.hid (box_step BXc.out hb)
    replace KTa := Lib.hid (KTa.out.keep hb)
    replace KTb := Lib.hid (KTb.out.keep hb)
    replace KTc := Lib.hid (KTc.out.keep hb)
    replace HB := Lib.hid (below_over HB.out hb)
    clear hb
    have HAA : Hid (subB a a = true) := Lib.hid (subB_iff.2 (le_refl true a))
    have CT := Lib.hid (subC_any9 a a [.int .i64 a.kind, .string a.pkg, .int .i64 a.major, .string a.mod, .string a.name, .slice An a.names.length Ac, .slice As a.subs.length Ad] [.int .i64 a.kind, .string a.pkg, .int .i64 a.major, .string a.mod, .string a.name, .slice An a.names.length Ac, .slice As a.subs.length Ad] w7 may9 may9 KTa.out KTa.out)
    rw [subP_of OKa.out OKa.out, HAA.out] at CT
    obtain ⟨-, Xa⟩ := BXa.out
    have xa0 := Lib.cell_of_heap Xa 0
    have xa1 := Lib.cell_of_heap Xa 1
    have xa2 := Lib.cell_of_heap Xa 2
    have xa3 := Lib.cell_of_heap Xa 3
    have xa4 := Lib.cell_of_heap Xa 4
    have xa5 := Lib.cell_of_heap Xa 5
    have xa6 := Lib.cell_of_heap Xa 6
    simp at xa0 xa1 xa2 xa3 xa4 xa5 xa6
    clear Xa
    go_wp2_with fail
    refine CT.out.mono ?_; rintro e w8 ⟨rfl, hb⟩
    clear xa0 xa1 xa2 xa3 xa4 xa5 xa6
    clear CT
    replace BXa := Lib.hid (box_step BXa.out hb)
    replace BXb := Lib.hid (box_step BXb.out hb)
    replace BXc := Lib.hid (box_step BXc.out hb)
    replace KTa := Lib.hid (KTa.out.keep hb)
    replace KTb := Lib.hid (KTb.out.keep hb)
    replace KTc := Lib.hid (KTc.out.keep hb)
    replace HB := Lib.hid (below_over HB.out hb)
    clear hb
    cases dv with
    | false =>
     cases ev with
     | false =>
      cases fv with
      | false =>
       go_wp2_with fail
       go_ret
       exact ⟨rfl, HB.out⟩
      | true =>
       go_wp2_with fail
       go_ret
       exact ⟨rfl, HB.out⟩
     | true =>
      cases fv with
      | false =>
       go_wp2_with fail
       go_ret
       exact ⟨rfl, HB.out⟩
      | true =>
       go_wp2_with fail
       go_ret
       exact ⟨rfl, HB.out⟩
    | true =>
     cases ev with
     | false =>
      cases fv with
      | false =>
       go_wp2_with fail
       go_ret
       exact ⟨rfl, HB.out⟩
      | true =>
       have HSM : Hid (sameT a b = true) := Lib.hid ((sameT_iff a b).2 (le_anti (up := true) (okT_good OKa.out) (okT_good OKb.out) (subB_iff.1 Hd.out.symm) (subB_iff.1 Hf.out.symm)))
       have CT := Lib.hid (same_any _ a b (Nat.le_refl _) (.agg #[.int .i64 a.kind, .string a.pkg, .int .i64 a.major, .string a.mod, .string a.name, .slice An a.names.length Ac, .slice As a.subs.length Ad]) (.agg #[.int .i64 b.kind, .string b.pkg, .int .i64 b.major, .string b.mod, .string b.name, .slice Bn b.names.length Bc, .slice Bs b.subs.length Bd]) w8 ⟨_, rfl, KTa.out⟩ ⟨_, rfl, KTb.out⟩)
       rw [HSM.out] at CT
       obtain ⟨-, Xa⟩ := BXa.out
       have xa0 := Lib.cell_of_heap Xa 0
       have xa1 := Lib.cell_of_heap Xa 1
       have xa2 := Lib.cell_of_heap Xa 2
       have xa3 := Lib.cell_of_heap Xa 3
       have xa4 := Lib.cell_of_heap Xa 4
       have xa5 := Lib.cell_of_heap Xa 5
       have xa6 := Lib.cell_of_heap Xa 6
       obtain ⟨-, Xb⟩ := BXb.out
       have xb0 := Lib.cell_of_heap Xb 0
       have xb1 := Lib.cell_of_heap Xb 1
       have xb2 := Lib.cell_of_heap Xb 2
       have xb3 := Lib.cell_of_heap Xb 3
       have xb4 := Lib.cell_of_heap Xb 4
       have xb5 := Lib.cell_of_heap Xb 5
       have xb6 := Lib.cell_of_heap Xb 6
       simp at xa0 xa1 xa2 xa3 xa4 xa5 xa6 xb0 xb1 xb2 xb3 xb4 xb5 xb6
       clear Xa Xb
       go_wp2_with fail
       refine CT.out.mono ?_; rintro e w9 ⟨rfl, hb⟩
       clear xa0 xa1 xa2 xa3 xa4 xa5 xa6 xb0 xb1 xb2 xb3 xb4 xb5 xb6
       clear CT
       replace BXa := Lib.hid (box_step BXa.out hb)
       replace BXb := Lib.hid (box_step BXb.out hb)
       replace BXc := Lib.hid (box_step BXc.out hb)
       replace KTa := Lib.hid (KTa.out.keep hb)
       replace KTb := Lib.hid (KTb.out.keep hb)
       replace KTc := Lib.hid (KTc.out.keep hb)
       replace HB := Lib.hid (below_over HB.out hb)
       clear hb
       go_wp2_with fail
       go_ret
       exact ⟨rfl, HB.out⟩
     | true =>
      cases fv with
      | false =>
       have HAC : Hid (subB a c = true) := Lib.hid (subB_iff.2 (le_trans (up := true) (subB_iff.1 Hd.out.symm) (subB_iff.1 He.out.symm)))
       have CT := Lib.hid (subC_any9 a c [.int .i64 a.kind, .string a.pkg, .int .i64 a.major, .string a.mod, .string a.name, .slice An a.names.length Ac, .slice As a.subs.length Ad] [.int .i64 c.kind, .string c.pkg, .int .i64 c.major, .string c.mod, .string c.name, .slice Cn c.names.length Cc, .slice Cs c.subs.length Cd] w8 may9 may9 KTa.out KTc.out)
       rw [subP_of OKa.out OKc.out, HAC.out] at CT
       obtain ⟨-, Xa⟩ := BXa.out
       have xa0 := Lib.cell_of_heap Xa 0
       have xa1 := Lib.cell_of_heap Xa 1
       have xa2 := Lib.cell_of_heap Xa 2
       have xa3 := Lib.cell_of_heap Xa 3
       have xa4 := Lib.cell_of_heap Xa 4
       have xa5 := Lib.cell_of_heap Xa 5
       have xa6 := Lib.cell_of_heap Xa 6
       obtain ⟨-, Xc⟩ := BXc.out
       have xc0 := Lib.cell_of_heap Xc 0
       have xc1 := Lib.cell_of_heap Xc 1
       have xc2 := Lib.cell_of_heap Xc 2
       have xc3 := Lib.cell_of_heap Xc 3
       have xc4 := Lib.cell_of_heap Xc 4
       have xc5 := Lib.cell_of_heap Xc 5
       have xc6 := Lib.cell_of_heap Xc 6
       simp at xa0 xa1 xa2 xa3 xa4 xa5 xa6 xc0 xc1 xc2 xc3 xc4 xc5 xc6
       clear Xa Xc
       go_wp2_with fail
       refine CT.out.mono ?_; rintro e w9 ⟨rfl, hb⟩
       clear xa0 xa1 xa2 xa3 xa4 xa5 xa6 xc0 xc1 xc2 xc3 xc4 xc5 xc6
       clear CT
       replace BXa := Lib.hid (box_step BXa.out hb)
       replace BXb := Lib.hid (box_step BXb.out hb)
       replace BXc := Lib.hid (box_step BXc.out hb)
       replace KTa := Lib.hid (KTa.out.keep hb)
       replace KTb := Lib.hid (KTb.out.keep hb)
       replace KTc := Lib.hid (KTc.out.keep hb)
       replace HB := Lib.hid (below_over HB.out hb)
       clear hb
       go_wp2_with fail
       go_ret
       exact ⟨rfl, HB.out⟩
      | true =>
       have HAC : Hid (subB a c = true) := Lib.hid (subB_iff.2 (le_trans (up := true) (subB_iff.1 Hd.out.symm) (subB_iff.1 He.out.symm)))
       have CT := Lib.hid (subC_any9 a c [.int .i64 a.kind, .string a.pkg, .int .i64 a.major, .string a.mod, .string a.name, .slice An a.names.length Ac, .slice As a.subs.length Ad] [.int .i64 c.kind, .string c.pkg, .int .i64 c.major, .string c.mod, .string c.name, .slice Cn c.names.length Cc, .slice Cs c.subs.length Cd] w8 may9 may9 KTa.out KTc.out)
       rw [subP_of OKa.out OKc.out, HAC.out] at CT
       obtain ⟨-, Xa⟩ := BXa.out
       have xa0 := Lib.cell_of_heap Xa 0
       have xa1 := Lib.cell_of_heap Xa 1
       have xa2 := Lib.cell_of_heap Xa 2
       have xa3 := Lib.cell_of_heap Xa 3
       have xa4 := Lib.cell_of_heap Xa 4
       have xa5 := Lib.cell_of_heap Xa 5
       have xa6 := Lib.cell_of_heap Xa 6
       obtain ⟨-, Xc⟩ := BXc.out
       have xc0 := Lib.cell_of_heap Xc 0
       have xc1 := Lib.cell_of_heap Xc 1
       have xc2 := Lib.cell_of_heap Xc 2
       have xc3 := Lib.cell_of_heap Xc 3
       have xc4 := Lib.cell_of_heap Xc 4
       have xc5 := Lib.cell_of_heap Xc 5
       have xc6 := Lib.cell_of_heap Xc 6
       simp at xa0 xa1 xa2 xa3 xa4 xa5 xa6 xc0 xc1 xc2 xc3 xc4 xc5 xc6
       clear Xa Xc
       go_wp2_with fail
       refine CT.out.mono ?_; rintro e w9 ⟨rfl, hb⟩
       clear xa0 xa1 xa2 xa3 xa4 xa5 xa6 xc0 xc1 xc2 xc3 xc4 xc5 xc6
       clear CT
       replace BXa := Lib.hid (box_step BXa.out hb)
       replace BXb := Lib.hid (box_step BXb.out hb)
       replace BXc := Lib.hid (box_step BXc.out hb)
       replace KTa := Lib.hid (KTa.out.keep hb)
       replace KTb := Lib.hid (KTb.out.keep hb)
       replace KTc := Lib.hid (KTc.out.keep hb)
       replace HB := Lib.hid (below_over HB.out hb)
       clear hb
       have HSM : Hid (sameT a b = true) := Lib.hid ((sameT_iff a b).2 (le_anti (up := true) (okT_good OKa.out) (okT_good OKb.out) (subB_iff.1 Hd.out.symm) (subB_iff.1 Hf.out.symm)))
       have CT := Lib.hid (same_any _ a b (Nat.le_refl _) (.agg #[.int .i64 a.kind, .string a.pkg, .int .i64 a.major, .string a.mod, .string a.name, .slice An a.names.length Ac, .slice As a.subs.length Ad]) (.agg #[.int .i64 b.kind, .string b.pkg, .int .i64 b.major, .string b.mod, .string b.name, .slice Bn b.names.length Bc, .slice Bs b.subs.length Bd]) w9 ⟨_, rfl, KTa.out⟩ ⟨_, rfl, KTb.out⟩)
       rw [HSM.out] at CT
       obtain ⟨-, Xa⟩ := BXa.out
       have xa0 := Lib.cell_of_heap Xa 0
       have xa1 := Lib.cell_of_heap Xa 1
       have xa2 := Lib.cell_of_heap Xa 2
       have xa3 := Lib.cell_of_heap Xa 3
       have xa4 := Lib.cell_of_heap Xa 4
       have xa5 := Lib.cell_of_heap Xa 5
       have xa6 := Lib.cell_of_heap Xa 6
       obtain ⟨-, Xb⟩ := BXb.out
       have xb0 := Lib.cell_of_heap Xb 0
       have xb1 := Lib.cell_of_heap Xb 1
       have xb2 := Lib.cell_of_heap Xb 2
       have xb3 := Lib.cell_of_heap Xb 3
       have xb4 := Lib.cell_of_heap Xb 4
       have xb5 := Lib.cell_of_heap Xb 5
       have xb6 := Lib.cell_of_heap Xb 6
       simp at xa0 xa1 xa2 xa3 xa4 xa5 xa6 xb0 xb1 xb2 xb3 xb4 xb5 xb6
       clear Xa Xb
       go_wp2_with fail
       refine CT.out.mono ?_; rintro e w10 ⟨rfl, hb⟩
       clear xa0 xa1 xa2 xa3 xa4 xa5 xa6 xb0 xb1 xb2 xb3 xb4 xb5 xb6
       clear CT
       replace BXa := Lib.hid (box_step BXa.out hb)
       replace BXb := Lib.hid (box_step BXb.out hb)
       replace BXc := Lib.hid (box_step BXc.out hb)
       replace KTa := Lib.hid (KTa.out.keep hb)
       replace KTb := Lib.hid (KTb.out.keep hb)
       replace KTc := Lib.hid (KTc.out.keep hb)
       replace HB := Lib.hid (below_over HB.out hb)
       clear hb
       go_wp2_with fail
       go_ret
       exact ⟨rfl, HB.out⟩
end Go.Proofs.Ytcdmgcgjonndpaa

/-  -/
namespace Go.Proofs.Ytcdmgcgjonndpaa
open Go Go.RowKit Go.WideShapes Go.ChangeShapes
section
variable {H : Type} {enc : TypeId × Value → H} {P : Program}
theorem post_of_below {f : Func} {s : ChangeSpec} {apart fresh handsOn again : Bool} {W W' : World} {args : Array Value} {v : Value} {ds gs : List (DataW H)} {before pa pv : List MemPlace}
    (hW : DataW.Whole enc P f.params.toList s.vars apart W args.toList ds gs before)
    (hres : ∀ (b : Nat) (sp : Nat → Bool) (hd : Bool), DataW.TrodAll enc P W' b sp hd f.resultTypes.toList (v.resultList f.resultTypes.size) (s.fn H (ds ++ gs)).results [])
    (hargs : ∀ sp : Nat → Bool, (∀ p ∈ before, sp p.block = true) → DataW.TrodAll enc P W' 0 sp true f.params.toList args.toList (s.fn H (ds ++ gs)).args pa)
    (hvars : ∀ sp : Nat → Bool, (∀ p ∈ before, sp p.block = true) → DataW.TrodVars enc P W' sp s.vars (s.fn H (ds ++ gs)).vars pv)
    (hps : before = pa ++ pv) (hb : Below W.heap.size W W')
    (hok : ∀ (j : Nat) (t : TypeId) (r : Value), f.resultTypes[j]? = some t → (v.resultList f.resultTypes.size)[j]? = some r → Value.okWide P W' .any 0 t r) :
    s.post enc P f apart fresh handsOn again W args v W' := by
  have hlt : ∀ p ∈ before, p.block < W.heap.size := fun p hp => hW.lt p hp
  have hold : ∀ p ∈ before, (fun b => decide (b < W.heap.size)) p.block = true := fun p hp => by simpa using hlt p hp
  refine ⟨ds, gs, before, [], pa, pv, hW, hres _ _ _, hargs _ hold, hvars _ hold, World.keptBut_mono (fun p hp => ⟨hp, ?_⟩) (hb.frame (· ∈ before)), fun _ => ?_⟩
  · rw [hps, List.mem_append] at hp
    exact Or.inr hp
  · obtain ⟨_, _, _, _, _, hz, hn⟩ := hW
    refine ⟨hok, _, _, ([] ++ pa) ++ pv, ⟨[] ++ pa, pv, trodAll_append (hargs _ (fun _ _ => rfl)) (hres _ _ _), hvars _ (fun _ _ => rfl), rfl, ?_, ?_⟩, ?_⟩
    · intro b off hp
      have hin : MemPlace.cell b off ∈ before := by rw [hps]; simpa using hp
      rw [hb.frozen (hlt _ hin)]
      exact hz b off hin
    · intro ha
      have := hn ha
      rw [hps] at this
      simpa using this
    · intro p hp _
      rw [hps]
      simpa using hp
theorem trodAll_stays (hl : laidOutB P = true) {W W' : World} {sp : Nat → Bool} (hb : Below W.heap.size W W') :
    ∀ (ts : List TypeId) (vs : List Value) (ds : List (DataW H)) (ps : List MemPlace), (∀ t ∈ ts, P.readableRec t = true ∧ t < P.types.size) →
      DataW.TrodAll enc P W 0 (fun _ => true) true ts vs ds ps → (∀ x ∈ ps, x.block < W.heap.size) → (∀ x ∈ ps, sp x.block = true) → DataW.TrodAll enc P W' 0 sp true ts vs ds ps
  | [], vs, ds, ps, _, h, _, _ => by
    obtain ⟨rfl, rfl, rfl⟩ := trodAll_nil h
    exact trodAll_mk0
  | t :: ts, vs, ds, ps, ht, h, hlt, hs => by
    obtain ⟨v, vs', d, ds', p, q, rfl, rfl, rfl, h0, h1⟩ := trodAll_cons h
    obtain ⟨hr, hrow⟩ := ht t (by simp)
    exact ⟨p, q, WideElems.Trod_stays hl hr hrow h0 (fun x hx => hb.same (hlt x (by simp [hx]))) (fun x hx => hs x (by simp [hx])),
      trodAll_stays hl hb ts vs' ds' q (fun u hu => ht u (by simp [hu])) h1 (fun x hx => hlt x (by simp [hx])) (fun x hx => hs x (by simp [hx])), rfl⟩
theorem law_post {f : Func} {s : ChangeSpec} {apart fresh handsOn again : Bool} {W W' : World} {args : Array Value} {ds gs : List (DataW H)} {before : List MemPlace} {tb : TypeId}
    (hl : laidOutB P = true) (hro : f.params.toList.all (fun t => P.readableRec t && decide (t < P.types.size)) = true) (hres : f.resultTypes = #[tb]) (hbool : P.underlying tb = some .bool) (hvars : s.vars = [])
    (hW : DataW.Whole enc P f.params.toList s.vars apart W args.toList ds gs before) (hb : Below W.heap.size W W')
    (hs : s.fn H (ds ++ gs) = { results := [.lit (.bool true)], args := ds }) :
    s.post enc P f apart fresh handsOn again W args (.bool true) W' := by
  have hW' := hW
  obtain ⟨p, q, hA, hV, hpq, _, _⟩ := hW
  rw [hvars] at hV
  obtain ⟨rfl, rfl⟩ := trodVars_none hV
  rw [List.append_nil] at hpq
  subst hpq
  have hlt : ∀ x ∈ before, x.block < W.heap.size := fun x hx => hW'.lt x hx
  have hro' : ∀ t ∈ f.params.toList, P.readableRec t = true ∧ t < P.types.size := fun t ht => by
    have := List.all_eq_true.1 hro t ht
    simpa using this
  refine post_of_below (pa := before) (pv := []) hW' ?_ ?_ ?_ (by simp) hb ?_
  · intro b sp hd
    rw [hs, hres]
    exact trodAll_mk1 (shut_bool hbool true)
  · intro sp hsp
    rw [hs]
    exact trodAll_stays hl hb _ _ _ _ hro' hA hlt hsp
  · intro sp _
    rw [hs, hvars]
    exact rfl
  · exact ok_one hres rfl (okWide_bool_mk hbool true)
end
end Go.Proofs.Ytcdmgcgjonndpaa

/-  -/
namespace Go.Proofs.Ytcdmgcgjonndpaa
open Go Go.ChangeShapes Go.WideShapes Go.ChangeAt Go.RowKit Go.Joins
theorem own : ownKnob Try.prog.godebug = none := by kernel_rfl
theorem laidOut : laidOutB Try.prog = true := by kernel_rfl
end Go.Proofs.Ytcdmgcgjonndpaa
