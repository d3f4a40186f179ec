/-
  Several texts in one:  ·  · 
-/
import Derived.Test.YtcdmgcgjonndpaaK16
import Derived.Deep.DeepCutAuto
import Derived.Below
import Derived.Carry
import Derived.ChangeSame
import Derived.WideKeyArgs
import Derived.ProofKit
import Derived.Test.YtcdmgcgjonndpaaRows
import Derived.Lib.SmallJoins
import Derived.OpenShut
/-  -/
namespace Go.Proofs.Ytcdmgcgjonndpaa
open Go Go.RowKit Go.Shelf
open Go.Sort
open M
theorem IsBnd.ok {up : Bool} {a b t : Ty} (h : IsBnd up a b t) (hm : mayT t = true) : okT t = true := by unfold okT; rw [hm, h.good.plain]; rfl
def TdIs (up : Bool) (a b : Ty) (q : Bool) (t : Ty) : Prop := (q = true ∧ IsBnd up a b t ∧ mayT t = true) ∨ (q = false ∧ t = zTy ∧ ∀ t', IsBnd up a b t' → mayT t' = false)
theorem td_typ {up q : Bool} {a b : Ty} {S : Nat → Prop} {w : World} {l : List Value} (ha : okT a = true) (hb : okT b = true) (h : (q = true ∧ okT a = true ∧ okT b = true ∧ ∃ t, IsBnd up a b t ∧ mayT t = true ∧ TyAt (strike S w) l t) ∨ (q = false ∧ l = [.int .i64 0, .string ⟨#[]⟩, .int .i64 0, .string ⟨#[]⟩, .string ⟨#[]⟩, .slice none 0 0, .slice none 0 0] ∧ (okT a = true → okT b = true → ∀ t, IsBnd up a b t → mayT t = false))) :
  ∃ t An cn As cs, l = [.int .i64 t.kind, .string t.pkg, .int .i64 t.major, .string t.mod, .string t.name, .slice An t.names.length cn, .slice As t.subs.length cs] ∧ TyAt w [.int .i64 t.kind, .string t.pkg, .int .i64 t.major, .string t.mod, .string t.name, .slice An t.names.length cn, .slice As t.subs.length cs] t ∧ TdIs up a b q t := by
 rcases h with ⟨h1, -, -, t, h2, h3, hT⟩ | ⟨h1, rfl, h2⟩
 ·obtain ⟨An, cn, As, cs, rfl, -⟩ := hT.parts
  exact ⟨t, An, cn, As, cs, rfl, hT.full, .inl ⟨h1, h2, h3⟩⟩
 ·exact ⟨zTy, none, 0, none, 0, rfl, zeroT_at w, .inr ⟨h1, rfl, h2 ha hb⟩⟩
theorem TdIs.one {up q q' : Bool} {a b t t' : Ty} (h : TdIs up a b q t) (h' : TdIs up a b q' t') : q = q' ∧ t = t' := by
 rcases h with ⟨h1, h2, h3⟩ | ⟨h1, h2, h3⟩
 ·rcases h' with ⟨k1, k2, k3⟩ | ⟨k1, k2, k3⟩
  ·exact ⟨h1.trans k1.symm, h2.one k2⟩
  ·have := k3 t h2
   rw [h3] at this
   cases this
 ·rcases h' with ⟨k1, k2, k3⟩ | ⟨k1, k2, k3⟩
  ·have := h3 t' k2
   rw [k3] at this
   cases this
  ·exact ⟨h1.trans k1.symm, h2.trans k2.symm⟩
theorem TdIs.turn {up q : Bool} {a b t : Ty} (h : TdIs up a b q t) : TdIs up b a q t := by
 rcases h with ⟨h1, h2, h3⟩ | ⟨h1, h2, h3⟩
 ·exact .inl ⟨h1, h2.turn, h3⟩
 ·exact .inr ⟨h1, h2, fun t' ht => h3 t' ht.turn⟩
theorem TdIs.yes {up : Bool} {a b t : Ty} (h : TdIs up a b true t) : IsBnd up a b t ∧ okT t = true := by
 rcases h with ⟨-, h2, h3⟩ | ⟨h, -⟩
 ·exact ⟨h2, h2.ok h3⟩
 ·cases h
set_option maxRecDepth 100000 in
set_option maxHeartbeats 32000000 in
theorem subLeast_any (a b c : Ty) (la lb lc : List Value) (w : World) (hTa : TyAt w la a) (hTb : TyAt w lb b) (hTc : TyAt w lc c) :
  Calls Try.prog 6 #[.agg la.toArray, .agg lb.toArray, .agg lc.toArray] w fun e w' => e = .returned (.bool true) ∧ Below w.heap.size w w' := by
 obtain ⟨p, hp⟩ : ∃ p, p = okL a := ⟨_, rfl⟩
 have Hp := Lib.hid hp
 clear hp
 obtain ⟨q, hq⟩ : ∃ q, q = okL b := ⟨_, rfl⟩
 have Hq := Lib.hid hq
 clear hq
 obtain ⟨r, hr⟩ : ∃ r, r = okL c := ⟨_, rfl⟩
 have Hr := Lib.hid hr
 clear hr
 have HTa := Lib.hid hTa
 have HTb := Lib.hid hTb
 have HTc := Lib.hid hTc
 obtain ⟨An, Ac, As, Ad, rfl, -⟩ := hTa.parts
 obtain ⟨Bn, Bc, Bs, Bd, rfl, -⟩ := hTb.parts
 obtain ⟨Cn, Cc, Cs, Cd, rfl, -⟩ := hTc.parts
 obtain ⟨U0, hU0⟩ : ∃ U0, U0 = w.alloc (.cells #[.int .i64 a.kind, .string a.pkg, .int .i64 a.major, .string a.mod, .string a.name, .slice An a.names.length Ac, .slice As a.subs.length Ad] 25) := ⟨_, rfl⟩
 obtain ⟨U1, hU1⟩ : ∃ U1, U1 = U0.alloc (.cells #[.int .i64 b.kind, .string b.pkg, .int .i64 b.major, .string b.mod, .string b.name, .slice Bn b.names.length Bc, .slice Bs b.subs.length Bd] 25) := ⟨_, rfl⟩
 obtain ⟨U2, hU2⟩ : ∃ U2, U2 = U1.alloc (.cells #[.int .i64 c.kind, .string c.pkg, .int .i64 c.major, .string c.mod, .string c.name, .slice Cn c.names.length Cc, .slice Cs c.subs.length Cd] 25) := ⟨_, rfl⟩
 have s0 : U0.heap.size = w.heap.size + 1 := by rw [hU0]; simp
 have B0 : Below w.heap.size w U0 := by rw [hU0]; exact below_new (Below.refl _ _) _
 have O0 : U0.heap[w.heap.size]? = some (.cells #[.int .i64 a.kind, .string a.pkg, .int .i64 a.major, .string a.mod, .string a.name, .slice An a.names.length Ac, .slice As a.subs.length Ad] 25 (0, 0)) := by rw [hU0]; exact heap_alloc_new w _
 have s1 : U1.heap.size = w.heap.size + 1 + 1 := by rw [hU1]; simp [s0]
 have B1 : Below U0.heap.size U0 U1 := by rw [hU1]; exact below_new (Below.refl _ _) _
 have O1 : U1.heap[w.heap.size + 1]? = some (.cells #[.int .i64 b.kind, .string b.pkg, .int .i64 b.major, .string b.mod, .string b.name, .slice Bn b.names.length Bc, .slice Bs b.subs.length Bd] 25 (0, 0)) := by rw [hU1, ← s0]; exact heap_alloc_new U0 _
 have s2 : U2.heap.size = w.heap.size + 1 + 1 + 1 := by rw [hU2]; simp [s1]
 have B2 : Below U1.heap.size U1 U2 := by rw [hU2]; exact below_new (Below.refl _ _) _
 have O2 : U2.heap[w.heap.size + 1 + 1]? = some (.cells #[.int .i64 c.kind, .string c.pkg, .int .i64 c.major, .string c.mod, .string c.name, .slice Cn c.names.length Cc, .slice Cs c.subs.length Cd] 25 (0, 0)) := by rw [hU2, ← s1]; exact heap_alloc_new U1 _
 have BW : Below w.heap.size w U2 := below_over B0 (below_over B1 B2)
 have BXa : Hid (w.heap.size < U2.heap.size ∧ U2.heap[w.heap.size]? = some (.cells #[.int .i64 a.kind, .string a.pkg, .int .i64 a.major, .string a.mod, .string a.name, .slice An a.names.length Ac, .slice As a.subs.length Ad] 25 (0, 0))) := Lib.hid ⟨by omega, (B2.block _ (by omega)).trans ((B1.block _ (by omega)).trans (O0))⟩
 have KTa := Lib.hid (HTa.out.keep BW)
 have BXb : Hid (w.heap.size + 1 < U2.heap.size ∧ U2.heap[w.heap.size + 1]? = some (.cells #[.int .i64 b.kind, .string b.pkg, .int .i64 b.major, .string b.mod, .string b.name, .slice Bn b.names.length Bc, .slice Bs b.subs.length Bd] 25 (0, 0))) := Lib.hid ⟨by omega, (B2.block _ (by omega)).trans (O1)⟩
 have KTb := Lib.hid (HTb.out.keep BW)
 have BXc : Hid (w.heap.size + 1 + 1 < U2.heap.size ∧ U2.heap[w.heap.size + 1 + 1]? = some (.cells #[.int .i64 c.kind, .string c.pkg, .int .i64 c.major, .string c.mod, .string c.name, .slice Cn c.names.length Cc, .slice Cs c.subs.length Cd] 25 (0, 0))) := Lib.hid ⟨by omega, O2⟩
 have KTc := Lib.hid (HTc.out.keep BW)
 have HW : Hid (((w.alloc (.cells #[.int .i64 a.kind, .string a.pkg, .int .i64 a.major, .string a.mod, .string a.name, .slice An a.names.length Ac, .slice As a.subs.length Ad] 25)).alloc (.cells #[.int .i64 b.kind, .string b.pkg, .int .i64 b.major, .string b.mod, .string b.name, .slice Bn b.names.length Bc, .slice Bs b.subs.length Bd] 25)).alloc (.cells #[.int .i64 c.kind, .string c.pkg, .int .i64 c.major, .string c.mod, .string c.name, .slice Cn c.names.length Cc, .slice Cs c.subs.length Cd] 25) = U2) := Lib.hid (by rw [hU2, hU1, hU0])
 have HB := Lib.hid BW
 clear hU0 s0 B0 O0 hU1 s1 B1 O1 hU2 s2 B2 O2 BW hTa hTb hTc
 go_enter Try.func6, Try.ntmps6
 go_upto_region 1 with fail
 rw [HW.out]
 clear HW
 have CT := Lib.hid (up9_any U2)
 go_wp2_with fail
 refine CT.out.mono ?_; rintro e w1 ⟨rfl, hb⟩
 clear CT
 replace BXa := Lib.hid (box_step BXa.out hb)
 replace BXb := Lib.hid (box_step BXb.out hb)
 replace BXc := Lib.hid (box_step BXc.out hb)
 replace KTa := Lib.hid (KTa.out.keep hb)
 replace KTb := Lib.hid (KTb.out.keep hb)
 replace KTc := Lib.hid (KTc.out.keep hb)
 replace HB := Lib.hid (below_over HB.out hb)
 clear hb
 have CT := Lib.hid (lplain9_any a [.int .i64 a.kind, .string a.pkg, .int .i64 a.major, .string a.mod, .string a.name, .slice An a.names.length Ac, .slice As a.subs.length Ad] w1 KTa.out)
 rw [← Hp.out] at CT
 obtain ⟨-, Xa⟩ := BXa.out
 have xa0 := Lib.cell_of_heap Xa 0
 have xa1 := Lib.cell_of_heap Xa 1
 have xa2 := Lib.cell_of_heap Xa 2
 have xa3 := Lib.cell_of_heap Xa 3
 have xa4 := Lib.cell_of_heap Xa 4
 have xa5 := Lib.cell_of_heap Xa 5
 have xa6 := Lib.cell_of_heap Xa 6
 simp at xa0 xa1 xa2 xa3 xa4 xa5 xa6
 clear Xa
 go_wp2_with fail
 refine CT.out.mono ?_; rintro e w2 ⟨rfl, hb⟩
 clear xa0 xa1 xa2 xa3 xa4 xa5 xa6
 clear CT
 replace BXa := Lib.hid (box_step BXa.out hb)
 replace BXb := Lib.hid (box_step BXb.out hb)
 replace BXc := Lib.hid (box_step BXc.out hb)
 replace KTa := Lib.hid (KTa.out.keep hb)
 replace KTb := Lib.hid (KTb.out.keep hb)
 replace KTc := Lib.hid (KTc.out.keep hb)
 replace HB := Lib.hid (below_over HB.out hb)
 clear hb
 have CT := Lib.hid (lplain9_any b [.int .i64 b.kind, .string b.pkg, .int .i64 b.major, .string b.mod, .string b.name, .slice Bn b.names.length Bc, .slice Bs b.subs.length Bd] w2 KTb.out)
 rw [← Hq.out] at CT
 obtain ⟨-, Xb⟩ := BXb.out
 have xb0 := Lib.cell_of_heap Xb 0
 have xb1 := Lib.cell_of_heap Xb 1
 have xb2 := Lib.cell_of_heap Xb 2
 have xb3 := Lib.cell_of_heap Xb 3
 have xb4 := Lib.cell_of_heap Xb 4
 have xb5 := Lib.cell_of_heap Xb 5
 have xb6 := Lib.cell_of_heap Xb 6
 simp at xb0 xb1 xb2 xb3 xb4 xb5 xb6
 clear Xb
 go_wp2_with fail
 refine CT.out.mono ?_; rintro e w3 ⟨rfl, hb⟩
 clear xb0 xb1 xb2 xb3 xb4 xb5 xb6
 clear CT
 replace BXa := Lib.hid (box_step BXa.out hb)
 replace BXb := Lib.hid (box_step BXb.out hb)
 replace BXc := Lib.hid (box_step BXc.out hb)
 replace KTa := Lib.hid (KTa.out.keep hb)
 replace KTb := Lib.hid (KTb.out.keep hb)
 replace KTc := Lib.hid (KTc.out.keep hb)
 replace HB := Lib.hid (below_over HB.out hb)
 clear hb
 have CT := Lib.hid (lplain9_any c [.int .i64 c.kind, .string c.pkg, .int .i64 c.major, .string c.mod, .string c.name, .slice Cn c.names.length Cc, .slice Cs c.subs.length Cd] w3 KTc.out)
 rw [← Hr.out] at CT
 obtain ⟨-, Xc⟩ := BXc.out
 have xc0 := Lib.cell_of_heap Xc 0
 have xc1 := Lib.cell_of_heap Xc 1
 have xc2 := Lib.cell_of_heap Xc 2
 have xc3 := Lib.cell_of_heap Xc 3
 have xc4 := Lib.cell_of_heap Xc 4
 have xc5 := Lib.cell_of_heap Xc 5
 have xc6 := Lib.cell_of_heap Xc 6
 simp at xc0 xc1 xc2 xc3 xc4 xc5 xc6
 clear Xc
 go_wp2_with fail
 refine CT.out.mono ?_; rintro e w4 ⟨rfl, hb⟩
 clear xc0 xc1 xc2 xc3 xc4 xc5 xc6
 clear CT
 replace BXa := Lib.hid (box_step BXa.out hb)
 replace BXb := Lib.hid (box_step BXb.out hb)
 replace BXc := Lib.hid (box_step BXc.out hb)
 replace KTa := Lib.hid (KTa.out.keep hb)
 replace KTb := Lib.hid (KTb.out.keep hb)
 replace KTc := Lib.hid (KTc.out.keep hb)
 replace HB := Lib.hid (below_over HB.out hb)
 clear hb
 cases p with
 | false =>
  go_wp2_with fail
  go_ret
  exact ⟨rfl, HB.out⟩
 | true =>
  cases q with
  | false =>
   go_wp2_with fail
   go_ret
   exact ⟨rfl, HB.out⟩
  | true =>
   cases r with
   | false =>
    go_wp2_with fail
    go_ret
    exact ⟨rfl, HB.out⟩
   | true =>
    have OKa := Lib.hid (okL_ok Hp.out.symm)
    have OKb := Lib.hid (okL_ok Hq.out.symm)
    have OKc := Lib.hid (okL_ok Hr.out.symm)
    have CT := Lib.hid (Join_any9 a b [.int .i64 a.kind, .string a.pkg, .int .i64 a.major, .string a.mod, .string a.name, .slice An a.names.length Ac, .slice As a.subs.length Ad] [.int .i64 b.kind, .string b.pkg, .int .i64 b.major, .string b.mod, .string b.name, .slice Bn b.names.length Bc, .slice Bs b.subs.length Bd] w4 KTa.out KTb.out)
    obtain ⟨-, Xa⟩ := BXa.out
    have xa0 := Lib.cell_of_heap Xa 0
    have xa1 := Lib.cell_of_heap Xa 1
    have xa2 := Lib.cell_of_heap Xa 2
    have xa3 := Lib.cell_of_heap Xa 3
    have xa4 := Lib.cell_of_heap Xa 4
    have xa5 := Lib.cell_of_heap Xa 5
    have xa6 := Lib.cell_of_heap Xa 6
    obtain ⟨-, Xb⟩ := BXb.out
    have xb0 := Lib.cell_of_heap Xb 0
    have xb1 := Lib.cell_of_heap Xb 1
    have xb2 := Lib.cell_of_heap Xb 2
    have xb3 := Lib.cell_of_heap Xb 3
    have xb4 := Lib.cell_of_heap Xb 4
    have xb5 := Lib.cell_of_heap Xb 5
    have xb6 := Lib.cell_of_heap Xb 6
    simp at xa0 xa1 xa2 xa3 xa4 xa5 xa6 xb0 xb1 xb2 xb3 xb4 xb5 xb6
    clear Xa Xb
    go_wp2_with fail
    refine CT.out.mono ?_; rintro e w5 ⟨lx, i1, rfl, hb, hcase⟩
    obtain ⟨x, Xn, Xc, Xs, Xd, rfl, hTx, his⟩ := td_typ OKa.out OKb.out hcase
    have KTx := Lib.hid hTx
    have ISx := Lib.hid his
    clear hTx his hcase
    clear xa0 xa1 xa2 xa3 xa4 xa5 xa6 xb0 xb1 xb2 xb3 xb4 xb5 xb6
    clear CT
    replace BXa := Lib.hid (box_step BXa.out hb)
    replace BXb := Lib.hid (box_step BXb.out hb)
    replace BXc := Lib.hid (box_step BXc.out hb)
    replace KTa := Lib.hid (KTa.out.keep hb)
    replace KTb := Lib.hid (KTb.out.keep hb)
    replace KTc := Lib.hid (KTc.out.keep hb)
    replace HB := Lib.hid (below_over HB.out hb)
    clear hb
    obtain ⟨w6, hw6⟩ : ∃ w6, w6 = w5.alloc (.cells #[.int .i64 x.kind, .string x.pkg, .int .i64 x.major, .string x.mod, .string x.name, .slice Xn x.names.length Xc, .slice Xs x.subs.length Xd] 25) := ⟨_, rfl⟩
    have hb : Below w5.heap.size w5 w6 := by rw [hw6]; exact below_new (Below.refl _ _) _
    have BXx : Hid (w5.heap.size < w6.heap.size ∧ w6.heap[w5.heap.size]? = some (.cells #[.int .i64 x.kind, .string x.pkg, .int .i64 x.major, .string x.mod, .string x.name, .slice Xn x.names.length Xc, .slice Xs x.subs.length Xd] 25 (0, 0))) := Lib.hid ⟨by rw [hw6]; simp, by rw [hw6]; exact heap_alloc_new w5 _⟩
    have HQ6 := Lib.hid hw6
    clear hw6
    replace BXa := Lib.hid (box_step BXa.out hb)
    replace BXb := Lib.hid (box_step BXb.out hb)
    replace BXc := Lib.hid (box_step BXc.out hb)
    replace KTa := Lib.hid (KTa.out.keep hb)
    replace KTb := Lib.hid (KTb.out.keep hb)
    replace KTc := Lib.hid (KTc.out.keep hb)
    replace KTx := Lib.hid (KTx.out.keep hb)
    replace HB := Lib.hid (below_over HB.out hb)
    clear hb
    go_upto_region 8 with fail
    rw [← HQ6.out]
    clear HQ6
    have CT := Lib.hid (Join_any9 b a [.int .i64 b.kind, .string b.pkg, .int .i64 b.major, .string b.mod, .string b.name, .slice Bn b.names.length Bc, .slice Bs b.subs.length Bd] [.int .i64 a.kind, .string a.pkg, .int .i64 a.major, .string a.mod, .string a.name, .slice An a.names.length Ac, .slice As a.subs.length Ad] w6 KTb.out KTa.out)
    obtain ⟨-, Xb⟩ := BXb.out
    have xb0 := Lib.cell_of_heap Xb 0
    have xb1 := Lib.cell_of_heap Xb 1
    have xb2 := Lib.cell_of_heap Xb 2
    have xb3 := Lib.cell_of_heap Xb 3
    have xb4 := Lib.cell_of_heap Xb 4
    have xb5 := Lib.cell_of_heap Xb 5
    have xb6 := Lib.cell_of_heap Xb 6
    obtain ⟨-, Xa⟩ := BXa.out
    have xa0 := Lib.cell_of_heap Xa 0
    have xa1 := Lib.cell_of_heap Xa 1
    have xa2 := Lib.cell_of_heap Xa 2
    have xa3 := Lib.cell_of_heap Xa 3
    have xa4 := Lib.cell_of_heap Xa 4
    have xa5 := Lib.cell_of_heap Xa 5
    have xa6 := Lib.cell_of_heap Xa 6
    simp at xb0 xb1 xb2 xb3 xb4 xb5 xb6 xa0 xa1 xa2 xa3 xa4 xa5 xa6
    clear Xb Xa
    go_wp2_with fail
    refine CT.out.mono ?_; rintro e w7 ⟨lv, i2, rfl, hb, hcase⟩
    obtain ⟨v, Vn, Vc, Vs, Vd, rfl, hTv, his⟩ := td_typ OKb.out OKa.out hcase
    have KTv := Lib.hid hTv
    have ISv := Lib.hid his
    clear hTv his hcase
    clear xb0 xb1 xb2 xb3 xb4 xb5 xb6 xa0 xa1 xa2 xa3 xa4 xa5 xa6
    clear CT
    replace BXa := Lib.hid (box_step BXa.out hb)
    replace BXb := Lib.hid (box_step BXb.out hb)
    replace BXc := Lib.hid (box_step BXc.out hb)
    replace BXx := Lib.hid (box_step BXx.out hb)
    replace KTa := Lib.hid (KTa.out.keep hb)
    replace KTb := Lib.hid (KTb.out.keep hb)
    replace KTc := Lib.hid (KTc.out.keep hb)
    replace KTx := Lib.hid (KTx.out.keep hb)
    replace HB := Lib.hid (below_over HB.out hb)
    clear hb
    obtain ⟨w8, hw8⟩ : ∃ w8, w8 = w7.alloc (.cells #[.int .i64 v.kind, .string v.pkg, .int .i64 v.major, .string v.mod, .string v.name, .slice Vn v.names.length Vc, .slice Vs v.subs.length Vd] 25) := ⟨_, rfl⟩
    have hb : Below w7.heap.size w7 w8 := by rw [hw8]; exact below_new (Below.refl _ _) _
    have BXv : Hid (w7.heap.size < w8.heap.size ∧ w8.heap[w7.heap.size]? = some (.cells #[.int .i64 v.kind, .string v.pkg, .int .i64 v.major, .string v.mod, .string v.name, .slice Vn v.names.length Vc, .slice Vs v.subs.length Vd] 25 (0, 0))) := Lib.hid ⟨by rw [hw8]; simp, by rw [hw8]; exact heap_alloc_new w7 _⟩
    have HQ8 := Lib.hid hw8
    clear hw8
    replace BXa := Lib.hid (box_step BXa.out hb)
    replace BXb := Lib.hid (box_step BXb.out hb)
    replace BXc := Lib.hid (box_step BXc.out hb)
    replace BXx := Lib.hid (box_step BXx.out hb)
    replace KTa := Lib.hid (KTa.out.keep hb)
    replace KTb := Lib.hid (KTb.out.keep hb)
    replace KTc := Lib.hid (KTc.out.keep hb)
    replace KTx := Lib.hid (KTx.out.keep hb)
    replace KTv := Lib.hid (KTv.out.keep hb)
    replace HB := Lib.hid (below_over HB.out hb)
    clear hb
    go_upto_region 9 with fail
    rw [← HQ8.out]
    clear HQ8
    obtain ⟨e12, exv⟩ := ISx.out.one ISv.out.turn
    have EXV := Lib.hid exv
    subst e12
    clear exv
    have HSM : Hid (sameT x v = true) := Lib.hid ((sameT_iff x v).2 EXV.out)
    have hne : (i1 != i1) = false := by simp
    have CT := Lib.hid (same_any _ x v (Nat.le_refl _) (.agg #[.int .i64 x.kind, .string x.pkg, .int .i64 x.major, .string x.mod, .string x.name, .slice Xn x.names.length Xc, .slice Xs x.subs.length Xd]) (.agg #[.int .i64 v.kind, .string v.pkg, .int .i64 v.major, .string v.mod, .string v.name, .slice Vn v.names.length Vc, .slice Vs v.subs.length Vd]) w8 ⟨_, rfl, KTx.out⟩ ⟨_, rfl, KTv.out⟩)
    rw [HSM.out] at CT
    obtain ⟨-, Xx⟩ := BXx.out
    have xx0 := Lib.cell_of_heap Xx 0
    have xx1 := Lib.cell_of_heap Xx 1
    have xx2 := Lib.cell_of_heap Xx 2
    have xx3 := Lib.cell_of_heap Xx 3
    have xx4 := Lib.cell_of_heap Xx 4
    have xx5 := Lib.cell_of_heap Xx 5
    have xx6 := Lib.cell_of_heap Xx 6
    obtain ⟨-, Xv⟩ := BXv.out
    have xv0 := Lib.cell_of_heap Xv 0
    have xv1 := Lib.cell_of_heap Xv 1
    have xv2 := Lib.cell_of_heap Xv 2
    have xv3 := Lib.cell_of_heap Xv 3
    have xv4 := Lib.cell_of_heap Xv 4
    have xv5 := Lib.cell_of_heap Xv 5
    have xv6 := Lib.cell_of_heap Xv 6
    simp at xx0 xx1 xx2 xx3 xx4 xx5 xx6 xv0 xv1 xv2 xv3 xv4 xv5 xv6
    clear Xx Xv
    go_wp2_with fail
    refine CT.out.mono ?_; rintro e w9 ⟨rfl, hb⟩
    clear xx0 xx1 xx2 xx3 xx4 xx5 xx6 xv0 xv1 xv2 xv3 xv4 xv5 xv6
    clear CT
    replace BXa := Lib.hid (box_step BXa.out hb)
    replace BXb := Lib.hid (box_step BXb.out hb)
    replace BXc := Lib.hid (box_step BXc.out hb)
    replace BXx := Lib.hid (box_step BXx.out hb)
    replace BXv := Lib.hid (box_step BXv.out hb)
    replace KTa := Lib.hid (KTa.out.keep hb)
    replace KTb := Lib.hid (KTb.out.keep hb)
    replace KTc := Lib.hid (KTc.out.keep hb)
    replace KTx := Lib.hid (KTx.out.keep hb)
    replace KTv := Lib.hid (KTv.out.keep hb)
    replace HB := Lib.hid (below_over HB.out hb)
    clear hb
    have HC : Hid (Below w9.heap.size w9 w9) := Lib.hid (Below.refl _ _)
    go_upto_region 11 with fail
    go_cut [84] (fun s84 wx => s84 = .bool false ∧ Below w9.heap.size w9 wx)
    case first =>
     cases i1 with
     | false =>
      go_wp2_with fail
      go_meet
      exact ⟨rfl, HC.out⟩
     | true =>
      have YES := ISx.out.yes
      have OKx := Lib.hid YES.2
      have BDx := Lib.hid YES.1
      clear YES
      have HSa : Hid (subB a x = true) := Lib.hid (subB_iff.2 BDx.out.left)
      have CT := Lib.hid (subC_any9 a x [.int .i64 a.kind, .string a.pkg, .int .i64 a.major, .string a.mod, .string a.name, .slice An a.names.length Ac, .slice As a.subs.length Ad] [.int .i64 x.kind, .string x.pkg, .int .i64 x.major, .string x.mod, .string x.name, .slice Xn x.names.length Xc, .slice Xs x.subs.length Xd] w9 may9 may9 KTa.out KTx.out)
      rw [subP_of OKa.out OKx.out, HSa.out] at CT
      obtain ⟨-, Xa⟩ := BXa.out
      have xa0 := Lib.cell_of_heap Xa 0
      have xa1 := Lib.cell_of_heap Xa 1
      have xa2 := Lib.cell_of_heap Xa 2
      have xa3 := Lib.cell_of_heap Xa 3
      have xa4 := Lib.cell_of_heap Xa 4
      have xa5 := Lib.cell_of_heap Xa 5
      have xa6 := Lib.cell_of_heap Xa 6
      obtain ⟨-, Xx⟩ := BXx.out
      have xx0 := Lib.cell_of_heap Xx 0
      have xx1 := Lib.cell_of_heap Xx 1
      have xx2 := Lib.cell_of_heap Xx 2
      have xx3 := Lib.cell_of_heap Xx 3
      have xx4 := Lib.cell_of_heap Xx 4
      have xx5 := Lib.cell_of_heap Xx 5
      have xx6 := Lib.cell_of_heap Xx 6
      simp at xa0 xa1 xa2 xa3 xa4 xa5 xa6 xx0 xx1 xx2 xx3 xx4 xx5 xx6
      clear Xa Xx
      go_wp2_with fail
      refine CT.out.mono ?_; rintro e w10 ⟨rfl, hb⟩
      clear xa0 xa1 xa2 xa3 xa4 xa5 xa6 xx0 xx1 xx2 xx3 xx4 xx5 xx6
      clear CT
      replace BXa := Lib.hid (box_step BXa.out hb)
      replace BXb := Lib.hid (box_step BXb.out hb)
      replace BXc := Lib.hid (box_step BXc.out hb)
      replace BXx := Lib.hid (box_step BXx.out hb)
      replace KTa := Lib.hid (KTa.out.keep hb)
      replace KTb := Lib.hid (KTb.out.keep hb)
      replace KTc := Lib.hid (KTc.out.keep hb)
      replace KTx := Lib.hid (KTx.out.keep hb)
      replace HB := Lib.hid (below_over HB.out hb)
      replace HC := Lib.hid (below_over HC.out hb)
      clear hb
      have HSb : Hid (subB b x = true) := Lib.hid (subB_iff.2 BDx.out.right)
      have CT := Lib.hid (subC_any9 b x [.int .i64 b.kind, .string b.pkg, .int .i64 b.major, .string b.mod, .string b.name, .slice Bn b.names.length Bc, .slice Bs b.subs.length Bd] [.int .i64 x.kind, .string x.pkg, .int .i64 x.major, .string x.mod, .string x.name, .slice Xn x.names.length Xc, .slice Xs x.subs.length Xd] w10 may9 may9 KTb.out KTx.out)
      rw [subP_of OKb.out OKx.out, HSb.out] at CT
      obtain ⟨-, Xb⟩ := BXb.out
      have xb0 := Lib.cell_of_heap Xb 0
      have xb1 := Lib.cell_of_heap Xb 1
      have xb2 := Lib.cell_of_heap Xb 2
      have xb3 := Lib.cell_of_heap Xb 3
      have xb4 := Lib.cell_of_heap Xb 4
      have xb5 := Lib.cell_of_heap Xb 5
      have xb6 := Lib.cell_of_heap Xb 6
      obtain ⟨-, Xx⟩ := BXx.out
      have xx0 := Lib.cell_of_heap Xx 0
      have xx1 := Lib.cell_of_heap Xx 1
      have xx2 := Lib.cell_of_heap Xx 2
      have xx3 := Lib.cell_of_heap Xx 3
      have xx4 := Lib.cell_of_heap Xx 4
      have xx5 := Lib.cell_of_heap Xx 5
      have xx6 := Lib.cell_of_heap Xx 6
      simp at xb0 xb1 xb2 xb3 xb4 xb5 xb6 xx0 xx1 xx2 xx3 xx4 xx5 xx6
      clear Xb Xx
      go_wp2_with fail
      refine CT.out.mono ?_; rintro e w11 ⟨rfl, hb⟩
      clear xb0 xb1 xb2 xb3 xb4 xb5 xb6 xx0 xx1 xx2 xx3 xx4 xx5 xx6
      clear CT
      replace BXa := Lib.hid (box_step BXa.out hb)
      replace BXb := Lib.hid (box_step BXb.out hb)
      replace BXc := Lib.hid (box_step BXc.out hb)
      replace BXx := Lib.hid (box_step BXx.out hb)
      replace KTa := Lib.hid (KTa.out.keep hb)
      replace KTb := Lib.hid (KTb.out.keep hb)
      replace KTc := Lib.hid (KTc.out.keep hb)
      replace KTx := Lib.hid (KTx.out.keep hb)
      replace HB := Lib.hid (below_over HB.out hb)
      replace HC := Lib.hid (below_over HC.out hb)
      clear hb
      obtain ⟨d, hd⟩ : ∃ d, d = subB a c := ⟨_, rfl⟩
      have Hd := Lib.hid hd
      clear hd
      have CT := Lib.hid (subC_any9 a c [.int .i64 a.kind, .string a.pkg, .int .i64 a.major, .string a.mod, .string a.name, .slice An a.names.length Ac, .slice As a.subs.length Ad] [.int .i64 c.kind, .string c.pkg, .int .i64 c.major, .string c.mod, .string c.name, .slice Cn c.names.length Cc, .slice Cs c.subs.length Cd] w11 may9 may9 KTa.out KTc.out)
      rw [subP_of OKa.out OKc.out, ← Hd.out] at CT
      obtain ⟨-, Xa⟩ := BXa.out
      have xa0 := Lib.cell_of_heap Xa 0
      have xa1 := Lib.cell_of_heap Xa 1
      have xa2 := Lib.cell_of_heap Xa 2
      have xa3 := Lib.cell_of_heap Xa 3
      have xa4 := Lib.cell_of_heap Xa 4
      have xa5 := Lib.cell_of_heap Xa 5
      have xa6 := Lib.cell_of_heap Xa 6
      obtain ⟨-, Xc⟩ := BXc.out
      have xc0 := Lib.cell_of_heap Xc 0
      have xc1 := Lib.cell_of_heap Xc 1
      have xc2 := Lib.cell_of_heap Xc 2
      have xc3 := Lib.cell_of_heap Xc 3
      have xc4 := Lib.cell_of_heap Xc 4
      have xc5 := Lib.cell_of_heap Xc 5
      have xc6 := Lib.cell_of_heap Xc 6
      simp at xa0 xa1 xa2 xa3 xa4 xa5 xa6 xc0 xc1 xc2 xc3 xc4 xc5 xc6
      clear Xa Xc
      go_wp2_with fail
      refine CT.out.mono ?_; rintro e w12 ⟨rfl, hb⟩
      clear xa0 xa1 xa2 xa3 xa4 xa5 xa6 xc0 xc1 xc2 xc3 xc4 xc5 xc6
      clear CT
      replace BXa := Lib.hid (box_step BXa.out hb)
      replace BXb := Lib.hid (box_step BXb.out hb)
      replace BXc := Lib.hid (box_step BXc.out hb)
      replace BXx := Lib.hid (box_step BXx.out hb)
      replace KTa := Lib.hid (KTa.out.keep hb)
      replace KTb := Lib.hid (KTb.out.keep hb)
      replace KTc := Lib.hid (KTc.out.keep hb)
      replace KTx := Lib.hid (KTx.out.keep hb)
      replace HB := Lib.hid (below_over HB.out hb)
      replace HC := Lib.hid (below_over HC.out hb)
      clear hb
      cases d with
      | false =>
       go_wp2_with fail
       go_meet
       exact ⟨rfl, HC.out⟩
      | true =>
       obtain ⟨e, he⟩ : ∃ e, e = subB b c := ⟨_, rfl⟩
       have He := Lib.hid he
       clear he
       have CT := Lib.hid (subC_any9 b c [.int .i64 b.kind, .string b.pkg, .int .i64 b.major, .string b.mod, .string b.name, .slice Bn b.names.length Bc, .slice Bs b.subs.length Bd] [.int .i64 c.kind, .string c.pkg, .int .i64 c.major, .string c.mod, .string c.name, .slice Cn c.names.length Cc, .slice Cs c.subs.length Cd] w12 may9 may9 KTb.out KTc.out)
       rw [subP_of OKb.out OKc.out, ← He.out] at CT
       obtain ⟨-, Xb⟩ := BXb.out
       have xb0 := Lib.cell_of_heap Xb 0
       have xb1 := Lib.cell_of_heap Xb 1
       have xb2 := Lib.cell_of_heap Xb 2
       have xb3 := Lib.cell_of_heap Xb 3
       have xb4 := Lib.cell_of_heap Xb 4
       have xb5 := Lib.cell_of_heap Xb 5
       have xb6 := Lib.cell_of_heap Xb 6
       obtain ⟨-, Xc⟩ := BXc.out
       have xc0 := Lib.cell_of_heap Xc 0
       have xc1 := Lib.cell_of_heap Xc 1
       have xc2 := Lib.cell_of_heap Xc 2
       have xc3 := Lib.cell_of_heap Xc 3
       have xc4 := Lib.cell_of_heap Xc 4
       have xc5 := Lib.cell_of_heap Xc 5
       have xc6 := Lib.cell_of_heap Xc 6
       simp at xb0 xb1 xb2 xb3 xb4 xb5 xb6 xc0 xc1 xc2 xc3 xc4 xc5 xc6
       clear Xb Xc
       go_wp2_with fail
       refine CT.out.mono ?_; rintro e w13 ⟨rfl, hb⟩
       clear xb0 xb1 xb2 xb3 xb4 xb5 xb6 xc0 xc1 xc2 xc3 xc4 xc5 xc6
       clear CT
       replace BXa := Lib.hid (box_step BXa.out hb)
       replace BXb := Lib.hid (box_step BXb.out hb)
       replace BXc := Lib.hid (box_step BXc.out hb)
       replace BXx := Lib.hid (box_step BXx.out hb)
       replace KTa := Lib.hid (KTa.out.keep hb)
       replace KTb := Lib.hid (KTb.out.keep hb)
       replace KTc := Lib.hid (KTc.out.keep hb)
       replace KTx := Lib.hid (KTx.out.keep hb)
       replace HB := Lib.hid (below_over HB.out hb)
       replace HC := Lib.hid (below_over HC.out hb)
       clear hb
       cases e with
       | false =>
        go_wp2_with fail
        go_meet
        exact ⟨rfl, HC.out⟩
       | true =>
        have HSc : Hid (subB x c = true) := Lib.hid (subB_iff.2 (BDx.out.near c (okT_good OKc.out) (subB_iff.1 Hd.out.symm) (subB_iff.1 He.out.symm)))
        have CT := Lib.hid (subC_any9 x c [.int .i64 x.kind, .string x.pkg, .int .i64 x.major, .string x.mod, .string x.name, .slice Xn x.names.length Xc, .slice Xs x.subs.length Xd] [.int .i64 c.kind, .string c.pkg, .int .i64 c.major, .string c.mod, .string c.name, .slice Cn c.names.length Cc, .slice Cs c.subs.length Cd] w13 may9 may9 KTx.out KTc.out)
        rw [subP_of OKx.out OKc.out, HSc.out] at CT
        obtain ⟨-, Xx⟩ := BXx.out
        have xx0 := Lib.cell_of_heap Xx 0
        have xx1 := Lib.cell_of_heap Xx 1
        have xx2 := Lib.cell_of_heap Xx 2
        have xx3 := Lib.cell_of_heap Xx 3
        have xx4 := Lib.cell_of_heap Xx 4
        have xx5 := Lib.cell_of_heap Xx 5
        have xx6 := Lib.cell_of_heap Xx 6
        obtain ⟨-, Xc⟩ := BXc.out
        have xc0 := Lib.cell_of_heap Xc 0
        have xc1 := Lib.cell_of_heap Xc 1
        have xc2 := Lib.cell_of_heap Xc 2
        have xc3 := Lib.cell_of_heap Xc 3
        have xc4 := Lib.cell_of_heap Xc 4
        have xc5 := Lib.cell_of_heap Xc 5
        have xc6 := Lib.cell_of_heap Xc 6
        simp at xx0 xx1 xx2 xx3 xx4 xx5 xx6 xc0 xc1 xc2 xc3 xc4 xc5 xc6
        clear Xx Xc
        go_wp2_with fail
        refine CT.out.mono ?_; rintro e w14 ⟨rfl, hb⟩
        clear xx0 xx1 xx2 xx3 xx4 xx5 xx6 xc0 xc1 xc2 xc3 xc4 xc5 xc6
        clear CT
        replace BXa := Lib.hid (box_step BXa.out hb)
        replace BXb := Lib.hid (box_step BXb.out hb)
        replace BXc := Lib.hid (box_step BXc.out hb)
        replace BXx := Lib.hid (box_step BXx.out hb)
        replace KTa := Lib.hid (KTa.out.keep hb)
        replace KTb := Lib.hid (KTb.out.keep hb)
        replace KTc := Lib.hid (KTc.out.keep hb)
        replace KTx := Lib.hid (KTx.out.keep hb)
        replace HB := Lib.hid (below_over HB.out hb)
        replace HC := Lib.hid (below_over HC.out hb)
        clear hb
        go_wp2_with fail
        go_meet
        exact ⟨rfl, HC.out⟩
    case rest =>
     obtain ⟨rfl, hb⟩ := hcut
     obtain ⟨w35, rfl⟩ : ∃ w35 : World, w35 = wc := ⟨_, rfl⟩
     clear HC
     replace BXa := Lib.hid (box_step BXa.out hb)
     replace BXb := Lib.hid (box_step BXb.out hb)
     replace BXc := Lib.hid (box_step BXc.out hb)
     replace BXx := Lib.hid (box_step BXx.out hb)
     replace KTa := Lib.hid (KTa.out.keep hb)
     replace KTb := Lib.hid (KTb.out.keep hb)
     replace KTc := Lib.hid (KTc.out.keep hb)
     replace KTx := Lib.hid (KTx.out.keep hb)
     replace HB := Lib.hid (below_over HB.out hb)
     clear hb
     have CT := Lib.hid (Meet_any9 a b [.int .i64 a.kind, .string a.pkg, .int .i64 a.major, .string a.mod, .string a.name, .slice An a.names.length Ac, .slice As a.subs.length Ad] [.int .i64 b.kind, .string b.pkg, .int .i64 b.major, .string b.mod, .string b.name, .slice Bn b.names.length Bc, .slice Bs b.subs.length Bd] w35 KTa.out KTb.out)
     obtain ⟨-, Xa⟩ := BXa.out
     have xa0 := Lib.cell_of_heap Xa 0
     have xa1 := Lib.cell_of_heap Xa 1
     have xa2 := Lib.cell_of_heap Xa 2
     have xa3 := Lib.cell_of_heap Xa 3
     have xa4 := Lib.cell_of_heap Xa 4
     have xa5 := Lib.cell_of_heap Xa 5
     have xa6 := Lib.cell_of_heap Xa 6
     obtain ⟨-, Xb⟩ := BXb.out
     have xb0 := Lib.cell_of_heap Xb 0
     have xb1 := Lib.cell_of_heap Xb 1
     have xb2 := Lib.cell_of_heap Xb 2
     have xb3 := Lib.cell_of_heap Xb 3
     have xb4 := Lib.cell_of_heap Xb 4
     have xb5 := Lib.cell_of_heap Xb 5
     have xb6 := Lib.cell_of_heap Xb 6
     simp at xa0 xa1 xa2 xa3 xa4 xa5 xa6 xb0 xb1 xb2 xb3 xb4 xb5 xb6
     clear Xa Xb
     go_wp2_with fail
     refine CT.out.mono ?_; rintro e w36 ⟨ly, i3, rfl, hb, hcase⟩
     obtain ⟨y, Yn, Yc, Ys, Yd, rfl, hTy, his⟩ := td_typ OKa.out OKb.out hcase
     have KTy := Lib.hid hTy
     have ISy := Lib.hid his
     clear hTy his hcase
     clear xa0 xa1 xa2 xa3 xa4 xa5 xa6 xb0 xb1 xb2 xb3 xb4 xb5 xb6
     clear CT
     replace BXa := Lib.hid (box_step BXa.out hb)
     replace BXb := Lib.hid (box_step BXb.out hb)
     replace BXc := Lib.hid (box_step BXc.out hb)
     replace BXx := Lib.hid (box_step BXx.out hb)
     replace KTa := Lib.hid (KTa.out.keep hb)
     replace KTb := Lib.hid (KTb.out.keep hb)
     replace KTc := Lib.hid (KTc.out.keep hb)
     replace KTx := Lib.hid (KTx.out.keep hb)
     replace HB := Lib.hid (below_over HB.out hb)
     clear hb
     obtain ⟨w37, hw37⟩ : ∃ w37, w37 = w36.alloc (.cells #[.int .i64 y.kind, .string y.pkg, .int .i64 y.major, .string y.mod, .string y.name, .slice Yn y.names.length Yc, .slice Ys y.subs.length Yd] 25) := ⟨_, rfl⟩
     have hb : Below w36.heap.size w36 w37 := by rw [hw37]; exact below_new (Below.refl _ _) _
     have BXy : Hid (w36.heap.size < w37.heap.size ∧ w37.heap[w36.heap.size]? = some (.cells #[.int .i64 y.kind, .string y.pkg, .int .i64 y.major, .string y.mod, .string y.name, .slice Yn y.names.length Yc, .slice Ys y.subs.length Yd] 25 (0, 0))) := Lib.hid ⟨by rw [hw37]; simp, by rw [hw37]; exact heap_alloc_new w36 _⟩
     have HQ37 := Lib.hid hw37
     clear hw37
     replace BXa := Lib.hid (box_step BXa.out hb)
     replace BXb := Lib.hid (box_step BXb.out hb)
     replace BXc := Lib.hid (box_step BXc.out hb)
     replace BXx := Lib.hid (box_step BXx.out hb)
     replace KTa := Lib.hid (KTa.out.keep hb)
     replace KTb := Lib.hid (KTb.out.keep hb)
     replace KTc := Lib.hid (KTc.out.keep hb)
     replace KTx := Lib.hid (KTx.out.keep hb)
     replace KTy := Lib.hid (KTy.out.keep hb)
     replace HB := Lib.hid (below_over HB.out hb)
     clear hb
     go_upto_region 14 with fail
     rw [← HQ37.out]
     clear HQ37
     have HC : Hid (Below w37.heap.size w37 w37) := Lib.hid (Below.refl _ _)
     go_upto_region 14 with fail
     go_cut [119] (fun s119 wx => s119 = .bool false ∧ Below w37.heap.size w37 wx)
     case first =>
      cases i3 with
      | false =>
       go_wp2_with fail
       go_meet
       exact ⟨rfl, HC.out⟩
      | true =>
       have YES := ISy.out.yes
       have OKy := Lib.hid YES.2
       have BDy := Lib.hid YES.1
       clear YES
       have HSa : Hid (subB y a = true) := Lib.hid (subB_iff.2 BDy.out.left)
       have CT := Lib.hid (subC_any9 y a [.int .i64 y.kind, .string y.pkg, .int .i64 y.major, .string y.mod, .string y.name, .slice Yn y.names.length Yc, .slice Ys y.subs.length Yd] [.int .i64 a.kind, .string a.pkg, .int .i64 a.major, .string a.mod, .string a.name, .slice An a.names.length Ac, .slice As a.subs.length Ad] w37 may9 may9 KTy.out KTa.out)
       rw [subP_of OKy.out OKa.out, HSa.out] at CT
       obtain ⟨-, Xy⟩ := BXy.out
       have xy0 := Lib.cell_of_heap Xy 0
       have xy1 := Lib.cell_of_heap Xy 1
       have xy2 := Lib.cell_of_heap Xy 2
       have xy3 := Lib.cell_of_heap Xy 3
       have xy4 := Lib.cell_of_heap Xy 4
       have xy5 := Lib.cell_of_heap Xy 5
       have xy6 := Lib.cell_of_heap Xy 6
       obtain ⟨-, Xa⟩ := BXa.out
       have xa0 := Lib.cell_of_heap Xa 0
       have xa1 := Lib.cell_of_heap Xa 1
       have xa2 := Lib.cell_of_heap Xa 2
       have xa3 := Lib.cell_of_heap Xa 3
       have xa4 := Lib.cell_of_heap Xa 4
       have xa5 := Lib.cell_of_heap Xa 5
       have xa6 := Lib.cell_of_heap Xa 6
       simp at xy0 xy1 xy2 xy3 xy4 xy5 xy6 xa0 xa1 xa2 xa3 xa4 xa5 xa6
       clear Xy Xa
       go_wp2_with fail
       refine CT.out.mono ?_; rintro e w38 ⟨rfl, hb⟩
       clear xy0 xy1 xy2 xy3 xy4 xy5 xy6 xa0 xa1 xa2 xa3 xa4 xa5 xa6
       clear CT
       replace BXa := Lib.hid (box_step BXa.out hb)
       replace BXb := Lib.hid (box_step BXb.out hb)
       replace BXc := Lib.hid (box_step BXc.out hb)
       replace BXx := Lib.hid (box_step BXx.out hb)
       replace BXy := Lib.hid (box_step BXy.out hb)
       replace KTa := Lib.hid (KTa.out.keep hb)
       replace KTb := Lib.hid (KTb.out.keep hb)
       replace KTc := Lib.hid (KTc.out.keep hb)
       replace KTx := Lib.hid (KTx.out.keep hb)
       replace KTy := Lib.hid (KTy.out.keep hb)
       replace HB := Lib.hid (below_over HB.out hb)
       replace HC := Lib.hid (below_over HC.out hb)
       clear hb
       have HSb : Hid (subB y b = true) := Lib.hid (subB_iff.2 BDy.out.right)
       have CT := Lib.hid (subC_any9 y b [.int .i64 y.kind, .string y.pkg, .int .i64 y.major, .string y.mod, .string y.name, .slice Yn y.names.length Yc, .slice Ys y.subs.length Yd] [.int .i64 b.kind, .string b.pkg, .int .i64 b.major, .string b.mod, .string b.name, .slice Bn b.names.length Bc, .slice Bs b.subs.length Bd] w38 may9 may9 KTy.out KTb.out)
       rw [subP_of OKy.out OKb.out, HSb.out] at CT
       obtain ⟨-, Xy⟩ := BXy.out
       have xy0 := Lib.cell_of_heap Xy 0
       have xy1 := Lib.cell_of_heap Xy 1
       have xy2 := Lib.cell_of_heap Xy 2
       have xy3 := Lib.cell_of_heap Xy 3
       have xy4 := Lib.cell_of_heap Xy 4
       have xy5 := Lib.cell_of_heap Xy 5
       have xy6 := Lib.cell_of_heap Xy 6
       obtain ⟨-, Xb⟩ := BXb.out
       have xb0 := Lib.cell_of_heap Xb 0
       have xb1 := Lib.cell_of_heap Xb 1
       have xb2 := Lib.cell_of_heap Xb 2
       have xb3 := Lib.cell_of_heap Xb 3
       have xb4 := Lib.cell_of_heap Xb 4
       have xb5 := Lib.cell_of_heap Xb 5
       have xb6 := Lib.cell_of_heap Xb 6
       simp at xy0 xy1 xy2 xy3 xy4 xy5 xy6 xb0 xb1 xb2 xb3 xb4 xb5 xb6
       clear Xy Xb
       go_wp2_with fail
       refine CT.out.mono ?_; rintro e w39 ⟨rfl, hb⟩
       clear xy0 xy1 xy2 xy3 xy4 xy5 xy6 xb0 xb1 xb2 xb3 xb4 xb5 xb6
       clear CT
       replace BXa := Lib.hid (box_step BXa.out hb)
       replace BXb := Lib.hid (box_step BXb.out hb)
       replace BXc := Lib.hid (box_step BXc.out hb)
       replace BXx := Lib.hid (box_step BXx.out hb)
       replace BXy := Lib.hid (box_step BXy.out hb)
       replace KTa := Lib.hid (KTa.out.keep hb)
       replace KTb := Lib.hid (KTb.out.keep hb)
       replace KTc := Lib.hid (KTc.out.keep hb)
       replace KTx := Lib.hid (KTx.out.keep hb)
       replace KTy := Lib.hid (KTy.out.keep hb)
       replace HB := Lib.hid (below_over HB.out hb)
       replace HC := Lib.hid (below_over HC.out hb)
       clear hb
       obtain ⟨d, hd⟩ : ∃ d, d = subB c a := ⟨_, rfl⟩
       have Hd := Lib.hid hd
       clear hd
       have CT := Lib.hid (subC_any9 c a [.int .i64 c.kind, .string c.pkg, .int .i64 c.major, .string c.mod, .string c.name, .slice Cn c.names.length Cc, .slice Cs c.subs.length Cd] [.int .i64 a.kind, .string a.pkg, .int .i64 a.major, .string a.mod, .string a.name, .slice An a.names.length Ac, .slice As a.subs.length Ad] w39 may9 may9 KTc.out KTa.out)
       rw [subP_of OKc.out OKa.out, ← Hd.out] at CT
       obtain ⟨-, Xc⟩ := BXc.out
       have xc0 := Lib.cell_of_heap Xc 0
       have xc1 := Lib.cell_of_heap Xc 1
       have xc2 := Lib.cell_of_heap Xc 2
       have xc3 := Lib.cell_of_heap Xc 3
       have xc4 := Lib.cell_of_heap Xc 4
       have xc5 := Lib.cell_of_heap Xc 5
       have xc6 := Lib.cell_of_heap Xc 6
       obtain ⟨-, Xa⟩ := BXa.out
       have xa0 := Lib.cell_of_heap Xa 0
       have xa1 := Lib.cell_of_heap Xa 1
       have xa2 := Lib.cell_of_heap Xa 2
       have xa3 := Lib.cell_of_heap Xa 3
       have xa4 := Lib.cell_of_heap Xa 4
       have xa5 := Lib.cell_of_heap Xa 5
       have xa6 := Lib.cell_of_heap Xa 6
       simp at xc0 xc1 xc2 xc3 xc4 xc5 xc6 xa0 xa1 xa2 xa3 xa4 xa5 xa6
       clear Xc Xa
       go_wp2_with fail
       refine CT.out.mono ?_; rintro e w40 ⟨rfl, hb⟩
       clear xc0 xc1 xc2 xc3 xc4 xc5 xc6 xa0 xa1 xa2 xa3 xa4 xa5 xa6
       clear CT
       replace BXa := Lib.hid (box_step BXa.out hb)
       replace BXb := Lib.hid (box_step BXb.out hb)
       replace BXc := Lib.hid (box_step BXc.out hb)
       replace BXx := Lib.hid (box_step BXx.out hb)
       replace BXy := Lib.hid (box_step BXy.out hb)
       replace KTa := Lib.hid (KTa.out.keep hb)
       replace KTb := Lib.hid (KTb.out.keep hb)
       replace KTc := Lib.hid (KTc.out.keep hb)
       replace KTx := Lib.hid (KTx.out.keep hb)
       replace KTy := Lib.hid (KTy.out.keep hb)
       replace HB := Lib.hid (below_over HB.out hb)
       replace HC := Lib.hid (below_over HC.out hb)
       clear hb
       cases d with
       | false =>
        go_wp2_with fail
        go_meet
        exact ⟨rfl, HC.out⟩
       | true =>
        obtain ⟨e, he⟩ : ∃ e, e = subB c b := ⟨_, rfl⟩
        have He := Lib.hid he
        clear he
        have CT := Lib.hid (subC_any9 c b [.int .i64 c.kind, .string c.pkg, .int .i64 c.major, .string c.mod, .string c.name, .slice Cn c.names.length Cc, .slice Cs c.subs.length Cd] [.int .i64 b.kind, .string b.pkg, .int .i64 b.major, .string b.mod, .string b.name, .slice Bn b.names.length Bc, .slice Bs b.subs.length Bd] w40 may9 may9 KTc.out KTb.out)
        rw [subP_of OKc.out OKb.out, ← He.out] at CT
        obtain ⟨-, Xc⟩ := BXc.out
        have xc0 := Lib.cell_of_heap Xc 0
        have xc1 := Lib.cell_of_heap Xc 1
        have xc2 := Lib.cell_of_heap Xc 2
        have xc3 := Lib.cell_of_heap Xc 3
        have xc4 := Lib.cell_of_heap Xc 4
        have xc5 := Lib.cell_of_heap Xc 5
        have xc6 := Lib.cell_of_heap Xc 6
        obtain ⟨-, Xb⟩ := BXb.out
        have xb0 := Lib.cell_of_heap Xb 0
        have xb1 := Lib.cell_of_heap Xb 1
        have xb2 := Lib.cell_of_heap Xb 2
        have xb3 := Lib.cell_of_heap Xb 3
        have xb4 := Lib.cell_of_heap Xb 4
        have xb5 := Lib.cell_of_heap Xb 5
        have xb6 := Lib.cell_of_heap Xb 6
        simp at xc0 xc1 xc2 xc3 xc4 xc5 xc6 xb0 xb1 xb2 xb3 xb4 xb5 xb6
        clear Xc Xb
        go_wp2_with fail
        refine CT.out.mono ?_; rintro e w41 ⟨rfl, hb⟩
        clear xc0 xc1 xc2 xc3 xc4 xc5 xc6 xb0 xb1 xb2 xb3 xb4 xb5 xb6
        clear CT
        replace BXa := Lib.hid (box_step BXa.out hb)
        replace BXb := Lib.hid (box_step BXb.out hb)
        replace BXc := Lib.hid (box_step BXc.out hb)
        replace BXx := Lib.hid (box_step BXx.out hb)
        replace BXy := Lib.hid (box_step BXy.out hb)
        replace KTa := Lib.hid (KTa.out.keep hb)
        replace KTb := Lib.hid (KTb.out.keep hb)
        replace KTc := Lib.hid (KTc.out.keep hb)
        replace KTx := Lib.hid (KTx.out.keep hb)
        replace KTy := Lib.hid (KTy.out.keep hb)
        replace HB := Lib.hid (below_over HB.out hb)
        replace HC := Lib.hid (below_over HC.out hb)
        clear hb
        cases e with
        | false =>
         go_wp2_with fail
         go_meet
         exact ⟨rfl, HC.out⟩
        | true =>
         have HSc : Hid (subB c y = true) := Lib.hid (subB_iff.2 (BDy.out.near c (okT_good OKc.out) (subB_iff.1 Hd.out.symm) (subB_iff.1 He.out.symm)))
         have CT := Lib.hid (subC_any9 c y [.int .i64 c.kind, .string c.pkg, .int .i64 c.major, .string c.mod, .string c.name, .slice Cn c.names.length Cc, .slice Cs c.subs.length Cd] [.int .i64 y.kind, .string y.pkg, .int .i64 y.major, .string y.mod, .string y.name, .slice Yn y.names.length Yc, .slice Ys y.subs.length Yd] w41 may9 may9 KTc.out KTy.out)
         rw [subP_of OKc.out OKy.out, HSc.out] at CT
         obtain ⟨-, Xc⟩ := BXc.out
         have xc0 := Lib.cell_of_heap Xc 0
         have xc1 := Lib.cell_of_heap Xc 1
         have xc2 := Lib.cell_of_heap Xc 2
         have xc3 := Lib.cell_of_heap Xc 3
         have xc4 := Lib.cell_of_heap Xc 4
         have xc5 := Lib.cell_of_heap Xc 5
         have xc6 := Lib.cell_of_heap Xc 6
         obtain ⟨-, Xy⟩ := BXy.out
         have xy0 := Lib.cell_of_heap Xy 0
         have xy1 := Lib.cell_of_heap Xy 1
         have xy2 := Lib.cell_of_heap Xy 2
         have xy3 := Lib.cell_of_heap Xy 3
         have xy4 := Lib.cell_of_heap Xy 4
         have xy5 := Lib.cell_of_heap Xy 5
         have xy6 := Lib.cell_of_heap Xy 6
         simp at xc0 xc1 xc2 xc3 xc4 xc5 xc6 xy0 xy1 xy2 xy3 xy4 xy5 xy6
         clear Xc Xy
         go_wp2_with fail
         refine CT.out.mono ?_; rintro e w42 ⟨rfl, hb⟩
         clear xc0 xc1 xc2 xc3 xc4 xc5 xc6 xy0 xy1 xy2 xy3 xy4 xy5 xy6
         clear CT
         replace BXa := Lib.hid (box_step BXa.out hb)
         replace BXb := Lib.hid (box_step BXb.out hb)
         replace BXc := Lib.hid (box_step BXc.out hb)
         replace BXx := Lib.hid (box_step BXx.out hb)
         replace BXy := Lib.hid (box_step BXy.out hb)
         replace KTa := Lib.hid (KTa.out.keep hb)
         replace KTb := Lib.hid (KTb.out.keep hb)
         replace KTc := Lib.hid (KTc.out.keep hb)
         replace KTx := Lib.hid (KTx.out.keep hb)
         replace KTy := Lib.hid (KTy.out.keep hb)
         replace HB := Lib.hid (below_over HB.out hb)
         replace HC := Lib.hid (below_over HC.out hb)
         clear hb
         go_wp2_with fail
         go_meet
         exact ⟨rfl, HC.out⟩
     case rest =>
      obtain ⟨rfl, hb⟩ := hcut
      obtain ⟨w63, rfl⟩ : ∃ w63 : World, w63 = wc := ⟨_, rfl⟩
      clear HC
      replace BXa := Lib.hid (box_step BXa.out hb)
      replace BXb := Lib.hid (box_step BXb.out hb)
      replace BXc := Lib.hid (box_step BXc.out hb)
      replace BXx := Lib.hid (box_step BXx.out hb)
      replace BXy := Lib.hid (box_step BXy.out hb)
      replace KTa := Lib.hid (KTa.out.keep hb)
      replace KTb := Lib.hid (KTb.out.keep hb)
      replace KTc := Lib.hid (KTc.out.keep hb)
      replace KTx := Lib.hid (KTx.out.keep hb)
      replace KTy := Lib.hid (KTy.out.keep hb)
      replace HB := Lib.hid (below_over HB.out hb)
      clear hb
      obtain ⟨o, ho⟩ : ∃ o, o = subB a b := ⟨_, rfl⟩
      have Ho := Lib.hid ho
      clear ho
      have CT := Lib.hid (subC_any9 a b [.int .i64 a.kind, .string a.pkg, .int .i64 a.major, .string a.mod, .string a.name, .slice An a.names.length Ac, .slice As a.subs.length Ad] [.int .i64 b.kind, .string b.pkg, .int .i64 b.major, .string b.mod, .string b.name, .slice Bn b.names.length Bc, .slice Bs b.subs.length Bd] w63 may9 may9 KTa.out KTb.out)
      rw [subP_of OKa.out OKb.out, ← Ho.out] at CT
      obtain ⟨-, Xa⟩ := BXa.out
      have xa0 := Lib.cell_of_heap Xa 0
      have xa1 := Lib.cell_of_heap Xa 1
      have xa2 := Lib.cell_of_heap Xa 2
      have xa3 := Lib.cell_of_heap Xa 3
      have xa4 := Lib.cell_of_heap Xa 4
      have xa5 := Lib.cell_of_heap Xa 5
      have xa6 := Lib.cell_of_heap Xa 6
      obtain ⟨-, Xb⟩ := BXb.out
      have xb0 := Lib.cell_of_heap Xb 0
      have xb1 := Lib.cell_of_heap Xb 1
      have xb2 := Lib.cell_of_heap Xb 2
      have xb3 := Lib.cell_of_heap Xb 3
      have xb4 := Lib.cell_of_heap Xb 4
      have xb5 := Lib.cell_of_heap Xb 5
      have xb6 := Lib.cell_of_heap Xb 6
      simp at xa0 xa1 xa2 xa3 xa4 xa5 xa6 xb0 xb1 xb2 xb3 xb4 xb5 xb6
      clear Xa Xb
      go_wp2_with fail
      refine CT.out.mono ?_; rintro e w64 ⟨rfl, hb⟩
      clear xa0 xa1 xa2 xa3 xa4 xa5 xa6 xb0 xb1 xb2 xb3 xb4 xb5 xb6
      clear CT
      replace BXa := Lib.hid (box_step BXa.out hb)
      replace BXb := Lib.hid (box_step BXb.out hb)
      replace BXc := Lib.hid (box_step BXc.out hb)
      replace BXx := Lib.hid (box_step BXx.out hb)
      replace BXy := Lib.hid (box_step BXy.out hb)
      replace KTa := Lib.hid (KTa.out.keep hb)
      replace KTb := Lib.hid (KTb.out.keep hb)
      replace KTc := Lib.hid (KTc.out.keep hb)
      replace KTx := Lib.hid (KTx.out.keep hb)
      replace KTy := Lib.hid (KTy.out.keep hb)
      replace HB := Lib.hid (below_over HB.out hb)
      clear hb
      cases o with
      | false =>
       go_wp2_with fail
       go_ret
       exact ⟨rfl, HB.out⟩
      | true =>
       have LE : SubR a b := subB_iff.1 Ho.out.symm
       have hmb : mayT b = true := by have := OKb.out; unfold okT at this; rw [Bool.and_eq_true] at this; exact this.1
       have hma : mayT a = true := by have := OKa.out; unfold okT at this; rw [Bool.and_eq_true] at this; exact this.1
       obtain ⟨e1, ex⟩ := ISx.out.one (.inl ⟨rfl, bnd_le (up := true) (okT_good OKb.out) LE, hmb⟩)
       obtain ⟨e3, ey⟩ := ISy.out.one (.inl ⟨rfl, (bnd_le (up := false) (a := b) (b := a) (okT_good OKa.out) LE).turn, hma⟩)
       have HS1 : Hid (sameT x b = true) := Lib.hid ((sameT_iff x b).2 ex)
       have HS2 : Hid (sameT y a = true) := Lib.hid ((sameT_iff y a).2 ey)
       subst e1
       subst e3
       clear LE hmb hma ex ey
       have CT := Lib.hid (same_any _ x b (Nat.le_refl _) (.agg #[.int .i64 x.kind, .string x.pkg, .int .i64 x.major, .string x.mod, .string x.name, .slice Xn x.names.length Xc, .slice Xs x.subs.length Xd]) (.agg #[.int .i64 b.kind, .string b.pkg, .int .i64 b.major, .string b.mod, .string b.name, .slice Bn b.names.length Bc, .slice Bs b.subs.length Bd]) w64 ⟨_, rfl, KTx.out⟩ ⟨_, rfl, KTb.out⟩)
       rw [HS1.out] at CT
       obtain ⟨-, Xx⟩ := BXx.out
       have xx0 := Lib.cell_of_heap Xx 0
       have xx1 := Lib.cell_of_heap Xx 1
       have xx2 := Lib.cell_of_heap Xx 2
       have xx3 := Lib.cell_of_heap Xx 3
       have xx4 := Lib.cell_of_heap Xx 4
       have xx5 := Lib.cell_of_heap Xx 5
       have xx6 := Lib.cell_of_heap Xx 6
       obtain ⟨-, Xb⟩ := BXb.out
       have xb0 := Lib.cell_of_heap Xb 0
       have xb1 := Lib.cell_of_heap Xb 1
       have xb2 := Lib.cell_of_heap Xb 2
       have xb3 := Lib.cell_of_heap Xb 3
       have xb4 := Lib.cell_of_heap Xb 4
       have xb5 := Lib.cell_of_heap Xb 5
       have xb6 := Lib.cell_of_heap Xb 6
       simp at xx0 xx1 xx2 xx3 xx4 xx5 xx6 xb0 xb1 xb2 xb3 xb4 xb5 xb6
       clear Xx Xb
       go_wp2_with fail
       refine CT.out.mono ?_; rintro e w65 ⟨rfl, hb⟩
       clear xx0 xx1 xx2 xx3 xx4 xx5 xx6 xb0 xb1 xb2 xb3 xb4 xb5 xb6
       clear CT
       replace BXa := Lib.hid (box_step BXa.out hb)
       replace BXb := Lib.hid (box_step BXb.out hb)
       replace BXc := Lib.hid (box_step BXc.out hb)
       replace BXx := Lib.hid (box_step BXx.out hb)
       replace BXy := Lib.hid (box_step BXy.out hb)
       replace KTa := Lib.hid (KTa.out.keep hb)
       replace KTb := Lib.hid (KTb.out.keep hb)
       replace KTc := Lib.hid (KTc.out.keep hb)
       replace KTx := Lib.hid (KTx.out.keep hb)
       replace KTy := Lib.hid (KTy.out.keep hb)
       replace HB := Lib.hid (below_over HB.out hb)
       clear hb
       have CT := Lib.hid (same_any _ y a (Nat.le_refl _) (.agg #[.int .i64 y.kind, .string y.pkg, .int .i64 y.major, .string y.mod, .string y.name, .slice Yn y.names.length Yc, .slice Ys y.subs.length Yd]) (.agg #[.int .i64 a.kind, .string a.pkg, .int .i64 a.major, .string a.mod, .string a.name, .slice An a.names.length Ac, .slice As a.subs.length Ad]) w65 ⟨_, rfl, KTy.out⟩ ⟨_, rfl, KTa.out⟩)
       rw [HS2.out] at CT
       obtain ⟨-, Xy⟩ := BXy.out
       have xy0 := Lib.cell_of_heap Xy 0
       have xy1 := Lib.cell_of_heap Xy 1
       have xy2 := Lib.cell_of_heap Xy 2
       have xy3 := Lib.cell_of_heap Xy 3
       have xy4 := Lib.cell_of_heap Xy 4
       have xy5 := Lib.cell_of_heap Xy 5
       have xy6 := Lib.cell_of_heap Xy 6
       obtain ⟨-, Xa⟩ := BXa.out
       have xa0 := Lib.cell_of_heap Xa 0
       have xa1 := Lib.cell_of_heap Xa 1
       have xa2 := Lib.cell_of_heap Xa 2
       have xa3 := Lib.cell_of_heap Xa 3
       have xa4 := Lib.cell_of_heap Xa 4
       have xa5 := Lib.cell_of_heap Xa 5
       have xa6 := Lib.cell_of_heap Xa 6
       simp at xy0 xy1 xy2 xy3 xy4 xy5 xy6 xa0 xa1 xa2 xa3 xa4 xa5 xa6
       clear Xy Xa
       go_wp2_with fail
       refine CT.out.mono ?_; rintro e w66 ⟨rfl, hb⟩
       clear xy0 xy1 xy2 xy3 xy4 xy5 xy6 xa0 xa1 xa2 xa3 xa4 xa5 xa6
       clear CT
       replace BXa := Lib.hid (box_step BXa.out hb)
       replace BXb := Lib.hid (box_step BXb.out hb)
       replace BXc := Lib.hid (box_step BXc.out hb)
       replace BXx := Lib.hid (box_step BXx.out hb)
       replace BXy := Lib.hid (box_step BXy.out hb)
       replace KTa := Lib.hid (KTa.out.keep hb)
       replace KTb := Lib.hid (KTb.out.keep hb)
       replace KTc := Lib.hid (KTc.out.keep hb)
       replace KTx := Lib.hid (KTx.out.keep hb)
       replace KTy := Lib.hid (KTy.out.keep hb)
       replace HB := Lib.hid (below_over HB.out hb)
       clear hb
       go_wp2_with fail
       go_ret
       exact ⟨rfl, HB.out⟩
end Go.Proofs.Ytcdmgcgjonndpaa

/-  -/
namespace Go.Proofs.Ytcdmgcgjonndpaa
open Go Go.RowKit Go.WideShapes Go.ChangeShapes
section
variable {H : Type} {enc : TypeId × Value → H} {P : Program}
theorem post_of_below {f : Func} {s : ChangeSpec} {apart fresh handsOn again : Bool} {W W' : World} {args : Array Value} {v : Value} {ds gs : List (DataW H)} {before pa pv : List MemPlace}
    (hW : DataW.Whole enc P f.params.toList s.vars apart W args.toList ds gs before)
    (hres : ∀ (b : Nat) (sp : Nat → Bool) (hd : Bool), DataW.TrodAll enc P W' b sp hd f.resultTypes.toList (v.resultList f.resultTypes.size) (s.fn H (ds ++ gs)).results [])
    (hargs : ∀ sp : Nat → Bool, (∀ p ∈ before, sp p.block = true) → DataW.TrodAll enc P W' 0 sp true f.params.toList args.toList (s.fn H (ds ++ gs)).args pa)
    (hvars : ∀ sp : Nat → Bool, (∀ p ∈ before, sp p.block = true) → DataW.TrodVars enc P W' sp s.vars (s.fn H (ds ++ gs)).vars pv)
    (hps : before = pa ++ pv) (hb : Below W.heap.size W W')
    (hok : ∀ (j : Nat) (t : TypeId) (r : Value), f.resultTypes[j]? = some t → (v.resultList f.resultTypes.size)[j]? = some r → Value.okWide P W' .any 0 t r) :
    s.post enc P f apart fresh handsOn again W args v W' := by
  have hlt : ∀ p ∈ before, p.block < W.heap.size := fun p hp => hW.lt p hp
  have hold : ∀ p ∈ before, (fun b => decide (b < W.heap.size)) p.block = true := fun p hp => by simpa using hlt p hp
  refine ⟨ds, gs, before, [], pa, pv, hW, hres _ _ _, hargs _ hold, hvars _ hold, World.keptBut_mono (fun p hp => ⟨hp, ?_⟩) (hb.frame (· ∈ before)), fun _ => ?_⟩
  · rw [hps, List.mem_append] at hp
    exact Or.inr hp
  · obtain ⟨_, _, _, _, _, hz, hn⟩ := hW
    refine ⟨hok, _, _, ([] ++ pa) ++ pv, ⟨[] ++ pa, pv, trodAll_append (hargs _ (fun _ _ => rfl)) (hres _ _ _), hvars _ (fun _ _ => rfl), rfl, ?_, ?_⟩, ?_⟩
    · intro b off hp
      have hin : MemPlace.cell b off ∈ before := by rw [hps]; simpa using hp
      rw [hb.frozen (hlt _ hin)]
      exact hz b off hin
    · intro ha
      have := hn ha
      rw [hps] at this
      simpa using this
    · intro p hp _
      rw [hps]
      simpa using hp
theorem trodAll_stays (hl : laidOutB P = true) {W W' : World} {sp : Nat → Bool} (hb : Below W.heap.size W W') :
    ∀ (ts : List TypeId) (vs : List Value) (ds : List (DataW H)) (ps : List MemPlace), (∀ t ∈ ts, P.readableRec t = true ∧ t < P.types.size) →
      DataW.TrodAll enc P W 0 (fun _ => true) true ts vs ds ps → (∀ x ∈ ps, x.block < W.heap.size) → (∀ x ∈ ps, sp x.block = true) → DataW.TrodAll enc P W' 0 sp true ts vs ds ps
  | [], vs, ds, ps, _, h, _, _ => by
    obtain ⟨rfl, rfl, rfl⟩ := trodAll_nil h
    exact trodAll_mk0
  | t :: ts, vs, ds, ps, ht, h, hlt, hs => by
    obtain ⟨v, vs', d, ds', p, q, rfl, rfl, rfl, h0, h1⟩ := trodAll_cons h
    obtain ⟨hr, hrow⟩ := ht t (by simp)
    exact ⟨p, q, WideElems.Trod_stays hl hr hrow h0 (fun x hx => hb.same (hlt x (by simp [hx]))) (fun x hx => hs x (by simp [hx])),
      trodAll_stays hl hb ts vs' ds' q (fun u hu => ht u (by simp [hu])) h1 (fun x hx => hlt x (by simp [hx])) (fun x hx => hs x (by simp [hx])), rfl⟩
theorem law_post {f : Func} {s : ChangeSpec} {apart fresh handsOn again : Bool} {W W' : World} {args : Array Value} {ds gs : List (DataW H)} {before : List MemPlace} {tb : TypeId}
    (hl : laidOutB P = true) (hro : f.params.toList.all (fun t => P.readableRec t && decide (t < P.types.size)) = true) (hres : f.resultTypes = #[tb]) (hbool : P.underlying tb = some .bool) (hvars : s.vars = [])
    (hW : DataW.Whole enc P f.params.toList s.vars apart W args.toList ds gs before) (hb : Below W.heap.size W W')
    (hs : s.fn H (ds ++ gs) = { results := [.lit (.bool true)], args := ds }) :
    s.post enc P f apart fresh handsOn again W args (.bool true) W' := by
  have hW' := hW
  obtain ⟨p, q, hA, hV, hpq, _, _⟩ := hW
  rw [hvars] at hV
  obtain ⟨rfl, rfl⟩ := trodVars_none hV
  rw [List.append_nil] at hpq
  subst hpq
  have hlt : ∀ x ∈ before, x.block < W.heap.size := fun x hx => hW'.lt x hx
  have hro' : ∀ t ∈ f.params.toList, P.readableRec t = true ∧ t < P.types.size := fun t ht => by
    have := List.all_eq_true.1 hro t ht
    simpa using this
  refine post_of_below (pa := before) (pv := []) hW' ?_ ?_ ?_ (by simp) hb ?_
  · intro b sp hd
    rw [hs, hres]
    exact trodAll_mk1 (shut_bool hbool true)
  · intro sp hsp
    rw [hs]
    exact trodAll_stays hl hb _ _ _ _ hro' hA hlt hsp
  · intro sp _
    rw [hs, hvars]
    exact rfl
  · exact ok_one hres rfl (okWide_bool_mk hbool true)
end
end Go.Proofs.Ytcdmgcgjonndpaa

/-  -/
namespace Go.Proofs.Ytcdmgcgjonndpaa
open Go Go.ChangeShapes Go.WideShapes Go.ChangeAt Go.RowKit Go.Joins
theorem own : ownKnob Try.prog.godebug = none := by kernel_rfl
theorem laidOut : laidOutB Try.prog = true := by kernel_rfl
end Go.Proofs.Ytcdmgcgjonndpaa
