/-
  
-/
import Derived.Test.YtcdmgcgjonndpaaK20
import Derived.Deep.DeepCutAuto
namespace Go.Proofs.Ytcdmgcgjonndpaa
open Go Go.RowKit Go.Shelf
open Go.Sort
open M
def Td2 (up : Bool) (a b : Ty) (q : Bool) (t : Ty) : Prop := (q = true ∧ okT a = true ∧ okT b = true ∧ IsBnd up a b t ∧ mayT t = true) ∨ (q = false ∧ t = zTy ∧ (okT a = true → okT b = true → ∀ t', IsBnd up a b t' → mayT t' = false))
theorem td2_typ {up q : Bool} {a b : Ty} {S : Nat → Prop} {w : World} {l : List Value} (h : (q = true ∧ okT a = true ∧ okT b = true ∧ ∃ t, IsBnd up a b t ∧ mayT t = true ∧ TyAt (strike S w) l t) ∨ (q = false ∧ l = [.int .i64 0, .string ⟨#[]⟩, .int .i64 0, .string ⟨#[]⟩, .string ⟨#[]⟩, .slice none 0 0, .slice none 0 0] ∧ (okT a = true → okT b = true → ∀ t, IsBnd up a b t → mayT t = false))) :
  ∃ t An cn As cs, l = [.int .i64 t.kind, .string t.pkg, .int .i64 t.major, .string t.mod, .string t.name, .slice An t.names.length cn, .slice As t.subs.length cs] ∧ TyAt w [.int .i64 t.kind, .string t.pkg, .int .i64 t.major, .string t.mod, .string t.name, .slice An t.names.length cn, .slice As t.subs.length cs] t ∧ Td2 up a b q t := by
 rcases h with ⟨h1, k1, k2, t, h2, h3, hT⟩ | ⟨h1, rfl, h2⟩
 ·obtain ⟨An, cn, As, cs, rfl, -⟩ := hT.parts
  exact ⟨t, An, cn, As, cs, rfl, hT.full, .inl ⟨h1, k1, k2, h2, h3⟩⟩
 ·exact ⟨zTy, none, 0, none, 0, rfl, zeroT_at w, .inr ⟨h1, rfl, h2⟩⟩
theorem Td2.no {up q : Bool} {a b t : Ty} (h : Td2 up a b q t) (hn : ¬ (okT a = true ∧ okT b = true)) : q = false ∧ t = zTy := by
 rcases h with ⟨-, h1, h2, -⟩ | ⟨h1, h2, -⟩
 ·exact absurd ⟨h1, h2⟩ hn
 ·exact ⟨h1, h2⟩
theorem Td2.is {up q : Bool} {a b t : Ty} (h : Td2 up a b q t) (ha : okT a = true) (hb : okT b = true) : TdIs up a b q t := by
 rcases h with ⟨h1, -, -, h2, h3⟩ | ⟨h1, h2, h3⟩
 ·exact .inl ⟨h1, h2, h3⟩
 ·exact .inr ⟨h1, h2, h3 ha hb⟩
def RbIs (up : Bool) (a b : Ty) (q : Bool) (v : Ty) (l : List Value) (w : World) : Prop := (q = true ∧ IsBnd up a b v ∧ TyAt w l v) ∨ (q = false ∧ NoBnd up a b)
theorem rb_typ {up q : Bool} {a b : Ty} {S : Nat → Prop} {w : World} {l : List Value} (hs : ∃ v, ShL l v) (h : (q = true ∧ ∃ t, IsBnd up a b t ∧ TyAt (strike S w) l t) ∨ (q = false ∧ NoBnd up a b)) :
  ∃ v An cn As cs, l = [.int .i64 v.kind, .string v.pkg, .int .i64 v.major, .string v.mod, .string v.name, .slice An v.names.length cn, .slice As v.subs.length cs] ∧ RbIs up a b q v [.int .i64 v.kind, .string v.pkg, .int .i64 v.major, .string v.mod, .string v.name, .slice An v.names.length cn, .slice As v.subs.length cs] w := by
 rcases h with ⟨h1, t, h2, hT⟩ | ⟨h1, h2⟩
 ·obtain ⟨An, cn, As, cs, rfl, -⟩ := hT.parts
  exact ⟨t, An, cn, As, cs, rfl, .inl ⟨h1, h2, hT.full⟩⟩
 ·obtain ⟨v, An, cn, As, cs, rfl⟩ := hs
  exact ⟨v, An, cn, As, cs, rfl, .inr ⟨h1, h2⟩⟩
theorem RbIs.no {up : Bool} {a b v : Ty} {l : List Value} {w : World} (h : RbIs up a b false v l w) : NoBnd up a b := by
 rcases h with ⟨h, -⟩ | ⟨-, h⟩
 ·cases h
 ·exact h
theorem RbIs.yes {up : Bool} {a b v : Ty} {l : List Value} {w : World} (h : RbIs up a b true v l w) : IsBnd up a b v ∧ TyAt w l v := by
 rcases h with ⟨-, h⟩ | ⟨h, -⟩
 ·exact h
 ·cases h
def RbS (S : Nat → Prop) (up : Bool) (a b : Ty) (q : Bool) (v : Ty) (l : List Value) (w : World) : Prop := (q = true ∧ IsBnd up a b v ∧ TyAt (strike S w) l v) ∨ (q = false ∧ NoBnd up a b)
theorem rb_typS {up q : Bool} {a b : Ty} {S : Nat → Prop} {w : World} {l : List Value} (hs : ∃ v, ShL l v) (h : (q = true ∧ ∃ t, IsBnd up a b t ∧ TyAt (strike S w) l t) ∨ (q = false ∧ NoBnd up a b)) :
  ∃ v An cn As cs, l = [.int .i64 v.kind, .string v.pkg, .int .i64 v.major, .string v.mod, .string v.name, .slice An v.names.length cn, .slice As v.subs.length cs] ∧ RbS S up a b q v [.int .i64 v.kind, .string v.pkg, .int .i64 v.major, .string v.mod, .string v.name, .slice An v.names.length cn, .slice As v.subs.length cs] w := by
 rcases h with ⟨h1, t, h2, hT⟩ | ⟨h1, h2⟩
 ·obtain ⟨An, cn, As, cs, rfl, -⟩ := hT.parts
  exact ⟨t, An, cn, As, cs, rfl, .inl ⟨h1, h2, hT⟩⟩
 ·obtain ⟨v, An, cn, As, cs, rfl⟩ := hs
  exact ⟨v, An, cn, As, cs, rfl, .inr ⟨h1, h2⟩⟩
theorem RbS.keep {S : Nat → Prop} {up q : Bool} {a b v : Ty} {l : List Value} {w w' : World} (h : RbS S up a b q v l w) (hb : Below w.heap.size w w') : RbS S up a b q v l w' := by
 rcases h with ⟨h1, h2, h3⟩ | h
 ·exact .inl ⟨h1, h2, h3.move hb.size fun k hk hS => ⟨hS, hb.block k hk⟩⟩
 ·exact .inr h
theorem RbS.put {S : Nat → Prop} {up q : Bool} {a b' v : Ty} {l : List Value} {w : World} (h : RbS S up a b' q v l w) {b : Nat} {c : Array Value} (hb : S b) : RbS S up a b' q v l (w.setRow b c) := by
 rcases h with ⟨h1, h2, h3⟩ | h
 ·exact .inl ⟨h1, h2, h3.move (by rw [size_setRow]; exact Nat.le_refl _) fun k hk hS => ⟨hS, setRow_other _ _ _ _ (fun e => hS (e ▸ hb))⟩⟩
 ·exact .inr h
theorem RbS.no {S : Nat → Prop} {up : Bool} {a b v : Ty} {l : List Value} {w : World} (h : RbS S up a b false v l w) : NoBnd up a b := by
 rcases h with ⟨h, -⟩ | ⟨-, h⟩
 ·cases h
 ·exact h
theorem RbS.yes {S : Nat → Prop} {up : Bool} {a b v : Ty} {l : List Value} {w : World} (h : RbS S up a b true v l w) : IsBnd up a b v ∧ TyAt w l v := by
 rcases h with ⟨-, h1, h2⟩ | ⟨h, -⟩
 ·exact ⟨h1, h2.full⟩
 ·cases h
theorem box_put {w : World} {b : Nat} {c c' : Array Value} {T : TypeId} (h : b < w.heap.size ∧ w.heap[b]? = some (.cells c T (0, 0))) : b < (w.setRow b c').heap.size ∧ (w.setRow b c').heap[b]? = some (.cells c' T (0, 0)) := ⟨by rw [size_setRow]; exact h.1, setRow_heap _ _ _ _ _ _ h.2⟩
theorem td_rb {up i q : Bool} {a b x v : Ty} (hx : TdIs up a b i x) (h : (q = true ∧ IsBnd up a b v ∧ mayT v = true) ∨ (q = false ∧ v = zTy ∧ ∀ t, IsBnd up a b t → mayT t = false)) : i = q ∧ x = v := hx.one h
set_option maxRecDepth 100000 in
set_option maxHeartbeats 32000000 in
theorem subBounds_any (a b : Ty) (la lb : List Value) (w : World) (hTa : TyAt w la a) (hTb : TyAt w lb b) :
  Calls Try.prog 4 #[.agg la.toArray, .agg lb.toArray] w fun e w' => e = .returned (.bool true) ∧ Below w.heap.size w w' := by
 obtain ⟨f1, hf1⟩ : ∃ f1, f1 = fewB a := ⟨_, rfl⟩
 have Hf1 := Lib.hid hf1
 clear hf1
 obtain ⟨f2, hf2⟩ : ∃ f2, f2 = fewB b := ⟨_, rfl⟩
 have Hf2 := Lib.hid hf2
 clear hf2
 obtain ⟨r, hr⟩ : ∃ r, r = okL a := ⟨_, rfl⟩
 have Hr := Lib.hid hr
 clear hr
 obtain ⟨s, hs⟩ : ∃ s, s = okL b := ⟨_, rfl⟩
 have Hs := Lib.hid hs
 clear hs
 have HTa := Lib.hid hTa
 have HTb := Lib.hid hTb
 obtain ⟨An, Ac, As, Ad, rfl, -⟩ := hTa.parts
 obtain ⟨Bn, Bc, Bs, Bd, rfl, -⟩ := hTb.parts
 obtain ⟨U0, hU0⟩ : ∃ U0, U0 = w.alloc (.cells #[.int .i64 a.kind, .string a.pkg, .int .i64 a.major, .string a.mod, .string a.name, .slice An a.names.length Ac, .slice As a.subs.length Ad] 25) := ⟨_, rfl⟩
 obtain ⟨U1, hU1⟩ : ∃ U1, U1 = U0.alloc (.cells #[.int .i64 b.kind, .string b.pkg, .int .i64 b.major, .string b.mod, .string b.name, .slice Bn b.names.length Bc, .slice Bs b.subs.length Bd] 25) := ⟨_, rfl⟩
 have s0 : U0.heap.size = w.heap.size + 1 := by rw [hU0]; simp
 have B0 : Below w.heap.size w U0 := by rw [hU0]; exact below_new (Below.refl _ _) _
 have O0 : U0.heap[w.heap.size]? = some (.cells #[.int .i64 a.kind, .string a.pkg, .int .i64 a.major, .string a.mod, .string a.name, .slice An a.names.length Ac, .slice As a.subs.length Ad] 25 (0, 0)) := by rw [hU0]; exact heap_alloc_new w _
 have s1 : U1.heap.size = w.heap.size + 1 + 1 := by rw [hU1]; simp [s0]
 have B1 : Below U0.heap.size U0 U1 := by rw [hU1]; exact below_new (Below.refl _ _) _
 have O1 : U1.heap[w.heap.size + 1]? = some (.cells #[.int .i64 b.kind, .string b.pkg, .int .i64 b.major, .string b.mod, .string b.name, .slice Bn b.names.length Bc, .slice Bs b.subs.length Bd] 25 (0, 0)) := by rw [hU1, ← s0]; exact heap_alloc_new U0 _
 have BW : Below w.heap.size w U1 := below_over B0 B1
 have BXa : Hid (w.heap.size < U1.heap.size ∧ U1.heap[w.heap.size]? = some (.cells #[.int .i64 a.kind, .string a.pkg, .int .i64 a.major, .string a.mod, .string a.name, .slice An a.names.length Ac, .slice As a.subs.length Ad] 25 (0, 0))) := Lib.hid ⟨by omega, (B1.block _ (by omega)).trans (O0)⟩
 have KTa := Lib.hid (HTa.out.keep BW)
 have BXb : Hid (w.heap.size + 1 < U1.heap.size ∧ U1.heap[w.heap.size + 1]? = some (.cells #[.int .i64 b.kind, .string b.pkg, .int .i64 b.major, .string b.mod, .string b.name, .slice Bn b.names.length Bc, .slice Bs b.subs.length Bd] 25 (0, 0))) := Lib.hid ⟨by omega, O1⟩
 have KTb := Lib.hid (HTb.out.keep BW)
 have HW : Hid ((w.alloc (.cells #[.int .i64 a.kind, .string a.pkg, .int .i64 a.major, .string a.mod, .string a.name, .slice An a.names.length Ac, .slice As a.subs.length Ad] 25)).alloc (.cells #[.int .i64 b.kind, .string b.pkg, .int .i64 b.major, .string b.mod, .string b.name, .slice Bn b.names.length Bc, .slice Bs b.subs.length Bd] 25) = U1) := Lib.hid (by rw [hU1, hU0])
 have HB := Lib.hid BW
 clear hU0 s0 B0 O0 hU1 s1 B1 O1 BW hTa hTb
 go_enter Try.func4, Try.ntmps4
 go_upto_region 1 with fail
 rw [HW.out]
 clear HW
 have CT := Lib.hid (up9_any U1)
 go_wp2_with fail
 refine CT.out.mono ?_; rintro e w1 ⟨rfl, hb⟩
 clear CT
 replace BXa := Lib.hid (box_step BXa.out hb)
 replace BXb := Lib.hid (box_step BXb.out hb)
 replace KTa := Lib.hid (KTa.out.keep hb)
 replace KTb := Lib.hid (KTb.out.keep hb)
 replace HB := Lib.hid (below_over HB.out hb)
 clear hb
 have CT := Lib.hid (fewB_any a (.agg #[.int .i64 a.kind, .string a.pkg, .int .i64 a.major, .string a.mod, .string a.name, .slice An a.names.length Ac, .slice As a.subs.length Ad]) w1 ⟨_, rfl, KTa.out⟩)
 rw [← Hf1.out] at CT
 obtain ⟨-, Xa⟩ := BXa.out
 have xa0 := Lib.cell_of_heap Xa 0
 have xa1 := Lib.cell_of_heap Xa 1
 have xa2 := Lib.cell_of_heap Xa 2
 have xa3 := Lib.cell_of_heap Xa 3
 have xa4 := Lib.cell_of_heap Xa 4
 have xa5 := Lib.cell_of_heap Xa 5
 have xa6 := Lib.cell_of_heap Xa 6
 simp at xa0 xa1 xa2 xa3 xa4 xa5 xa6
 clear Xa
 go_wp2_with fail
 refine CT.out.mono ?_; rintro e w2 ⟨rfl, hb⟩
 clear xa0 xa1 xa2 xa3 xa4 xa5 xa6
 clear CT
 replace BXa := Lib.hid (box_step BXa.out hb)
 replace BXb := Lib.hid (box_step BXb.out hb)
 replace KTa := Lib.hid (KTa.out.keep hb)
 replace KTb := Lib.hid (KTb.out.keep hb)
 replace HB := Lib.hid (below_over HB.out hb)
 clear hb
 have CT := Lib.hid (fewB_any b (.agg #[.int .i64 b.kind, .string b.pkg, .int .i64 b.major, .string b.mod, .string b.name, .slice Bn b.names.length Bc, .slice Bs b.subs.length Bd]) w2 ⟨_, rfl, KTb.out⟩)
 rw [← Hf2.out] at CT
 obtain ⟨-, Xb⟩ := BXb.out
 have xb0 := Lib.cell_of_heap Xb 0
 have xb1 := Lib.cell_of_heap Xb 1
 have xb2 := Lib.cell_of_heap Xb 2
 have xb3 := Lib.cell_of_heap Xb 3
 have xb4 := Lib.cell_of_heap Xb 4
 have xb5 := Lib.cell_of_heap Xb 5
 have xb6 := Lib.cell_of_heap Xb 6
 simp at xb0 xb1 xb2 xb3 xb4 xb5 xb6
 clear Xb
 go_wp2_with fail
 refine CT.out.mono ?_; rintro e w3 ⟨rfl, hb⟩
 clear xb0 xb1 xb2 xb3 xb4 xb5 xb6
 clear CT
 replace BXa := Lib.hid (box_step BXa.out hb)
 replace BXb := Lib.hid (box_step BXb.out hb)
 replace KTa := Lib.hid (KTa.out.keep hb)
 replace KTb := Lib.hid (KTb.out.keep hb)
 replace HB := Lib.hid (below_over HB.out hb)
 clear hb
 cases f1 with
 | false =>
  go_wp2_with fail
  go_ret
  exact ⟨rfl, HB.out⟩
 | true =>
  cases f2 with
  | false =>
   go_wp2_with fail
   go_ret
   exact ⟨rfl, HB.out⟩
  | true =>
   have CT := Lib.hid (Join_any9 a b [.int .i64 a.kind, .string a.pkg, .int .i64 a.major, .string a.mod, .string a.name, .slice An a.names.length Ac, .slice As a.subs.length Ad] [.int .i64 b.kind, .string b.pkg, .int .i64 b.major, .string b.mod, .string b.name, .slice Bn b.names.length Bc, .slice Bs b.subs.length Bd] w3 KTa.out KTb.out)
   obtain ⟨-, Xa⟩ := BXa.out
   have xa0 := Lib.cell_of_heap Xa 0
   have xa1 := Lib.cell_of_heap Xa 1
   have xa2 := Lib.cell_of_heap Xa 2
   have xa3 := Lib.cell_of_heap Xa 3
   have xa4 := Lib.cell_of_heap Xa 4
   have xa5 := Lib.cell_of_heap Xa 5
   have xa6 := Lib.cell_of_heap Xa 6
   obtain ⟨-, Xb⟩ := BXb.out
   have xb0 := Lib.cell_of_heap Xb 0
   have xb1 := Lib.cell_of_heap Xb 1
   have xb2 := Lib.cell_of_heap Xb 2
   have xb3 := Lib.cell_of_heap Xb 3
   have xb4 := Lib.cell_of_heap Xb 4
   have xb5 := Lib.cell_of_heap Xb 5
   have xb6 := Lib.cell_of_heap Xb 6
   simp at xa0 xa1 xa2 xa3 xa4 xa5 xa6 xb0 xb1 xb2 xb3 xb4 xb5 xb6
   clear Xa Xb
   go_wp2_with fail
   refine CT.out.mono ?_; rintro e w4 ⟨lx, i1, rfl, hb, hcase⟩
   obtain ⟨x, Xn, Xc, Xs, Xd, rfl, hTx, his⟩ := td2_typ hcase
   have KTx := Lib.hid hTx
   have ISx := Lib.hid his
   clear hTx his hcase
   clear xa0 xa1 xa2 xa3 xa4 xa5 xa6 xb0 xb1 xb2 xb3 xb4 xb5 xb6
   clear CT
   replace BXa := Lib.hid (box_step BXa.out hb)
   replace BXb := Lib.hid (box_step BXb.out hb)
   replace KTa := Lib.hid (KTa.out.keep hb)
   replace KTb := Lib.hid (KTb.out.keep hb)
   replace HB := Lib.hid (below_over HB.out hb)
   clear hb
   obtain ⟨w5, hw5⟩ : ∃ w5, w5 = w4.alloc (.cells #[.int .i64 x.kind, .string x.pkg, .int .i64 x.major, .string x.mod, .string x.name, .slice Xn x.names.length Xc, .slice Xs x.subs.length Xd] 25) := ⟨_, rfl⟩
   have hb : Below w4.heap.size w4 w5 := by rw [hw5]; exact below_new (Below.refl _ _) _
   have BXx : Hid (w4.heap.size < w5.heap.size ∧ w5.heap[w4.heap.size]? = some (.cells #[.int .i64 x.kind, .string x.pkg, .int .i64 x.major, .string x.mod, .string x.name, .slice Xn x.names.length Xc, .slice Xs x.subs.length Xd] 25 (0, 0))) := Lib.hid ⟨by rw [hw5]; simp, by rw [hw5]; exact heap_alloc_new w4 _⟩
   have HQ5 := Lib.hid hw5
   clear hw5
   replace BXa := Lib.hid (box_step BXa.out hb)
   replace BXb := Lib.hid (box_step BXb.out hb)
   replace KTa := Lib.hid (KTa.out.keep hb)
   replace KTb := Lib.hid (KTb.out.keep hb)
   replace KTx := Lib.hid (KTx.out.keep hb)
   replace HB := Lib.hid (below_over HB.out hb)
   clear hb
   go_upto_region 7 with fail
   rw [← HQ5.out]
   clear HQ5
   have CT := Lib.hid (Meet_any9 a b [.int .i64 a.kind, .string a.pkg, .int .i64 a.major, .string a.mod, .string a.name, .slice An a.names.length Ac, .slice As a.subs.length Ad] [.int .i64 b.kind, .string b.pkg, .int .i64 b.major, .string b.mod, .string b.name, .slice Bn b.names.length Bc, .slice Bs b.subs.length Bd] w5 KTa.out KTb.out)
   obtain ⟨-, Xa⟩ := BXa.out
   have xa0 := Lib.cell_of_heap Xa 0
   have xa1 := Lib.cell_of_heap Xa 1
   have xa2 := Lib.cell_of_heap Xa 2
   have xa3 := Lib.cell_of_heap Xa 3
   have xa4 := Lib.cell_of_heap Xa 4
   have xa5 := Lib.cell_of_heap Xa 5
   have xa6 := Lib.cell_of_heap Xa 6
   obtain ⟨-, Xb⟩ := BXb.out
   have xb0 := Lib.cell_of_heap Xb 0
   have xb1 := Lib.cell_of_heap Xb 1
   have xb2 := Lib.cell_of_heap Xb 2
   have xb3 := Lib.cell_of_heap Xb 3
   have xb4 := Lib.cell_of_heap Xb 4
   have xb5 := Lib.cell_of_heap Xb 5
   have xb6 := Lib.cell_of_heap Xb 6
   simp at xa0 xa1 xa2 xa3 xa4 xa5 xa6 xb0 xb1 xb2 xb3 xb4 xb5 xb6
   clear Xa Xb
   go_wp2_with fail
   refine CT.out.mono ?_; rintro e w6 ⟨ly, i2, rfl, hb, hcase⟩
   obtain ⟨y, Yn, Yc, Ys, Yd, rfl, hTy, his⟩ := td2_typ hcase
   have KTy := Lib.hid hTy
   have ISy := Lib.hid his
   clear hTy his hcase
   clear xa0 xa1 xa2 xa3 xa4 xa5 xa6 xb0 xb1 xb2 xb3 xb4 xb5 xb6
   clear CT
   replace BXa := Lib.hid (box_step BXa.out hb)
   replace BXb := Lib.hid (box_step BXb.out hb)
   replace BXx := Lib.hid (box_step BXx.out hb)
   replace KTa := Lib.hid (KTa.out.keep hb)
   replace KTb := Lib.hid (KTb.out.keep hb)
   replace KTx := Lib.hid (KTx.out.keep hb)
   replace HB := Lib.hid (below_over HB.out hb)
   clear hb
   obtain ⟨w7, hw7⟩ : ∃ w7, w7 = w6.alloc (.cells #[.int .i64 y.kind, .string y.pkg, .int .i64 y.major, .string y.mod, .string y.name, .slice Yn y.names.length Yc, .slice Ys y.subs.length Yd] 25) := ⟨_, rfl⟩
   have hb : Below w6.heap.size w6 w7 := by rw [hw7]; exact below_new (Below.refl _ _) _
   have BXy : Hid (w6.heap.size < w7.heap.size ∧ w7.heap[w6.heap.size]? = some (.cells #[.int .i64 y.kind, .string y.pkg, .int .i64 y.major, .string y.mod, .string y.name, .slice Yn y.names.length Yc, .slice Ys y.subs.length Yd] 25 (0, 0))) := Lib.hid ⟨by rw [hw7]; simp, by rw [hw7]; exact heap_alloc_new w6 _⟩
   have HQ7 := Lib.hid hw7
   clear hw7
   replace BXa := Lib.hid (box_step BXa.out hb)
   replace BXb := Lib.hid (box_step BXb.out hb)
   replace BXx := Lib.hid (box_step BXx.out hb)
   replace KTa := Lib.hid (KTa.out.keep hb)
   replace KTb := Lib.hid (KTb.out.keep hb)
   replace KTx := Lib.hid (KTx.out.keep hb)
   replace KTy := Lib.hid (KTy.out.keep hb)
   replace HB := Lib.hid (below_over HB.out hb)
   clear hb
   go_upto_region 8 with fail
   rw [← HQ7.out]
   clear HQ7
   have CT := Lib.hid (lplain9_any a [.int .i64 a.kind, .string a.pkg, .int .i64 a.major, .string a.mod, .string a.name, .slice An a.names.length Ac, .slice As a.subs.length Ad] w7 KTa.out)
   rw [← Hr.out] at CT
   obtain ⟨-, Xa⟩ := BXa.out
   have xa0 := Lib.cell_of_heap Xa 0
   have xa1 := Lib.cell_of_heap Xa 1
   have xa2 := Lib.cell_of_heap Xa 2
   have xa3 := Lib.cell_of_heap Xa 3
   have xa4 := Lib.cell_of_heap Xa 4
   have xa5 := Lib.cell_of_heap Xa 5
   have xa6 := Lib.cell_of_heap Xa 6
   simp at xa0 xa1 xa2 xa3 xa4 xa5 xa6
   clear Xa
   go_wp2_with fail
   refine CT.out.mono ?_; rintro e w8 ⟨rfl, hb⟩
   clear xa0 xa1 xa2 xa3 xa4 xa5 xa6
   clear CT
   replace BXa := Lib.hid (box_step BXa.out hb)
   replace BXb := Lib.hid (box_step BXb.out hb)
   replace BXx := Lib.hid (box_step BXx.out hb)
   replace BXy := Lib.hid (box_step BXy.out hb)
   replace KTa := Lib.hid (KTa.out.keep hb)
   replace KTb := Lib.hid (KTb.out.keep hb)
   replace KTx := Lib.hid (KTx.out.keep hb)
   replace KTy := Lib.hid (KTy.out.keep hb)
   replace HB := Lib.hid (below_over HB.out hb)
   clear hb
   have CT := Lib.hid (lplain9_any b [.int .i64 b.kind, .string b.pkg, .int .i64 b.major, .string b.mod, .string b.name, .slice Bn b.names.length Bc, .slice Bs b.subs.length Bd] w8 KTb.out)
   rw [← Hs.out] at CT
   obtain ⟨-, Xb⟩ := BXb.out
   have xb0 := Lib.cell_of_heap Xb 0
   have xb1 := Lib.cell_of_heap Xb 1
   have xb2 := Lib.cell_of_heap Xb 2
   have xb3 := Lib.cell_of_heap Xb 3
   have xb4 := Lib.cell_of_heap Xb 4
   have xb5 := Lib.cell_of_heap Xb 5
   have xb6 := Lib.cell_of_heap Xb 6
   simp at xb0 xb1 xb2 xb3 xb4 xb5 xb6
   clear Xb
   go_wp2_with fail
   refine CT.out.mono ?_; rintro e w9 ⟨rfl, hb⟩
   clear xb0 xb1 xb2 xb3 xb4 xb5 xb6
   clear CT
   replace BXa := Lib.hid (box_step BXa.out hb)
   replace BXb := Lib.hid (box_step BXb.out hb)
   replace BXx := Lib.hid (box_step BXx.out hb)
   replace BXy := Lib.hid (box_step BXy.out hb)
   replace KTa := Lib.hid (KTa.out.keep hb)
   replace KTb := Lib.hid (KTb.out.keep hb)
   replace KTx := Lib.hid (KTx.out.keep hb)
   replace KTy := Lib.hid (KTy.out.keep hb)
   replace HB := Lib.hid (below_over HB.out hb)
   clear hb
   cases r with
   | false =>
    have NO : ¬ (okT a = true ∧ okT b = true) := fun h => by have h2 := okL_no Hf1.out.symm Hr.out.symm; rw [h.1] at h2; cases h2
    have HNO := Lib.hid NO
    obtain ⟨e1, ex⟩ := ISx.out.no NO
    obtain ⟨e2, ey⟩ := ISy.out.no NO
    subst e1
    subst e2
    have HX1 : Hid (sameT x zTy = true) := Lib.hid ((sameT_iff x zTy).2 ex)
    have HY1 : Hid (sameT y zTy = true) := Lib.hid ((sameT_iff y zTy).2 ey)
    clear ex ey NO
    have CT := Lib.hid (Joins_any9 a b [.int .i64 a.kind, .string a.pkg, .int .i64 a.major, .string a.mod, .string a.name, .slice An a.names.length Ac, .slice As a.subs.length Ad] [.int .i64 b.kind, .string b.pkg, .int .i64 b.major, .string b.mod, .string b.name, .slice Bn b.names.length Bc, .slice Bs b.subs.length Bd] w9 KTa.out KTb.out)
    obtain ⟨-, Xa⟩ := BXa.out
    have xa0 := Lib.cell_of_heap Xa 0
    have xa1 := Lib.cell_of_heap Xa 1
    have xa2 := Lib.cell_of_heap Xa 2
    have xa3 := Lib.cell_of_heap Xa 3
    have xa4 := Lib.cell_of_heap Xa 4
    have xa5 := Lib.cell_of_heap Xa 5
    have xa6 := Lib.cell_of_heap Xa 6
    obtain ⟨-, Xb⟩ := BXb.out
    have xb0 := Lib.cell_of_heap Xb 0
    have xb1 := Lib.cell_of_heap Xb 1
    have xb2 := Lib.cell_of_heap Xb 2
    have xb3 := Lib.cell_of_heap Xb 3
    have xb4 := Lib.cell_of_heap Xb 4
    have xb5 := Lib.cell_of_heap Xb 5
    have xb6 := Lib.cell_of_heap Xb 6
    simp at xa0 xa1 xa2 xa3 xa4 xa5 xa6 xb0 xb1 xb2 xb3 xb4 xb5 xb6
    clear Xa Xb
    go_wp2_with fail
    refine CT.out.mono ?_; rintro e w10 ⟨jj, rfl, hj1, hj2, hb⟩
    obtain rfl : jj = false := by
     cases jj with
     | false => rfl
     | true => exact absurd ⟨(hj1 rfl).1, (hj1 rfl).2.1⟩ HNO.out
    clear hj1 hj2
    clear xa0 xa1 xa2 xa3 xa4 xa5 xa6 xb0 xb1 xb2 xb3 xb4 xb5 xb6
    clear CT
    replace BXa := Lib.hid (box_step BXa.out hb)
    replace BXb := Lib.hid (box_step BXb.out hb)
    replace BXx := Lib.hid (box_step BXx.out hb)
    replace BXy := Lib.hid (box_step BXy.out hb)
    replace KTa := Lib.hid (KTa.out.keep hb)
    replace KTb := Lib.hid (KTb.out.keep hb)
    replace KTx := Lib.hid (KTx.out.keep hb)
    replace KTy := Lib.hid (KTy.out.keep hb)
    replace HB := Lib.hid (below_over HB.out hb)
    clear hb
    have CT := Lib.hid (same_any _ x zTy (Nat.le_refl _) (.agg #[.int .i64 x.kind, .string x.pkg, .int .i64 x.major, .string x.mod, .string x.name, .slice Xn x.names.length Xc, .slice Xs x.subs.length Xd]) (.agg #[.int .i64 0, .string ⟨#[]⟩, .int .i64 0, .string ⟨#[]⟩, .string ⟨#[]⟩, .slice none 0 0, .slice none 0 0]) w10 ⟨_, rfl, KTx.out⟩ ⟨_, rfl, zeroT_at _⟩)
    rw [HX1.out] at CT
    obtain ⟨-, Xx⟩ := BXx.out
    have xx0 := Lib.cell_of_heap Xx 0
    have xx1 := Lib.cell_of_heap Xx 1
    have xx2 := Lib.cell_of_heap Xx 2
    have xx3 := Lib.cell_of_heap Xx 3
    have xx4 := Lib.cell_of_heap Xx 4
    have xx5 := Lib.cell_of_heap Xx 5
    have xx6 := Lib.cell_of_heap Xx 6
    simp at xx0 xx1 xx2 xx3 xx4 xx5 xx6
    clear Xx
    go_wp2_with fail
    refine CT.out.mono ?_; rintro e w11 ⟨rfl, hb⟩
    clear xx0 xx1 xx2 xx3 xx4 xx5 xx6
    clear CT
    replace BXa := Lib.hid (box_step BXa.out hb)
    replace BXb := Lib.hid (box_step BXb.out hb)
    replace BXx := Lib.hid (box_step BXx.out hb)
    replace BXy := Lib.hid (box_step BXy.out hb)
    replace KTa := Lib.hid (KTa.out.keep hb)
    replace KTb := Lib.hid (KTb.out.keep hb)
    replace KTx := Lib.hid (KTx.out.keep hb)
    replace KTy := Lib.hid (KTy.out.keep hb)
    replace HB := Lib.hid (below_over HB.out hb)
    clear hb
    have CT := Lib.hid (same_any _ y zTy (Nat.le_refl _) (.agg #[.int .i64 y.kind, .string y.pkg, .int .i64 y.major, .string y.mod, .string y.name, .slice Yn y.names.length Yc, .slice Ys y.subs.length Yd]) (.agg #[.int .i64 0, .string ⟨#[]⟩, .int .i64 0, .string ⟨#[]⟩, .string ⟨#[]⟩, .slice none 0 0, .slice none 0 0]) w11 ⟨_, rfl, KTy.out⟩ ⟨_, rfl, zeroT_at _⟩)
    rw [HY1.out] at CT
    obtain ⟨-, Xy⟩ := BXy.out
    have xy0 := Lib.cell_of_heap Xy 0
    have xy1 := Lib.cell_of_heap Xy 1
    have xy2 := Lib.cell_of_heap Xy 2
    have xy3 := Lib.cell_of_heap Xy 3
    have xy4 := Lib.cell_of_heap Xy 4
    have xy5 := Lib.cell_of_heap Xy 5
    have xy6 := Lib.cell_of_heap Xy 6
    simp at xy0 xy1 xy2 xy3 xy4 xy5 xy6
    clear Xy
    go_wp2_with fail
    refine CT.out.mono ?_; rintro e w12 ⟨rfl, hb⟩
    clear xy0 xy1 xy2 xy3 xy4 xy5 xy6
    clear CT
    replace BXa := Lib.hid (box_step BXa.out hb)
    replace BXb := Lib.hid (box_step BXb.out hb)
    replace BXx := Lib.hid (box_step BXx.out hb)
    replace BXy := Lib.hid (box_step BXy.out hb)
    replace KTa := Lib.hid (KTa.out.keep hb)
    replace KTb := Lib.hid (KTb.out.keep hb)
    replace KTx := Lib.hid (KTx.out.keep hb)
    replace KTy := Lib.hid (KTy.out.keep hb)
    replace HB := Lib.hid (below_over HB.out hb)
    clear hb
    go_wp2_with fail
    go_ret
    exact ⟨rfl, HB.out⟩
   | true =>
    cases s with
    | false =>
     have NO : ¬ (okT a = true ∧ okT b = true) := fun h => by have h2 := okL_no Hf2.out.symm Hs.out.symm; rw [h.2] at h2; cases h2
     have HNO := Lib.hid NO
     obtain ⟨e1, ex⟩ := ISx.out.no NO
     obtain ⟨e2, ey⟩ := ISy.out.no NO
     subst e1
     subst e2
     have HX1 : Hid (sameT x zTy = true) := Lib.hid ((sameT_iff x zTy).2 ex)
     have HY1 : Hid (sameT y zTy = true) := Lib.hid ((sameT_iff y zTy).2 ey)
     clear ex ey NO
     have CT := Lib.hid (Joins_any9 a b [.int .i64 a.kind, .string a.pkg, .int .i64 a.major, .string a.mod, .string a.name, .slice An a.names.length Ac, .slice As a.subs.length Ad] [.int .i64 b.kind, .string b.pkg, .int .i64 b.major, .string b.mod, .string b.name, .slice Bn b.names.length Bc, .slice Bs b.subs.length Bd] w9 KTa.out KTb.out)
     obtain ⟨-, Xa⟩ := BXa.out
     have xa0 := Lib.cell_of_heap Xa 0
     have xa1 := Lib.cell_of_heap Xa 1
     have xa2 := Lib.cell_of_heap Xa 2
     have xa3 := Lib.cell_of_heap Xa 3
     have xa4 := Lib.cell_of_heap Xa 4
     have xa5 := Lib.cell_of_heap Xa 5
     have xa6 := Lib.cell_of_heap Xa 6
     obtain ⟨-, Xb⟩ := BXb.out
     have xb0 := Lib.cell_of_heap Xb 0
     have xb1 := Lib.cell_of_heap Xb 1
     have xb2 := Lib.cell_of_heap Xb 2
     have xb3 := Lib.cell_of_heap Xb 3
     have xb4 := Lib.cell_of_heap Xb 4
     have xb5 := Lib.cell_of_heap Xb 5
     have xb6 := Lib.cell_of_heap Xb 6
     simp at xa0 xa1 xa2 xa3 xa4 xa5 xa6 xb0 xb1 xb2 xb3 xb4 xb5 xb6
     clear Xa Xb
     go_wp2_with fail
     refine CT.out.mono ?_; rintro e w10 ⟨jj, rfl, hj1, hj2, hb⟩
     obtain rfl : jj = false := by
      cases jj with
      | false => rfl
      | true => exact absurd ⟨(hj1 rfl).1, (hj1 rfl).2.1⟩ HNO.out
     clear hj1 hj2
     clear xa0 xa1 xa2 xa3 xa4 xa5 xa6 xb0 xb1 xb2 xb3 xb4 xb5 xb6
     clear CT
     replace BXa := Lib.hid (box_step BXa.out hb)
     replace BXb := Lib.hid (box_step BXb.out hb)
     replace BXx := Lib.hid (box_step BXx.out hb)
     replace BXy := Lib.hid (box_step BXy.out hb)
     replace KTa := Lib.hid (KTa.out.keep hb)
     replace KTb := Lib.hid (KTb.out.keep hb)
     replace KTx := Lib.hid (KTx.out.keep hb)
     replace KTy := Lib.hid (KTy.out.keep hb)
     replace HB := Lib.hid (below_over HB.out hb)
     clear hb
     have CT := Lib.hid (same_any _ x zTy (Nat.le_refl _) (.agg #[.int .i64 x.kind, .string x.pkg, .int .i64 x.major, .string x.mod, .string x.name, .slice Xn x.names.length Xc, .slice Xs x.subs.length Xd]) (.agg #[.int .i64 0, .string ⟨#[]⟩, .int .i64 0, .string ⟨#[]⟩, .string ⟨#[]⟩, .slice none 0 0, .slice none 0 0]) w10 ⟨_, rfl, KTx.out⟩ ⟨_, rfl, zeroT_at _⟩)
     rw [HX1.out] at CT
     obtain ⟨-, Xx⟩ := BXx.out
     have xx0 := Lib.cell_of_heap Xx 0
     have xx1 := Lib.cell_of_heap Xx 1
     have xx2 := Lib.cell_of_heap Xx 2
     have xx3 := Lib.cell_of_heap Xx 3
     have xx4 := Lib.cell_of_heap Xx 4
     have xx5 := Lib.cell_of_heap Xx 5
     have xx6 := Lib.cell_of_heap Xx 6
     simp at xx0 xx1 xx2 xx3 xx4 xx5 xx6
     clear Xx
     go_wp2_with fail
     refine CT.out.mono ?_; rintro e w11 ⟨rfl, hb⟩
     clear xx0 xx1 xx2 xx3 xx4 xx5 xx6
     clear CT
     replace BXa := Lib.hid (box_step BXa.out hb)
     replace BXb := Lib.hid (box_step BXb.out hb)
     replace BXx := Lib.hid (box_step BXx.out hb)
     replace BXy := Lib.hid (box_step BXy.out hb)
     replace KTa := Lib.hid (KTa.out.keep hb)
     replace KTb := Lib.hid (KTb.out.keep hb)
     replace KTx := Lib.hid (KTx.out.keep hb)
     replace KTy := Lib.hid (KTy.out.keep hb)
     replace HB := Lib.hid (below_over HB.out hb)
     clear hb
     have CT := Lib.hid (same_any _ y zTy (Nat.le_refl _) (.agg #[.int .i64 y.kind, .string y.pkg, .int .i64 y.major, .string y.mod, .string y.name, .slice Yn y.names.length Yc, .slice Ys y.subs.length Yd]) (.agg #[.int .i64 0, .string ⟨#[]⟩, .int .i64 0, .string ⟨#[]⟩, .string ⟨#[]⟩, .slice none 0 0, .slice none 0 0]) w11 ⟨_, rfl, KTy.out⟩ ⟨_, rfl, zeroT_at _⟩)
     rw [HY1.out] at CT
     obtain ⟨-, Xy⟩ := BXy.out
     have xy0 := Lib.cell_of_heap Xy 0
     have xy1 := Lib.cell_of_heap Xy 1
     have xy2 := Lib.cell_of_heap Xy 2
     have xy3 := Lib.cell_of_heap Xy 3
     have xy4 := Lib.cell_of_heap Xy 4
     have xy5 := Lib.cell_of_heap Xy 5
     have xy6 := Lib.cell_of_heap Xy 6
     simp at xy0 xy1 xy2 xy3 xy4 xy5 xy6
     clear Xy
     go_wp2_with fail
     refine CT.out.mono ?_; rintro e w12 ⟨rfl, hb⟩
     clear xy0 xy1 xy2 xy3 xy4 xy5 xy6
     clear CT
     replace BXa := Lib.hid (box_step BXa.out hb)
     replace BXb := Lib.hid (box_step BXb.out hb)
     replace BXx := Lib.hid (box_step BXx.out hb)
     replace BXy := Lib.hid (box_step BXy.out hb)
     replace KTa := Lib.hid (KTa.out.keep hb)
     replace KTb := Lib.hid (KTb.out.keep hb)
     replace KTx := Lib.hid (KTx.out.keep hb)
     replace KTy := Lib.hid (KTy.out.keep hb)
     replace HB := Lib.hid (below_over HB.out hb)
     clear hb
     go_wp2_with fail
     go_ret
     exact ⟨rfl, HB.out⟩
    | true =>
     have OKa := Lib.hid (okL_ok Hr.out.symm)
     have OKb := Lib.hid (okL_ok Hs.out.symm)
     replace ISx := Lib.hid (ISx.out.is OKa.out OKb.out)
     replace ISy := Lib.hid (ISy.out.is OKa.out OKb.out)
     have HAC : Hid (Below w9.heap.size w9 w9) := Lib.hid (Below.refl _ _)
     have HWB := HB
     have CT := Lib.hid (rbound_any w9 _ true a b (Nat.le_refl _) (okT_many OKa.out) (okT_many OKb.out) (okT_good OKa.out) (okT_good OKb.out) [.int .i64 a.kind, .string a.pkg, .int .i64 a.major, .string a.mod, .string a.name, .slice An a.names.length Ac, .slice As a.subs.length Ad] [.int .i64 b.kind, .string b.pkg, .int .i64 b.major, .string b.mod, .string b.name, .slice Bn b.names.length Bc, .slice Bs b.subs.length Bd] w9 KTa.out KTb.out HAC.out)
     have Xa := (HAC.out.block _ BXa.out.1).trans BXa.out.2
     have xa0 := Lib.cell_of_heap Xa 0
     have xa1 := Lib.cell_of_heap Xa 1
     have xa2 := Lib.cell_of_heap Xa 2
     have xa3 := Lib.cell_of_heap Xa 3
     have xa4 := Lib.cell_of_heap Xa 4
     have xa5 := Lib.cell_of_heap Xa 5
     have xa6 := Lib.cell_of_heap Xa 6
     have Xb := (HAC.out.block _ BXb.out.1).trans BXb.out.2
     have xb0 := Lib.cell_of_heap Xb 0
     have xb1 := Lib.cell_of_heap Xb 1
     have xb2 := Lib.cell_of_heap Xb 2
     have xb3 := Lib.cell_of_heap Xb 3
     have xb4 := Lib.cell_of_heap Xb 4
     have xb5 := Lib.cell_of_heap Xb 5
     have xb6 := Lib.cell_of_heap Xb 6
     simp at xa0 xa1 xa2 xa3 xa4 xa5 xa6 xb0 xb1 xb2 xb3 xb4 xb5 xb6
     clear Xa Xb
     go_wp2_with fail
     refine CT.out.mono ?_; rintro e w10 ⟨lp, u1, rfl, hb, hsh, hcase⟩
     obtain ⟨p, Pn, Pc, Ps, Pd, rfl, his⟩ := rb_typ hsh hcase
     have HP := Lib.hid his
     clear his hcase hsh
     clear CT xa0 xa1 xa2 xa3 xa4 xa5 xa6 xb0 xb1 xb2 xb3 xb4 xb5 xb6
     replace HAC := Lib.hid (below_over HAC.out hb)
     replace HWB := Lib.hid (below_over HWB.out hb)
     clear hb
     obtain ⟨w11, hq⟩ : ∃ W, W = w10.alloc (.cells #[.int .i64 p.kind, .string p.pkg, .int .i64 p.major, .string p.mod, .string p.name, .slice Pn p.names.length Pc, .slice Ps p.subs.length Pd] 25) := ⟨_, rfl⟩
     have hb : Below w10.heap.size w10 w11 := by rw [hq]; exact below_new (Below.refl _ _) _
     have BXp : Hid (w10.heap.size < w11.heap.size ∧ w11.heap[w10.heap.size]? = some (.cells #[.int .i64 p.kind, .string p.pkg, .int .i64 p.major, .string p.mod, .string p.name, .slice Pn p.names.length Pc, .slice Ps p.subs.length Pd] 25 (0, 0))) := Lib.hid ⟨by rw [hq]; simp, by rw [hq]; exact heap_alloc_new w10 _⟩
     have HQW := Lib.hid hq
     have HAB1 : Hid (w9.heap.size ≤ w10.heap.size) := Lib.hid HAC.out.size
     have HPB := Lib.hid hb
     clear hq
     replace HAC := Lib.hid (below_over HAC.out hb)
     replace HWB := Lib.hid (below_over HWB.out hb)
     clear hb
     go_upto_region 13 with fail
     rw [← HQW.out]
     clear HQW
     have HB12 : Hid (w10.heap.size < w11.heap.size) := Lib.hid BXp.out.1
     have CT := Lib.hid (rbound_any w9 _ false a b (Nat.le_refl _) (okT_many OKa.out) (okT_many OKb.out) (okT_good OKa.out) (okT_good OKb.out) [.int .i64 a.kind, .string a.pkg, .int .i64 a.major, .string a.mod, .string a.name, .slice An a.names.length Ac, .slice As a.subs.length Ad] [.int .i64 b.kind, .string b.pkg, .int .i64 b.major, .string b.mod, .string b.name, .slice Bn b.names.length Bc, .slice Bs b.subs.length Bd] w11 KTa.out KTb.out HAC.out)
     have Xa := (HAC.out.block _ BXa.out.1).trans BXa.out.2
     have xa0 := Lib.cell_of_heap Xa 0
     have xa1 := Lib.cell_of_heap Xa 1
     have xa2 := Lib.cell_of_heap Xa 2
     have xa3 := Lib.cell_of_heap Xa 3
     have xa4 := Lib.cell_of_heap Xa 4
     have xa5 := Lib.cell_of_heap Xa 5
     have xa6 := Lib.cell_of_heap Xa 6
     have Xb := (HAC.out.block _ BXb.out.1).trans BXb.out.2
     have xb0 := Lib.cell_of_heap Xb 0
     have xb1 := Lib.cell_of_heap Xb 1
     have xb2 := Lib.cell_of_heap Xb 2
     have xb3 := Lib.cell_of_heap Xb 3
     have xb4 := Lib.cell_of_heap Xb 4
     have xb5 := Lib.cell_of_heap Xb 5
     have xb6 := Lib.cell_of_heap Xb 6
     simp at xa0 xa1 xa2 xa3 xa4 xa5 xa6 xb0 xb1 xb2 xb3 xb4 xb5 xb6
     clear Xa Xb
     go_wp2_with fail
     refine CT.out.mono ?_; rintro e w12 ⟨lq, u2, rfl, hb, hsh, hcase⟩
     obtain ⟨q, Qn, Qc, Qs, Qd, rfl, his⟩ := rb_typS hsh hcase
     have HQ := Lib.hid his
     clear his hcase hsh
     clear CT xa0 xa1 xa2 xa3 xa4 xa5 xa6 xb0 xb1 xb2 xb3 xb4 xb5 xb6
     replace HAC := Lib.hid (below_over HAC.out hb)
     replace HWB := Lib.hid (below_over HWB.out hb)
     replace BXp := Lib.hid (box_step BXp.out hb)
     replace HPB := Lib.hid (below_over HPB.out hb)
     clear hb
     obtain ⟨w13, hq⟩ : ∃ W, W = w12.alloc (.cells #[.int .i64 q.kind, .string q.pkg, .int .i64 q.major, .string q.mod, .string q.name, .slice Qn q.names.length Qc, .slice Qs q.subs.length Qd] 25) := ⟨_, rfl⟩
     have hb : Below w12.heap.size w12 w13 := by rw [hq]; exact below_new (Below.refl _ _) _
     have BXq : Hid (w12.heap.size < w13.heap.size ∧ w13.heap[w12.heap.size]? = some (.cells #[.int .i64 q.kind, .string q.pkg, .int .i64 q.major, .string q.mod, .string q.name, .slice Qn q.names.length Qc, .slice Qs q.subs.length Qd] 25 (0, 0))) := Lib.hid ⟨by rw [hq]; simp, by rw [hq]; exact heap_alloc_new w12 _⟩
     have HQW := Lib.hid hq
     have HB13 : Hid (w10.heap.size < w12.heap.size) := Lib.hid BXp.out.1
     clear hq
     replace HAC := Lib.hid (below_over HAC.out hb)
     replace HWB := Lib.hid (below_over HWB.out hb)
     replace BXp := Lib.hid (box_step BXp.out hb)
     replace HPB := Lib.hid (below_over HPB.out hb)
     replace HQ := Lib.hid (HQ.out.keep hb)
     clear hb
     go_upto_region 14 with fail
     rw [← HQW.out]
     clear HQW
     have HSM : Hid (many a ≤ 500 ∧ many b ≤ 500) := Lib.hid (by
      have h1 := OKa.out
      have h2 := OKb.out
      unfold okT at h1 h2
      rw [Bool.and_eq_true] at h1 h2
      exact ⟨mayT_many h1.1, mayT_many h2.1⟩)
     have HSZ : Hid (∀ up t, IsBnd up a b t → many t ≤ 1000000) := Lib.hid (fun up t ht => by
      have h1 := bnd_size (okT_good OKa.out) (okT_good OKb.out) ht
      have h2 := HSM.out
      have h3 : many a * many b ≤ 500 * 500 := Nat.mul_le_mul h2.1 h2.2
      omega)
     have HBA : Hid (w.heap.size ≤ w9.heap.size) := Lib.hid HB.out.size
     cases u1 with
     | false =>
      have NOP : Hid (NoBnd true a b) := Lib.hid HP.out.no
      obtain ⟨e1, ex⟩ := td_rb ISx.out (v := zTy) (.inr ⟨rfl, rfl, fun t ht => (ht.not NOP.out).elim⟩)
      have HSX : Hid (sameT x zTy = true) := Lib.hid ((sameT_iff x zTy).2 ex)
      subst e1
      clear ex
      have XZ := BXp.out.2
      go_upto_region 17 with (first | (((with_reducible refine wpList_putRow 25 (w10.heap.size) #[.int .i64 0, .string ⟨#[]⟩, .int .i64 0, .string ⟨#[]⟩, .string ⟨#[]⟩, .slice none 0 0, .slice none 0 0] _ _ XZ ?_ ?_ ?_ ?_ ?_ ?_); exact tySize; rfl; exact tyOne; (focus (first | (go_simp; done) | rfl)); (focus (first | (go_simp; done) | rfl)))))
      obtain ⟨w14, hq⟩ : ∃ W, W = w13.setRow (w10.heap.size) #[.int .i64 0, .string ⟨#[]⟩, .int .i64 0, .string ⟨#[]⟩, .string ⟨#[]⟩, .slice none 0 0, .slice none 0 0] := ⟨_, rfl⟩
      rw [← hq]
      try simp only [Act.put]
      have NAC : Hid (Below w9.heap.size w9 w14) := Lib.hid (by rw [hq]; exact setRow_below HAC.out (by have h1 := HAB1.out; have h2 := HB13.out; omega) _)
      have NWB : Hid (Below w.heap.size w w14) := Lib.hid (by rw [hq]; exact setRow_below HWB.out (by have h1 := HAB1.out; have h2 := HB13.out; have h3 := HBA.out; omega) _)
      have NX : Hid (w10.heap.size < w14.heap.size ∧ w14.heap[w10.heap.size]? = some (.cells #[.int .i64 0, .string ⟨#[]⟩, .int .i64 0, .string ⟨#[]⟩, .string ⟨#[]⟩, .slice none 0 0, .slice none 0 0] 25 (0, 0))) := Lib.hid (by rw [hq]; exact box_put BXp.out)
      have NY : Hid (w12.heap.size < w14.heap.size ∧ w14.heap[w12.heap.size]? = some (.cells #[.int .i64 q.kind, .string q.pkg, .int .i64 q.major, .string q.mod, .string q.name, .slice Qn q.names.length Qc, .slice Qs q.subs.length Qd] 25 (0, 0))) := Lib.hid ⟨by rw [hq, size_setRow]; exact BXq.out.1, by rw [hq]; exact (setRow_other _ _ _ _ (by have := HB13.out; omega)).trans BXq.out.2⟩
      have NQ := Lib.hid (HQ.out.put (c := #[.int .i64 0, .string ⟨#[]⟩, .int .i64 0, .string ⟨#[]⟩, .string ⟨#[]⟩, .slice none 0 0, .slice none 0 0]) (b := w10.heap.size) ⟨HAB1.out, HB12.out⟩)
      rw [← hq] at NQ
      clear HAC HWB BXp BXq HQ HPB hq XZ
      have HAC := NAC
      have HWB := NWB
      have BXp := NX
      have BXq := NY
      have HQ := NQ
      clear NAC NWB NX NY NQ
      cases u2 with
      | false =>
       have NOQ : Hid (NoBnd false a b) := Lib.hid HQ.out.no
       obtain ⟨e2, ey⟩ := td_rb ISy.out (v := zTy) (.inr ⟨rfl, rfl, fun t ht => (ht.not NOQ.out).elim⟩)
       have HSY : Hid (sameT y zTy = true) := Lib.hid ((sameT_iff y zTy).2 ey)
       subst e2
       clear ey
       have XZ := BXq.out.2
       go_upto_region 20 with (first | (((with_reducible refine wpList_putRow 25 (w12.heap.size) #[.int .i64 0, .string ⟨#[]⟩, .int .i64 0, .string ⟨#[]⟩, .string ⟨#[]⟩, .slice none 0 0, .slice none 0 0] _ _ XZ ?_ ?_ ?_ ?_ ?_ ?_); exact tySize; rfl; exact tyOne; (focus (first | (go_simp; done) | rfl)); (focus (first | (go_simp; done) | rfl)))))
       obtain ⟨w15, hq⟩ : ∃ W, W = w14.setRow (w12.heap.size) #[.int .i64 0, .string ⟨#[]⟩, .int .i64 0, .string ⟨#[]⟩, .string ⟨#[]⟩, .slice none 0 0, .slice none 0 0] := ⟨_, rfl⟩
       rw [← hq]
       try simp only [Act.put]
       have NAC : Hid (Below w9.heap.size w9 w15) := Lib.hid (by rw [hq]; exact setRow_below HAC.out (by have h1 := HAB1.out; have h2 := HB13.out; omega) _)
       have NWB : Hid (Below w.heap.size w w15) := Lib.hid (by rw [hq]; exact setRow_below HWB.out (by have h1 := HAB1.out; have h2 := HB13.out; have h3 := HBA.out; omega) _)
       have NX : Hid (w12.heap.size < w15.heap.size ∧ w15.heap[w12.heap.size]? = some (.cells #[.int .i64 0, .string ⟨#[]⟩, .int .i64 0, .string ⟨#[]⟩, .string ⟨#[]⟩, .slice none 0 0, .slice none 0 0] 25 (0, 0))) := Lib.hid (by rw [hq]; exact box_put BXq.out)
       have NY : Hid (w10.heap.size < w15.heap.size ∧ w15.heap[w10.heap.size]? = some (.cells #[.int .i64 0, .string ⟨#[]⟩, .int .i64 0, .string ⟨#[]⟩, .string ⟨#[]⟩, .slice none 0 0, .slice none 0 0] 25 (0, 0))) := Lib.hid ⟨by rw [hq, size_setRow]; exact BXp.out.1, by rw [hq]; exact (setRow_other _ _ _ _ (by have := HB13.out; omega)).trans BXp.out.2⟩
       clear HAC HWB BXp BXq HQ hq XZ
       have HAC := NAC
       have HWB := NWB
       have BXq := NX
       have BXp := NY
       clear NAC NWB NX NY
       have CT := Lib.hid (Joins_any9 a b [.int .i64 a.kind, .string a.pkg, .int .i64 a.major, .string a.mod, .string a.name, .slice An a.names.length Ac, .slice As a.subs.length Ad] [.int .i64 b.kind, .string b.pkg, .int .i64 b.major, .string b.mod, .string b.name, .slice Bn b.names.length Bc, .slice Bs b.subs.length Bd] w15 (KTa.out.keep HAC.out) (KTb.out.keep HAC.out))
       have Xa := (HAC.out.block _ BXa.out.1).trans BXa.out.2
       have xa0 := Lib.cell_of_heap Xa 0
       have xa1 := Lib.cell_of_heap Xa 1
       have xa2 := Lib.cell_of_heap Xa 2
       have xa3 := Lib.cell_of_heap Xa 3
       have xa4 := Lib.cell_of_heap Xa 4
       have xa5 := Lib.cell_of_heap Xa 5
       have xa6 := Lib.cell_of_heap Xa 6
       have Xb := (HAC.out.block _ BXb.out.1).trans BXb.out.2
       have xb0 := Lib.cell_of_heap Xb 0
       have xb1 := Lib.cell_of_heap Xb 1
       have xb2 := Lib.cell_of_heap Xb 2
       have xb3 := Lib.cell_of_heap Xb 3
       have xb4 := Lib.cell_of_heap Xb 4
       have xb5 := Lib.cell_of_heap Xb 5
       have xb6 := Lib.cell_of_heap Xb 6
       simp at xa0 xa1 xa2 xa3 xa4 xa5 xa6 xb0 xb1 xb2 xb3 xb4 xb5 xb6
       clear Xa Xb
       go_wp2_with fail
       refine CT.out.mono ?_; rintro e w16 ⟨jj, rfl, hj1, hj2, hb⟩
       obtain rfl : jj = false := by
        cases jj with
        | true => exact ((hj1 rfl).2.2.elim fun t ht => (ht.not NOP.out).elim)
        | false => rfl
       clear hj1 hj2
       clear CT xa0 xa1 xa2 xa3 xa4 xa5 xa6 xb0 xb1 xb2 xb3 xb4 xb5 xb6
       replace HAC := Lib.hid (below_over HAC.out hb)
       replace HWB := Lib.hid (below_over HWB.out hb)
       replace BXp := Lib.hid (box_step BXp.out hb)
       replace BXq := Lib.hid (box_step BXq.out hb)
       clear hb
       have CT := Lib.hid (same_any _ x zTy (Nat.le_refl _) (.agg #[.int .i64 x.kind, .string x.pkg, .int .i64 x.major, .string x.mod, .string x.name, .slice Xn x.names.length Xc, .slice Xs x.subs.length Xd]) (.agg #[.int .i64 0, .string ⟨#[]⟩, .int .i64 0, .string ⟨#[]⟩, .string ⟨#[]⟩, .slice none 0 0, .slice none 0 0]) w16 ⟨_, rfl, (KTx.out.keep HAC.out)⟩ ⟨_, rfl, zeroT_at _⟩)
       rw [HSX.out] at CT
       have Xx := (HAC.out.block _ BXx.out.1).trans BXx.out.2
       have xx0 := Lib.cell_of_heap Xx 0
       have xx1 := Lib.cell_of_heap Xx 1
       have xx2 := Lib.cell_of_heap Xx 2
       have xx3 := Lib.cell_of_heap Xx 3
       have xx4 := Lib.cell_of_heap Xx 4
       have xx5 := Lib.cell_of_heap Xx 5
       have xx6 := Lib.cell_of_heap Xx 6
       have Xp := BXp.out.2
       have xp0 := Lib.cell_of_heap Xp 0
       have xp1 := Lib.cell_of_heap Xp 1
       have xp2 := Lib.cell_of_heap Xp 2
       have xp3 := Lib.cell_of_heap Xp 3
       have xp4 := Lib.cell_of_heap Xp 4
       have xp5 := Lib.cell_of_heap Xp 5
       have xp6 := Lib.cell_of_heap Xp 6
       simp at xx0 xx1 xx2 xx3 xx4 xx5 xx6 xp0 xp1 xp2 xp3 xp4 xp5 xp6
       clear Xx Xp
       go_wp2_with fail
       refine CT.out.mono ?_; rintro e w17 ⟨rfl, hb⟩
       clear CT xx0 xx1 xx2 xx3 xx4 xx5 xx6 xp0 xp1 xp2 xp3 xp4 xp5 xp6
       replace HAC := Lib.hid (below_over HAC.out hb)
       replace HWB := Lib.hid (below_over HWB.out hb)
       replace BXp := Lib.hid (box_step BXp.out hb)
       replace BXq := Lib.hid (box_step BXq.out hb)
       clear hb
       have CT := Lib.hid (same_any _ y zTy (Nat.le_refl _) (.agg #[.int .i64 y.kind, .string y.pkg, .int .i64 y.major, .string y.mod, .string y.name, .slice Yn y.names.length Yc, .slice Ys y.subs.length Yd]) (.agg #[.int .i64 0, .string ⟨#[]⟩, .int .i64 0, .string ⟨#[]⟩, .string ⟨#[]⟩, .slice none 0 0, .slice none 0 0]) w17 ⟨_, rfl, (KTy.out.keep HAC.out)⟩ ⟨_, rfl, zeroT_at _⟩)
       rw [HSY.out] at CT
       have Xy := (HAC.out.block _ BXy.out.1).trans BXy.out.2
       have xy0 := Lib.cell_of_heap Xy 0
       have xy1 := Lib.cell_of_heap Xy 1
       have xy2 := Lib.cell_of_heap Xy 2
       have xy3 := Lib.cell_of_heap Xy 3
       have xy4 := Lib.cell_of_heap Xy 4
       have xy5 := Lib.cell_of_heap Xy 5
       have xy6 := Lib.cell_of_heap Xy 6
       have Xq := BXq.out.2
       have xq0 := Lib.cell_of_heap Xq 0
       have xq1 := Lib.cell_of_heap Xq 1
       have xq2 := Lib.cell_of_heap Xq 2
       have xq3 := Lib.cell_of_heap Xq 3
       have xq4 := Lib.cell_of_heap Xq 4
       have xq5 := Lib.cell_of_heap Xq 5
       have xq6 := Lib.cell_of_heap Xq 6
       simp at xy0 xy1 xy2 xy3 xy4 xy5 xy6 xq0 xq1 xq2 xq3 xq4 xq5 xq6
       clear Xy Xq
       go_wp2_with fail
       refine CT.out.mono ?_; rintro e w18 ⟨rfl, hb⟩
       clear CT xy0 xy1 xy2 xy3 xy4 xy5 xy6 xq0 xq1 xq2 xq3 xq4 xq5 xq6
       replace HAC := Lib.hid (below_over HAC.out hb)
       replace HWB := Lib.hid (below_over HWB.out hb)
       replace BXp := Lib.hid (box_step BXp.out hb)
       replace BXq := Lib.hid (box_step BXq.out hb)
       clear hb
       go_wp2_with fail
       go_ret
       exact ⟨rfl, HWB.out⟩
      | true =>
       have BDq : Hid (IsBnd false a b q) := Lib.hid HQ.out.yes.1
       obtain ⟨m2, hm2⟩ : ∃ m2, m2 = mayT q := ⟨_, rfl⟩
       have HM2 := Lib.hid hm2
       clear hm2
       have CT := Lib.hid (may_big q (.agg #[.int .i64 q.kind, .string q.pkg, .int .i64 q.major, .string q.mod, .string q.name, .slice Qn q.names.length Qc, .slice Qs q.subs.length Qd]) w14 (HSZ.out _ _ BDq.out) ⟨_, rfl, HQ.out.yes.2⟩)
       rw [← HM2.out] at CT
       have Xq := BXq.out.2
       have xq0 := Lib.cell_of_heap Xq 0
       have xq1 := Lib.cell_of_heap Xq 1
       have xq2 := Lib.cell_of_heap Xq 2
       have xq3 := Lib.cell_of_heap Xq 3
       have xq4 := Lib.cell_of_heap Xq 4
       have xq5 := Lib.cell_of_heap Xq 5
       have xq6 := Lib.cell_of_heap Xq 6
       simp at xq0 xq1 xq2 xq3 xq4 xq5 xq6
       clear Xq
       go_wp2_with fail
       refine CT.out.mono ?_; rintro e w15 ⟨rfl, hb⟩
       clear CT xq0 xq1 xq2 xq3 xq4 xq5 xq6
       replace HAC := Lib.hid (below_over HAC.out hb)
       replace HWB := Lib.hid (below_over HWB.out hb)
       replace BXp := Lib.hid (box_step BXp.out hb)
       replace BXq := Lib.hid (box_step BXq.out hb)
       replace HQ := Lib.hid (HQ.out.keep hb)
       clear hb
       cases m2 with
       | false =>
        obtain ⟨e2, ey⟩ := td_rb ISy.out (v := zTy) (.inr ⟨rfl, rfl, fun t ht => by rw [← BDq.out.one ht]; exact HM2.out.symm⟩)
        have HSY : Hid (sameT y zTy = true) := Lib.hid ((sameT_iff y zTy).2 ey)
        subst e2
        clear ey
        have XZ := BXq.out.2
        go_upto_region 20 with (first | (((with_reducible refine wpList_putRow 25 (w12.heap.size) #[.int .i64 0, .string ⟨#[]⟩, .int .i64 0, .string ⟨#[]⟩, .string ⟨#[]⟩, .slice none 0 0, .slice none 0 0] _ _ XZ ?_ ?_ ?_ ?_ ?_ ?_); exact tySize; rfl; exact tyOne; (focus (first | (go_simp; done) | rfl)); (focus (first | (go_simp; done) | rfl)))))
        obtain ⟨w16, hq⟩ : ∃ W, W = w15.setRow (w12.heap.size) #[.int .i64 0, .string ⟨#[]⟩, .int .i64 0, .string ⟨#[]⟩, .string ⟨#[]⟩, .slice none 0 0, .slice none 0 0] := ⟨_, rfl⟩
        rw [← hq]
        try simp only [Act.put]
        have NAC : Hid (Below w9.heap.size w9 w16) := Lib.hid (by rw [hq]; exact setRow_below HAC.out (by have h1 := HAB1.out; have h2 := HB13.out; omega) _)
        have NWB : Hid (Below w.heap.size w w16) := Lib.hid (by rw [hq]; exact setRow_below HWB.out (by have h1 := HAB1.out; have h2 := HB13.out; have h3 := HBA.out; omega) _)
        have NX : Hid (w12.heap.size < w16.heap.size ∧ w16.heap[w12.heap.size]? = some (.cells #[.int .i64 0, .string ⟨#[]⟩, .int .i64 0, .string ⟨#[]⟩, .string ⟨#[]⟩, .slice none 0 0, .slice none 0 0] 25 (0, 0))) := Lib.hid (by rw [hq]; exact box_put BXq.out)
        have NY : Hid (w10.heap.size < w16.heap.size ∧ w16.heap[w10.heap.size]? = some (.cells #[.int .i64 0, .string ⟨#[]⟩, .int .i64 0, .string ⟨#[]⟩, .string ⟨#[]⟩, .slice none 0 0, .slice none 0 0] 25 (0, 0))) := Lib.hid ⟨by rw [hq, size_setRow]; exact BXp.out.1, by rw [hq]; exact (setRow_other _ _ _ _ (by have := HB13.out; omega)).trans BXp.out.2⟩
        clear HAC HWB BXp BXq HQ hq XZ
        have HAC := NAC
        have HWB := NWB
        have BXq := NX
        have BXp := NY
        clear NAC NWB NX NY
        have CT := Lib.hid (Joins_any9 a b [.int .i64 a.kind, .string a.pkg, .int .i64 a.major, .string a.mod, .string a.name, .slice An a.names.length Ac, .slice As a.subs.length Ad] [.int .i64 b.kind, .string b.pkg, .int .i64 b.major, .string b.mod, .string b.name, .slice Bn b.names.length Bc, .slice Bs b.subs.length Bd] w16 (KTa.out.keep HAC.out) (KTb.out.keep HAC.out))
        have Xa := (HAC.out.block _ BXa.out.1).trans BXa.out.2
        have xa0 := Lib.cell_of_heap Xa 0
        have xa1 := Lib.cell_of_heap Xa 1
        have xa2 := Lib.cell_of_heap Xa 2
        have xa3 := Lib.cell_of_heap Xa 3
        have xa4 := Lib.cell_of_heap Xa 4
        have xa5 := Lib.cell_of_heap Xa 5
        have xa6 := Lib.cell_of_heap Xa 6
        have Xb := (HAC.out.block _ BXb.out.1).trans BXb.out.2
        have xb0 := Lib.cell_of_heap Xb 0
        have xb1 := Lib.cell_of_heap Xb 1
        have xb2 := Lib.cell_of_heap Xb 2
        have xb3 := Lib.cell_of_heap Xb 3
        have xb4 := Lib.cell_of_heap Xb 4
        have xb5 := Lib.cell_of_heap Xb 5
        have xb6 := Lib.cell_of_heap Xb 6
        simp at xa0 xa1 xa2 xa3 xa4 xa5 xa6 xb0 xb1 xb2 xb3 xb4 xb5 xb6
        clear Xa Xb
        go_wp2_with fail
        refine CT.out.mono ?_; rintro e w17 ⟨jj, rfl, hj1, hj2, hb⟩
        obtain rfl : jj = false := by
         cases jj with
         | true => exact ((hj1 rfl).2.2.elim fun t ht => (ht.not NOP.out).elim)
         | false => rfl
        clear hj1 hj2
        clear CT xa0 xa1 xa2 xa3 xa4 xa5 xa6 xb0 xb1 xb2 xb3 xb4 xb5 xb6
        replace HAC := Lib.hid (below_over HAC.out hb)
        replace HWB := Lib.hid (below_over HWB.out hb)
        replace BXp := Lib.hid (box_step BXp.out hb)
        replace BXq := Lib.hid (box_step BXq.out hb)
        clear hb
        have CT := Lib.hid (same_any _ x zTy (Nat.le_refl _) (.agg #[.int .i64 x.kind, .string x.pkg, .int .i64 x.major, .string x.mod, .string x.name, .slice Xn x.names.length Xc, .slice Xs x.subs.length Xd]) (.agg #[.int .i64 0, .string ⟨#[]⟩, .int .i64 0, .string ⟨#[]⟩, .string ⟨#[]⟩, .slice none 0 0, .slice none 0 0]) w17 ⟨_, rfl, (KTx.out.keep HAC.out)⟩ ⟨_, rfl, zeroT_at _⟩)
        rw [HSX.out] at CT
        have Xx := (HAC.out.block _ BXx.out.1).trans BXx.out.2
        have xx0 := Lib.cell_of_heap Xx 0
        have xx1 := Lib.cell_of_heap Xx 1
        have xx2 := Lib.cell_of_heap Xx 2
        have xx3 := Lib.cell_of_heap Xx 3
        have xx4 := Lib.cell_of_heap Xx 4
        have xx5 := Lib.cell_of_heap Xx 5
        have xx6 := Lib.cell_of_heap Xx 6
        have Xp := BXp.out.2
        have xp0 := Lib.cell_of_heap Xp 0
        have xp1 := Lib.cell_of_heap Xp 1
        have xp2 := Lib.cell_of_heap Xp 2
        have xp3 := Lib.cell_of_heap Xp 3
        have xp4 := Lib.cell_of_heap Xp 4
        have xp5 := Lib.cell_of_heap Xp 5
        have xp6 := Lib.cell_of_heap Xp 6
        simp at xx0 xx1 xx2 xx3 xx4 xx5 xx6 xp0 xp1 xp2 xp3 xp4 xp5 xp6
        clear Xx Xp
        go_wp2_with fail
        refine CT.out.mono ?_; rintro e w18 ⟨rfl, hb⟩
        clear CT xx0 xx1 xx2 xx3 xx4 xx5 xx6 xp0 xp1 xp2 xp3 xp4 xp5 xp6
        replace HAC := Lib.hid (below_over HAC.out hb)
        replace HWB := Lib.hid (below_over HWB.out hb)
        replace BXp := Lib.hid (box_step BXp.out hb)
        replace BXq := Lib.hid (box_step BXq.out hb)
        clear hb
        have CT := Lib.hid (same_any _ y zTy (Nat.le_refl _) (.agg #[.int .i64 y.kind, .string y.pkg, .int .i64 y.major, .string y.mod, .string y.name, .slice Yn y.names.length Yc, .slice Ys y.subs.length Yd]) (.agg #[.int .i64 0, .string ⟨#[]⟩, .int .i64 0, .string ⟨#[]⟩, .string ⟨#[]⟩, .slice none 0 0, .slice none 0 0]) w18 ⟨_, rfl, (KTy.out.keep HAC.out)⟩ ⟨_, rfl, zeroT_at _⟩)
        rw [HSY.out] at CT
        have Xy := (HAC.out.block _ BXy.out.1).trans BXy.out.2
        have xy0 := Lib.cell_of_heap Xy 0
        have xy1 := Lib.cell_of_heap Xy 1
        have xy2 := Lib.cell_of_heap Xy 2
        have xy3 := Lib.cell_of_heap Xy 3
        have xy4 := Lib.cell_of_heap Xy 4
        have xy5 := Lib.cell_of_heap Xy 5
        have xy6 := Lib.cell_of_heap Xy 6
        have Xq := BXq.out.2
        have xq0 := Lib.cell_of_heap Xq 0
        have xq1 := Lib.cell_of_heap Xq 1
        have xq2 := Lib.cell_of_heap Xq 2
        have xq3 := Lib.cell_of_heap Xq 3
        have xq4 := Lib.cell_of_heap Xq 4
        have xq5 := Lib.cell_of_heap Xq 5
        have xq6 := Lib.cell_of_heap Xq 6
        simp at xy0 xy1 xy2 xy3 xy4 xy5 xy6 xq0 xq1 xq2 xq3 xq4 xq5 xq6
        clear Xy Xq
        go_wp2_with fail
        refine CT.out.mono ?_; rintro e w19 ⟨rfl, hb⟩
        clear CT xy0 xy1 xy2 xy3 xy4 xy5 xy6 xq0 xq1 xq2 xq3 xq4 xq5 xq6
        replace HAC := Lib.hid (below_over HAC.out hb)
        replace HWB := Lib.hid (below_over HWB.out hb)
        replace BXp := Lib.hid (box_step BXp.out hb)
        replace BXq := Lib.hid (box_step BXq.out hb)
        clear hb
        go_wp2_with fail
        go_ret
        exact ⟨rfl, HWB.out⟩
       | true =>
        obtain ⟨e2, ey⟩ := td_rb ISy.out (v := q) (.inl ⟨rfl, BDq.out, HM2.out.symm⟩)
        have HSY : Hid (sameT y q = true) := Lib.hid ((sameT_iff y q).2 ey)
        subst e2
        clear ey
        have CT := Lib.hid (Joins_any9 a b [.int .i64 a.kind, .string a.pkg, .int .i64 a.major, .string a.mod, .string a.name, .slice An a.names.length Ac, .slice As a.subs.length Ad] [.int .i64 b.kind, .string b.pkg, .int .i64 b.major, .string b.mod, .string b.name, .slice Bn b.names.length Bc, .slice Bs b.subs.length Bd] w15 (KTa.out.keep HAC.out) (KTb.out.keep HAC.out))
        have Xa := (HAC.out.block _ BXa.out.1).trans BXa.out.2
        have xa0 := Lib.cell_of_heap Xa 0
        have xa1 := Lib.cell_of_heap Xa 1
        have xa2 := Lib.cell_of_heap Xa 2
        have xa3 := Lib.cell_of_heap Xa 3
        have xa4 := Lib.cell_of_heap Xa 4
        have xa5 := Lib.cell_of_heap Xa 5
        have xa6 := Lib.cell_of_heap Xa 6
        have Xb := (HAC.out.block _ BXb.out.1).trans BXb.out.2
        have xb0 := Lib.cell_of_heap Xb 0
        have xb1 := Lib.cell_of_heap Xb 1
        have xb2 := Lib.cell_of_heap Xb 2
        have xb3 := Lib.cell_of_heap Xb 3
        have xb4 := Lib.cell_of_heap Xb 4
        have xb5 := Lib.cell_of_heap Xb 5
        have xb6 := Lib.cell_of_heap Xb 6
        simp at xa0 xa1 xa2 xa3 xa4 xa5 xa6 xb0 xb1 xb2 xb3 xb4 xb5 xb6
        clear Xa Xb
        go_wp2_with fail
        refine CT.out.mono ?_; rintro e w16 ⟨jj, rfl, hj1, hj2, hb⟩
        obtain rfl : jj = false := by
         cases jj with
         | true => exact ((hj1 rfl).2.2.elim fun t ht => (ht.not NOP.out).elim)
         | false => rfl
        clear hj1 hj2
        clear CT xa0 xa1 xa2 xa3 xa4 xa5 xa6 xb0 xb1 xb2 xb3 xb4 xb5 xb6
        replace HAC := Lib.hid (below_over HAC.out hb)
        replace HWB := Lib.hid (below_over HWB.out hb)
        replace BXp := Lib.hid (box_step BXp.out hb)
        replace BXq := Lib.hid (box_step BXq.out hb)
        replace HQ := Lib.hid (HQ.out.keep hb)
        clear hb
        have CT := Lib.hid (same_any _ x zTy (Nat.le_refl _) (.agg #[.int .i64 x.kind, .string x.pkg, .int .i64 x.major, .string x.mod, .string x.name, .slice Xn x.names.length Xc, .slice Xs x.subs.length Xd]) (.agg #[.int .i64 0, .string ⟨#[]⟩, .int .i64 0, .string ⟨#[]⟩, .string ⟨#[]⟩, .slice none 0 0, .slice none 0 0]) w16 ⟨_, rfl, (KTx.out.keep HAC.out)⟩ ⟨_, rfl, zeroT_at _⟩)
        rw [HSX.out] at CT
        have Xx := (HAC.out.block _ BXx.out.1).trans BXx.out.2
        have xx0 := Lib.cell_of_heap Xx 0
        have xx1 := Lib.cell_of_heap Xx 1
        have xx2 := Lib.cell_of_heap Xx 2
        have xx3 := Lib.cell_of_heap Xx 3
        have xx4 := Lib.cell_of_heap Xx 4
        have xx5 := Lib.cell_of_heap Xx 5
        have xx6 := Lib.cell_of_heap Xx 6
        have Xp := BXp.out.2
        have xp0 := Lib.cell_of_heap Xp 0
        have xp1 := Lib.cell_of_heap Xp 1
        have xp2 := Lib.cell_of_heap Xp 2
        have xp3 := Lib.cell_of_heap Xp 3
        have xp4 := Lib.cell_of_heap Xp 4
        have xp5 := Lib.cell_of_heap Xp 5
        have xp6 := Lib.cell_of_heap Xp 6
        simp at xx0 xx1 xx2 xx3 xx4 xx5 xx6 xp0 xp1 xp2 xp3 xp4 xp5 xp6
        clear Xx Xp
        go_wp2_with fail
        refine CT.out.mono ?_; rintro e w17 ⟨rfl, hb⟩
        clear CT xx0 xx1 xx2 xx3 xx4 xx5 xx6 xp0 xp1 xp2 xp3 xp4 xp5 xp6
        replace HAC := Lib.hid (below_over HAC.out hb)
        replace HWB := Lib.hid (below_over HWB.out hb)
        replace BXp := Lib.hid (box_step BXp.out hb)
        replace BXq := Lib.hid (box_step BXq.out hb)
        replace HQ := Lib.hid (HQ.out.keep hb)
        clear hb
        have CT := Lib.hid (same_any _ y q (Nat.le_refl _) (.agg #[.int .i64 y.kind, .string y.pkg, .int .i64 y.major, .string y.mod, .string y.name, .slice Yn y.names.length Yc, .slice Ys y.subs.length Yd]) (.agg #[.int .i64 q.kind, .string q.pkg, .int .i64 q.major, .string q.mod, .string q.name, .slice Qn q.names.length Qc, .slice Qs q.subs.length Qd]) w17 ⟨_, rfl, (KTy.out.keep HAC.out)⟩ ⟨_, rfl, HQ.out.yes.2⟩)
        rw [HSY.out] at CT
        have Xy := (HAC.out.block _ BXy.out.1).trans BXy.out.2
        have xy0 := Lib.cell_of_heap Xy 0
        have xy1 := Lib.cell_of_heap Xy 1
        have xy2 := Lib.cell_of_heap Xy 2
        have xy3 := Lib.cell_of_heap Xy 3
        have xy4 := Lib.cell_of_heap Xy 4
        have xy5 := Lib.cell_of_heap Xy 5
        have xy6 := Lib.cell_of_heap Xy 6
        have Xq := BXq.out.2
        have xq0 := Lib.cell_of_heap Xq 0
        have xq1 := Lib.cell_of_heap Xq 1
        have xq2 := Lib.cell_of_heap Xq 2
        have xq3 := Lib.cell_of_heap Xq 3
        have xq4 := Lib.cell_of_heap Xq 4
        have xq5 := Lib.cell_of_heap Xq 5
        have xq6 := Lib.cell_of_heap Xq 6
        simp at xy0 xy1 xy2 xy3 xy4 xy5 xy6 xq0 xq1 xq2 xq3 xq4 xq5 xq6
        clear Xy Xq
        go_wp2_with fail
        refine CT.out.mono ?_; rintro e w18 ⟨rfl, hb⟩
        clear CT xy0 xy1 xy2 xy3 xy4 xy5 xy6 xq0 xq1 xq2 xq3 xq4 xq5 xq6
        replace HAC := Lib.hid (below_over HAC.out hb)
        replace HWB := Lib.hid (below_over HWB.out hb)
        replace BXp := Lib.hid (box_step BXp.out hb)
        replace BXq := Lib.hid (box_step BXq.out hb)
        replace HQ := Lib.hid (HQ.out.keep hb)
        clear hb
        go_wp2_with fail
        go_ret
        exact ⟨rfl, HWB.out⟩
     | true =>
      have BDp : Hid (IsBnd true a b p) := Lib.hid HP.out.yes.1
      obtain ⟨m1, hm1⟩ : ∃ m1, m1 = mayT p := ⟨_, rfl⟩
      have HM1 := Lib.hid hm1
      clear hm1
      have CT := Lib.hid (may_big p (.agg #[.int .i64 p.kind, .string p.pkg, .int .i64 p.major, .string p.mod, .string p.name, .slice Pn p.names.length Pc, .slice Ps p.subs.length Pd]) w13 (HSZ.out _ _ BDp.out) ⟨_, rfl, HP.out.yes.2.keep HPB.out⟩)
      rw [← HM1.out] at CT
      have Xp := BXp.out.2
      have xp0 := Lib.cell_of_heap Xp 0
      have xp1 := Lib.cell_of_heap Xp 1
      have xp2 := Lib.cell_of_heap Xp 2
      have xp3 := Lib.cell_of_heap Xp 3
      have xp4 := Lib.cell_of_heap Xp 4
      have xp5 := Lib.cell_of_heap Xp 5
      have xp6 := Lib.cell_of_heap Xp 6
      simp at xp0 xp1 xp2 xp3 xp4 xp5 xp6
      clear Xp
      go_wp2_with fail
      refine CT.out.mono ?_; rintro e w14 ⟨rfl, hb⟩
      clear CT xp0 xp1 xp2 xp3 xp4 xp5 xp6
      replace HAC := Lib.hid (below_over HAC.out hb)
      replace HWB := Lib.hid (below_over HWB.out hb)
      replace BXp := Lib.hid (box_step BXp.out hb)
      replace BXq := Lib.hid (box_step BXq.out hb)
      replace HPB := Lib.hid (below_over HPB.out hb)
      replace HQ := Lib.hid (HQ.out.keep hb)
      clear hb
      cases m1 with
      | false =>
       obtain ⟨e1, ex⟩ := td_rb ISx.out (v := zTy) (.inr ⟨rfl, rfl, fun t ht => by rw [← BDp.out.one ht]; exact HM1.out.symm⟩)
       have HSX : Hid (sameT x zTy = true) := Lib.hid ((sameT_iff x zTy).2 ex)
       subst e1
       clear ex
       have XZ := BXp.out.2
       go_upto_region 17 with (first | (((with_reducible refine wpList_putRow 25 (w10.heap.size) #[.int .i64 0, .string ⟨#[]⟩, .int .i64 0, .string ⟨#[]⟩, .string ⟨#[]⟩, .slice none 0 0, .slice none 0 0] _ _ XZ ?_ ?_ ?_ ?_ ?_ ?_); exact tySize; rfl; exact tyOne; (focus (first | (go_simp; done) | rfl)); (focus (first | (go_simp; done) | rfl)))))
       obtain ⟨w15, hq⟩ : ∃ W, W = w14.setRow (w10.heap.size) #[.int .i64 0, .string ⟨#[]⟩, .int .i64 0, .string ⟨#[]⟩, .string ⟨#[]⟩, .slice none 0 0, .slice none 0 0] := ⟨_, rfl⟩
       rw [← hq]
       try simp only [Act.put]
       have NAC : Hid (Below w9.heap.size w9 w15) := Lib.hid (by rw [hq]; exact setRow_below HAC.out (by have h1 := HAB1.out; have h2 := HB13.out; omega) _)
       have NWB : Hid (Below w.heap.size w w15) := Lib.hid (by rw [hq]; exact setRow_below HWB.out (by have h1 := HAB1.out; have h2 := HB13.out; have h3 := HBA.out; omega) _)
       have NX : Hid (w10.heap.size < w15.heap.size ∧ w15.heap[w10.heap.size]? = some (.cells #[.int .i64 0, .string ⟨#[]⟩, .int .i64 0, .string ⟨#[]⟩, .string ⟨#[]⟩, .slice none 0 0, .slice none 0 0] 25 (0, 0))) := Lib.hid (by rw [hq]; exact box_put BXp.out)
       have NY : Hid (w12.heap.size < w15.heap.size ∧ w15.heap[w12.heap.size]? = some (.cells #[.int .i64 q.kind, .string q.pkg, .int .i64 q.major, .string q.mod, .string q.name, .slice Qn q.names.length Qc, .slice Qs q.subs.length Qd] 25 (0, 0))) := Lib.hid ⟨by rw [hq, size_setRow]; exact BXq.out.1, by rw [hq]; exact (setRow_other _ _ _ _ (by have := HB13.out; omega)).trans BXq.out.2⟩
       have NQ := Lib.hid (HQ.out.put (c := #[.int .i64 0, .string ⟨#[]⟩, .int .i64 0, .string ⟨#[]⟩, .string ⟨#[]⟩, .slice none 0 0, .slice none 0 0]) (b := w10.heap.size) ⟨HAB1.out, HB12.out⟩)
       rw [← hq] at NQ
       clear HAC HWB BXp BXq HQ HPB hq XZ
       have HAC := NAC
       have HWB := NWB
       have BXp := NX
       have BXq := NY
       have HQ := NQ
       clear NAC NWB NX NY NQ
       cases u2 with
       | false =>
        have NOQ : Hid (NoBnd false a b) := Lib.hid HQ.out.no
        obtain ⟨e2, ey⟩ := td_rb ISy.out (v := zTy) (.inr ⟨rfl, rfl, fun t ht => (ht.not NOQ.out).elim⟩)
        have HSY : Hid (sameT y zTy = true) := Lib.hid ((sameT_iff y zTy).2 ey)
        subst e2
        clear ey
        have XZ := BXq.out.2
        go_upto_region 20 with (first | (((with_reducible refine wpList_putRow 25 (w12.heap.size) #[.int .i64 0, .string ⟨#[]⟩, .int .i64 0, .string ⟨#[]⟩, .string ⟨#[]⟩, .slice none 0 0, .slice none 0 0] _ _ XZ ?_ ?_ ?_ ?_ ?_ ?_); exact tySize; rfl; exact tyOne; (focus (first | (go_simp; done) | rfl)); (focus (first | (go_simp; done) | rfl)))))
        obtain ⟨w16, hq⟩ : ∃ W, W = w15.setRow (w12.heap.size) #[.int .i64 0, .string ⟨#[]⟩, .int .i64 0, .string ⟨#[]⟩, .string ⟨#[]⟩, .slice none 0 0, .slice none 0 0] := ⟨_, rfl⟩
        rw [← hq]
        try simp only [Act.put]
        have NAC : Hid (Below w9.heap.size w9 w16) := Lib.hid (by rw [hq]; exact setRow_below HAC.out (by have h1 := HAB1.out; have h2 := HB13.out; omega) _)
        have NWB : Hid (Below w.heap.size w w16) := Lib.hid (by rw [hq]; exact setRow_below HWB.out (by have h1 := HAB1.out; have h2 := HB13.out; have h3 := HBA.out; omega) _)
        have NX : Hid (w12.heap.size < w16.heap.size ∧ w16.heap[w12.heap.size]? = some (.cells #[.int .i64 0, .string ⟨#[]⟩, .int .i64 0, .string ⟨#[]⟩, .string ⟨#[]⟩, .slice none 0 0, .slice none 0 0] 25 (0, 0))) := Lib.hid (by rw [hq]; exact box_put BXq.out)
        have NY : Hid (w10.heap.size < w16.heap.size ∧ w16.heap[w10.heap.size]? = some (.cells #[.int .i64 0, .string ⟨#[]⟩, .int .i64 0, .string ⟨#[]⟩, .string ⟨#[]⟩, .slice none 0 0, .slice none 0 0] 25 (0, 0))) := Lib.hid ⟨by rw [hq, size_setRow]; exact BXp.out.1, by rw [hq]; exact (setRow_other _ _ _ _ (by have := HB13.out; omega)).trans BXp.out.2⟩
        clear HAC HWB BXp BXq HQ hq XZ
        have HAC := NAC
        have HWB := NWB
        have BXq := NX
        have BXp := NY
        clear NAC NWB NX NY
        have CT := Lib.hid (Joins_any9 a b [.int .i64 a.kind, .string a.pkg, .int .i64 a.major, .string a.mod, .string a.name, .slice An a.names.length Ac, .slice As a.subs.length Ad] [.int .i64 b.kind, .string b.pkg, .int .i64 b.major, .string b.mod, .string b.name, .slice Bn b.names.length Bc, .slice Bs b.subs.length Bd] w16 (KTa.out.keep HAC.out) (KTb.out.keep HAC.out))
        have Xa := (HAC.out.block _ BXa.out.1).trans BXa.out.2
        have xa0 := Lib.cell_of_heap Xa 0
        have xa1 := Lib.cell_of_heap Xa 1
        have xa2 := Lib.cell_of_heap Xa 2
        have xa3 := Lib.cell_of_heap Xa 3
        have xa4 := Lib.cell_of_heap Xa 4
        have xa5 := Lib.cell_of_heap Xa 5
        have xa6 := Lib.cell_of_heap Xa 6
        have Xb := (HAC.out.block _ BXb.out.1).trans BXb.out.2
        have xb0 := Lib.cell_of_heap Xb 0
        have xb1 := Lib.cell_of_heap Xb 1
        have xb2 := Lib.cell_of_heap Xb 2
        have xb3 := Lib.cell_of_heap Xb 3
        have xb4 := Lib.cell_of_heap Xb 4
        have xb5 := Lib.cell_of_heap Xb 5
        have xb6 := Lib.cell_of_heap Xb 6
        simp at xa0 xa1 xa2 xa3 xa4 xa5 xa6 xb0 xb1 xb2 xb3 xb4 xb5 xb6
        clear Xa Xb
        go_wp2_with fail
        refine CT.out.mono ?_; rintro e w17 ⟨jj, rfl, hj1, hj2, hb⟩
        obtain rfl : jj = true := by
         cases jj with
         | true => rfl
         | false => exact (BDp.out.not (hj2 rfl OKa.out OKb.out)).elim
        clear hj1 hj2
        clear CT xa0 xa1 xa2 xa3 xa4 xa5 xa6 xb0 xb1 xb2 xb3 xb4 xb5 xb6
        replace HAC := Lib.hid (below_over HAC.out hb)
        replace HWB := Lib.hid (below_over HWB.out hb)
        replace BXp := Lib.hid (box_step BXp.out hb)
        replace BXq := Lib.hid (box_step BXq.out hb)
        clear hb
        have CT := Lib.hid (same_any _ x zTy (Nat.le_refl _) (.agg #[.int .i64 x.kind, .string x.pkg, .int .i64 x.major, .string x.mod, .string x.name, .slice Xn x.names.length Xc, .slice Xs x.subs.length Xd]) (.agg #[.int .i64 0, .string ⟨#[]⟩, .int .i64 0, .string ⟨#[]⟩, .string ⟨#[]⟩, .slice none 0 0, .slice none 0 0]) w17 ⟨_, rfl, (KTx.out.keep HAC.out)⟩ ⟨_, rfl, zeroT_at _⟩)
        rw [HSX.out] at CT
        have Xx := (HAC.out.block _ BXx.out.1).trans BXx.out.2
        have xx0 := Lib.cell_of_heap Xx 0
        have xx1 := Lib.cell_of_heap Xx 1
        have xx2 := Lib.cell_of_heap Xx 2
        have xx3 := Lib.cell_of_heap Xx 3
        have xx4 := Lib.cell_of_heap Xx 4
        have xx5 := Lib.cell_of_heap Xx 5
        have xx6 := Lib.cell_of_heap Xx 6
        have Xp := BXp.out.2
        have xp0 := Lib.cell_of_heap Xp 0
        have xp1 := Lib.cell_of_heap Xp 1
        have xp2 := Lib.cell_of_heap Xp 2
        have xp3 := Lib.cell_of_heap Xp 3
        have xp4 := Lib.cell_of_heap Xp 4
        have xp5 := Lib.cell_of_heap Xp 5
        have xp6 := Lib.cell_of_heap Xp 6
        simp at xx0 xx1 xx2 xx3 xx4 xx5 xx6 xp0 xp1 xp2 xp3 xp4 xp5 xp6
        clear Xx Xp
        go_wp2_with fail
        refine CT.out.mono ?_; rintro e w18 ⟨rfl, hb⟩
        clear CT xx0 xx1 xx2 xx3 xx4 xx5 xx6 xp0 xp1 xp2 xp3 xp4 xp5 xp6
        replace HAC := Lib.hid (below_over HAC.out hb)
        replace HWB := Lib.hid (below_over HWB.out hb)
        replace BXp := Lib.hid (box_step BXp.out hb)
        replace BXq := Lib.hid (box_step BXq.out hb)
        clear hb
        have CT := Lib.hid (same_any _ y zTy (Nat.le_refl _) (.agg #[.int .i64 y.kind, .string y.pkg, .int .i64 y.major, .string y.mod, .string y.name, .slice Yn y.names.length Yc, .slice Ys y.subs.length Yd]) (.agg #[.int .i64 0, .string ⟨#[]⟩, .int .i64 0, .string ⟨#[]⟩, .string ⟨#[]⟩, .slice none 0 0, .slice none 0 0]) w18 ⟨_, rfl, (KTy.out.keep HAC.out)⟩ ⟨_, rfl, zeroT_at _⟩)
        rw [HSY.out] at CT
        have Xy := (HAC.out.block _ BXy.out.1).trans BXy.out.2
        have xy0 := Lib.cell_of_heap Xy 0
        have xy1 := Lib.cell_of_heap Xy 1
        have xy2 := Lib.cell_of_heap Xy 2
        have xy3 := Lib.cell_of_heap Xy 3
        have xy4 := Lib.cell_of_heap Xy 4
        have xy5 := Lib.cell_of_heap Xy 5
        have xy6 := Lib.cell_of_heap Xy 6
        have Xq := BXq.out.2
        have xq0 := Lib.cell_of_heap Xq 0
        have xq1 := Lib.cell_of_heap Xq 1
        have xq2 := Lib.cell_of_heap Xq 2
        have xq3 := Lib.cell_of_heap Xq 3
        have xq4 := Lib.cell_of_heap Xq 4
        have xq5 := Lib.cell_of_heap Xq 5
        have xq6 := Lib.cell_of_heap Xq 6
        simp at xy0 xy1 xy2 xy3 xy4 xy5 xy6 xq0 xq1 xq2 xq3 xq4 xq5 xq6
        clear Xy Xq
        go_wp2_with fail
        refine CT.out.mono ?_; rintro e w19 ⟨rfl, hb⟩
        clear CT xy0 xy1 xy2 xy3 xy4 xy5 xy6 xq0 xq1 xq2 xq3 xq4 xq5 xq6
        replace HAC := Lib.hid (below_over HAC.out hb)
        replace HWB := Lib.hid (below_over HWB.out hb)
        replace BXp := Lib.hid (box_step BXp.out hb)
        replace BXq := Lib.hid (box_step BXq.out hb)
        clear hb
        go_wp2_with fail
        go_ret
        exact ⟨rfl, HWB.out⟩
       | true =>
        have BDq : Hid (IsBnd false a b q) := Lib.hid HQ.out.yes.1
        obtain ⟨m2, hm2⟩ : ∃ m2, m2 = mayT q := ⟨_, rfl⟩
        have HM2 := Lib.hid hm2
        clear hm2
        have CT := Lib.hid (may_big q (.agg #[.int .i64 q.kind, .string q.pkg, .int .i64 q.major, .string q.mod, .string q.name, .slice Qn q.names.length Qc, .slice Qs q.subs.length Qd]) w15 (HSZ.out _ _ BDq.out) ⟨_, rfl, HQ.out.yes.2⟩)
        rw [← HM2.out] at CT
        have Xq := BXq.out.2
        have xq0 := Lib.cell_of_heap Xq 0
        have xq1 := Lib.cell_of_heap Xq 1
        have xq2 := Lib.cell_of_heap Xq 2
        have xq3 := Lib.cell_of_heap Xq 3
        have xq4 := Lib.cell_of_heap Xq 4
        have xq5 := Lib.cell_of_heap Xq 5
        have xq6 := Lib.cell_of_heap Xq 6
        simp at xq0 xq1 xq2 xq3 xq4 xq5 xq6
        clear Xq
        go_wp2_with fail
        refine CT.out.mono ?_; rintro e w16 ⟨rfl, hb⟩
        clear CT xq0 xq1 xq2 xq3 xq4 xq5 xq6
        replace HAC := Lib.hid (below_over HAC.out hb)
        replace HWB := Lib.hid (below_over HWB.out hb)
        replace BXp := Lib.hid (box_step BXp.out hb)
        replace BXq := Lib.hid (box_step BXq.out hb)
        replace HQ := Lib.hid (HQ.out.keep hb)
        clear hb
        cases m2 with
        | false =>
         obtain ⟨e2, ey⟩ := td_rb ISy.out (v := zTy) (.inr ⟨rfl, rfl, fun t ht => by rw [← BDq.out.one ht]; exact HM2.out.symm⟩)
         have HSY : Hid (sameT y zTy = true) := Lib.hid ((sameT_iff y zTy).2 ey)
         subst e2
         clear ey
         have XZ := BXq.out.2
         go_upto_region 20 with (first | (((with_reducible refine wpList_putRow 25 (w12.heap.size) #[.int .i64 0, .string ⟨#[]⟩, .int .i64 0, .string ⟨#[]⟩, .string ⟨#[]⟩, .slice none 0 0, .slice none 0 0] _ _ XZ ?_ ?_ ?_ ?_ ?_ ?_); exact tySize; rfl; exact tyOne; (focus (first | (go_simp; done) | rfl)); (focus (first | (go_simp; done) | rfl)))))
         obtain ⟨w17, hq⟩ : ∃ W, W = w16.setRow (w12.heap.size) #[.int .i64 0, .string ⟨#[]⟩, .int .i64 0, .string ⟨#[]⟩, .string ⟨#[]⟩, .slice none 0 0, .slice none 0 0] := ⟨_, rfl⟩
         rw [← hq]
         try simp only [Act.put]
         have NAC : Hid (Below w9.heap.size w9 w17) := Lib.hid (by rw [hq]; exact setRow_below HAC.out (by have h1 := HAB1.out; have h2 := HB13.out; omega) _)
         have NWB : Hid (Below w.heap.size w w17) := Lib.hid (by rw [hq]; exact setRow_below HWB.out (by have h1 := HAB1.out; have h2 := HB13.out; have h3 := HBA.out; omega) _)
         have NX : Hid (w12.heap.size < w17.heap.size ∧ w17.heap[w12.heap.size]? = some (.cells #[.int .i64 0, .string ⟨#[]⟩, .int .i64 0, .string ⟨#[]⟩, .string ⟨#[]⟩, .slice none 0 0, .slice none 0 0] 25 (0, 0))) := Lib.hid (by rw [hq]; exact box_put BXq.out)
         have NY : Hid (w10.heap.size < w17.heap.size ∧ w17.heap[w10.heap.size]? = some (.cells #[.int .i64 0, .string ⟨#[]⟩, .int .i64 0, .string ⟨#[]⟩, .string ⟨#[]⟩, .slice none 0 0, .slice none 0 0] 25 (0, 0))) := Lib.hid ⟨by rw [hq, size_setRow]; exact BXp.out.1, by rw [hq]; exact (setRow_other _ _ _ _ (by have := HB13.out; omega)).trans BXp.out.2⟩
         clear HAC HWB BXp BXq HQ hq XZ
         have HAC := NAC
         have HWB := NWB
         have BXq := NX
         have BXp := NY
         clear NAC NWB NX NY
         have CT := Lib.hid (Joins_any9 a b [.int .i64 a.kind, .string a.pkg, .int .i64 a.major, .string a.mod, .string a.name, .slice An a.names.length Ac, .slice As a.subs.length Ad] [.int .i64 b.kind, .string b.pkg, .int .i64 b.major, .string b.mod, .string b.name, .slice Bn b.names.length Bc, .slice Bs b.subs.length Bd] w17 (KTa.out.keep HAC.out) (KTb.out.keep HAC.out))
         have Xa := (HAC.out.block _ BXa.out.1).trans BXa.out.2
         have xa0 := Lib.cell_of_heap Xa 0
         have xa1 := Lib.cell_of_heap Xa 1
         have xa2 := Lib.cell_of_heap Xa 2
         have xa3 := Lib.cell_of_heap Xa 3
         have xa4 := Lib.cell_of_heap Xa 4
         have xa5 := Lib.cell_of_heap Xa 5
         have xa6 := Lib.cell_of_heap Xa 6
         have Xb := (HAC.out.block _ BXb.out.1).trans BXb.out.2
         have xb0 := Lib.cell_of_heap Xb 0
         have xb1 := Lib.cell_of_heap Xb 1
         have xb2 := Lib.cell_of_heap Xb 2
         have xb3 := Lib.cell_of_heap Xb 3
         have xb4 := Lib.cell_of_heap Xb 4
         have xb5 := Lib.cell_of_heap Xb 5
         have xb6 := Lib.cell_of_heap Xb 6
         simp at xa0 xa1 xa2 xa3 xa4 xa5 xa6 xb0 xb1 xb2 xb3 xb4 xb5 xb6
         clear Xa Xb
         go_wp2_with fail
         refine CT.out.mono ?_; rintro e w18 ⟨jj, rfl, hj1, hj2, hb⟩
         obtain rfl : jj = true := by
          cases jj with
          | true => rfl
          | false => exact (BDp.out.not (hj2 rfl OKa.out OKb.out)).elim
         clear hj1 hj2
         clear CT xa0 xa1 xa2 xa3 xa4 xa5 xa6 xb0 xb1 xb2 xb3 xb4 xb5 xb6
         replace HAC := Lib.hid (below_over HAC.out hb)
         replace HWB := Lib.hid (below_over HWB.out hb)
         replace BXp := Lib.hid (box_step BXp.out hb)
         replace BXq := Lib.hid (box_step BXq.out hb)
         clear hb
         have CT := Lib.hid (same_any _ x zTy (Nat.le_refl _) (.agg #[.int .i64 x.kind, .string x.pkg, .int .i64 x.major, .string x.mod, .string x.name, .slice Xn x.names.length Xc, .slice Xs x.subs.length Xd]) (.agg #[.int .i64 0, .string ⟨#[]⟩, .int .i64 0, .string ⟨#[]⟩, .string ⟨#[]⟩, .slice none 0 0, .slice none 0 0]) w18 ⟨_, rfl, (KTx.out.keep HAC.out)⟩ ⟨_, rfl, zeroT_at _⟩)
         rw [HSX.out] at CT
         have Xx := (HAC.out.block _ BXx.out.1).trans BXx.out.2
         have xx0 := Lib.cell_of_heap Xx 0
         have xx1 := Lib.cell_of_heap Xx 1
         have xx2 := Lib.cell_of_heap Xx 2
         have xx3 := Lib.cell_of_heap Xx 3
         have xx4 := Lib.cell_of_heap Xx 4
         have xx5 := Lib.cell_of_heap Xx 5
         have xx6 := Lib.cell_of_heap Xx 6
         have Xp := BXp.out.2
         have xp0 := Lib.cell_of_heap Xp 0
         have xp1 := Lib.cell_of_heap Xp 1
         have xp2 := Lib.cell_of_heap Xp 2
         have xp3 := Lib.cell_of_heap Xp 3
         have xp4 := Lib.cell_of_heap Xp 4
         have xp5 := Lib.cell_of_heap Xp 5
         have xp6 := Lib.cell_of_heap Xp 6
         simp at xx0 xx1 xx2 xx3 xx4 xx5 xx6 xp0 xp1 xp2 xp3 xp4 xp5 xp6
         clear Xx Xp
         go_wp2_with fail
         refine CT.out.mono ?_; rintro e w19 ⟨rfl, hb⟩
         clear CT xx0 xx1 xx2 xx3 xx4 xx5 xx6 xp0 xp1 xp2 xp3 xp4 xp5 xp6
         replace HAC := Lib.hid (below_over HAC.out hb)
         replace HWB := Lib.hid (below_over HWB.out hb)
         replace BXp := Lib.hid (box_step BXp.out hb)
         replace BXq := Lib.hid (box_step BXq.out hb)
         clear hb
         have CT := Lib.hid (same_any _ y zTy (Nat.le_refl _) (.agg #[.int .i64 y.kind, .string y.pkg, .int .i64 y.major, .string y.mod, .string y.name, .slice Yn y.names.length Yc, .slice Ys y.subs.length Yd]) (.agg #[.int .i64 0, .string ⟨#[]⟩, .int .i64 0, .string ⟨#[]⟩, .string ⟨#[]⟩, .slice none 0 0, .slice none 0 0]) w19 ⟨_, rfl, (KTy.out.keep HAC.out)⟩ ⟨_, rfl, zeroT_at _⟩)
         rw [HSY.out] at CT
         have Xy := (HAC.out.block _ BXy.out.1).trans BXy.out.2
         have xy0 := Lib.cell_of_heap Xy 0
         have xy1 := Lib.cell_of_heap Xy 1
         have xy2 := Lib.cell_of_heap Xy 2
         have xy3 := Lib.cell_of_heap Xy 3
         have xy4 := Lib.cell_of_heap Xy 4
         have xy5 := Lib.cell_of_heap Xy 5
         have xy6 := Lib.cell_of_heap Xy 6
         have Xq := BXq.out.2
         have xq0 := Lib.cell_of_heap Xq 0
         have xq1 := Lib.cell_of_heap Xq 1
         have xq2 := Lib.cell_of_heap Xq 2
         have xq3 := Lib.cell_of_heap Xq 3
         have xq4 := Lib.cell_of_heap Xq 4
         have xq5 := Lib.cell_of_heap Xq 5
         have xq6 := Lib.cell_of_heap Xq 6
         simp at xy0 xy1 xy2 xy3 xy4 xy5 xy6 xq0 xq1 xq2 xq3 xq4 xq5 xq6
         clear Xy Xq
         go_wp2_with fail
         refine CT.out.mono ?_; rintro e w20 ⟨rfl, hb⟩
         clear CT xy0 xy1 xy2 xy3 xy4 xy5 xy6 xq0 xq1 xq2 xq3 xq4 xq5 xq6
         replace HAC := Lib.hid (below_over HAC.out hb)
         replace HWB := Lib.hid (below_over HWB.out hb)
         replace BXp := Lib.hid (box_step BXp.out hb)
         replace BXq := Lib.hid (box_step BXq.out hb)
         clear hb
         go_wp2_with fail
         go_ret
         exact ⟨rfl, HWB.out⟩
        | true =>
         obtain ⟨e2, ey⟩ := td_rb ISy.out (v := q) (.inl ⟨rfl, BDq.out, HM2.out.symm⟩)
         have HSY : Hid (sameT y q = true) := Lib.hid ((sameT_iff y q).2 ey)
         subst e2
         clear ey
         have CT := Lib.hid (Joins_any9 a b [.int .i64 a.kind, .string a.pkg, .int .i64 a.major, .string a.mod, .string a.name, .slice An a.names.length Ac, .slice As a.subs.length Ad] [.int .i64 b.kind, .string b.pkg, .int .i64 b.major, .string b.mod, .string b.name, .slice Bn b.names.length Bc, .slice Bs b.subs.length Bd] w16 (KTa.out.keep HAC.out) (KTb.out.keep HAC.out))
         have Xa := (HAC.out.block _ BXa.out.1).trans BXa.out.2
         have xa0 := Lib.cell_of_heap Xa 0
         have xa1 := Lib.cell_of_heap Xa 1
         have xa2 := Lib.cell_of_heap Xa 2
         have xa3 := Lib.cell_of_heap Xa 3
         have xa4 := Lib.cell_of_heap Xa 4
         have xa5 := Lib.cell_of_heap Xa 5
         have xa6 := Lib.cell_of_heap Xa 6
         have Xb := (HAC.out.block _ BXb.out.1).trans BXb.out.2
         have xb0 := Lib.cell_of_heap Xb 0
         have xb1 := Lib.cell_of_heap Xb 1
         have xb2 := Lib.cell_of_heap Xb 2
         have xb3 := Lib.cell_of_heap Xb 3
         have xb4 := Lib.cell_of_heap Xb 4
         have xb5 := Lib.cell_of_heap Xb 5
         have xb6 := Lib.cell_of_heap Xb 6
         simp at xa0 xa1 xa2 xa3 xa4 xa5 xa6 xb0 xb1 xb2 xb3 xb4 xb5 xb6
         clear Xa Xb
         go_wp2_with fail
         refine CT.out.mono ?_; rintro e w17 ⟨jj, rfl, hj1, hj2, hb⟩
         obtain rfl : jj = true := by
          cases jj with
          | true => rfl
          | false => exact (BDp.out.not (hj2 rfl OKa.out OKb.out)).elim
         clear hj1 hj2
         clear CT xa0 xa1 xa2 xa3 xa4 xa5 xa6 xb0 xb1 xb2 xb3 xb4 xb5 xb6
         replace HAC := Lib.hid (below_over HAC.out hb)
         replace HWB := Lib.hid (below_over HWB.out hb)
         replace BXp := Lib.hid (box_step BXp.out hb)
         replace BXq := Lib.hid (box_step BXq.out hb)
         replace HQ := Lib.hid (HQ.out.keep hb)
         clear hb
         have CT := Lib.hid (same_any _ x zTy (Nat.le_refl _) (.agg #[.int .i64 x.kind, .string x.pkg, .int .i64 x.major, .string x.mod, .string x.name, .slice Xn x.names.length Xc, .slice Xs x.subs.length Xd]) (.agg #[.int .i64 0, .string ⟨#[]⟩, .int .i64 0, .string ⟨#[]⟩, .string ⟨#[]⟩, .slice none 0 0, .slice none 0 0]) w17 ⟨_, rfl, (KTx.out.keep HAC.out)⟩ ⟨_, rfl, zeroT_at _⟩)
         rw [HSX.out] at CT
         have Xx := (HAC.out.block _ BXx.out.1).trans BXx.out.2
         have xx0 := Lib.cell_of_heap Xx 0
         have xx1 := Lib.cell_of_heap Xx 1
         have xx2 := Lib.cell_of_heap Xx 2
         have xx3 := Lib.cell_of_heap Xx 3
         have xx4 := Lib.cell_of_heap Xx 4
         have xx5 := Lib.cell_of_heap Xx 5
         have xx6 := Lib.cell_of_heap Xx 6
         have Xp := BXp.out.2
         have xp0 := Lib.cell_of_heap Xp 0
         have xp1 := Lib.cell_of_heap Xp 1
         have xp2 := Lib.cell_of_heap Xp 2
         have xp3 := Lib.cell_of_heap Xp 3
         have xp4 := Lib.cell_of_heap Xp 4
         have xp5 := Lib.cell_of_heap Xp 5
         have xp6 := Lib.cell_of_heap Xp 6
         simp at xx0 xx1 xx2 xx3 xx4 xx5 xx6 xp0 xp1 xp2 xp3 xp4 xp5 xp6
         clear Xx Xp
         go_wp2_with fail
         refine CT.out.mono ?_; rintro e w18 ⟨rfl, hb⟩
         clear CT xx0 xx1 xx2 xx3 xx4 xx5 xx6 xp0 xp1 xp2 xp3 xp4 xp5 xp6
         replace HAC := Lib.hid (below_over HAC.out hb)
         replace HWB := Lib.hid (below_over HWB.out hb)
         replace BXp := Lib.hid (box_step BXp.out hb)
         replace BXq := Lib.hid (box_step BXq.out hb)
         replace HQ := Lib.hid (HQ.out.keep hb)
         clear hb
         have CT := Lib.hid (same_any _ y q (Nat.le_refl _) (.agg #[.int .i64 y.kind, .string y.pkg, .int .i64 y.major, .string y.mod, .string y.name, .slice Yn y.names.length Yc, .slice Ys y.subs.length Yd]) (.agg #[.int .i64 q.kind, .string q.pkg, .int .i64 q.major, .string q.mod, .string q.name, .slice Qn q.names.length Qc, .slice Qs q.subs.length Qd]) w18 ⟨_, rfl, (KTy.out.keep HAC.out)⟩ ⟨_, rfl, HQ.out.yes.2⟩)
         rw [HSY.out] at CT
         have Xy := (HAC.out.block _ BXy.out.1).trans BXy.out.2
         have xy0 := Lib.cell_of_heap Xy 0
         have xy1 := Lib.cell_of_heap Xy 1
         have xy2 := Lib.cell_of_heap Xy 2
         have xy3 := Lib.cell_of_heap Xy 3
         have xy4 := Lib.cell_of_heap Xy 4
         have xy5 := Lib.cell_of_heap Xy 5
         have xy6 := Lib.cell_of_heap Xy 6
         have Xq := BXq.out.2
         have xq0 := Lib.cell_of_heap Xq 0
         have xq1 := Lib.cell_of_heap Xq 1
         have xq2 := Lib.cell_of_heap Xq 2
         have xq3 := Lib.cell_of_heap Xq 3
         have xq4 := Lib.cell_of_heap Xq 4
         have xq5 := Lib.cell_of_heap Xq 5
         have xq6 := Lib.cell_of_heap Xq 6
         simp at xy0 xy1 xy2 xy3 xy4 xy5 xy6 xq0 xq1 xq2 xq3 xq4 xq5 xq6
         clear Xy Xq
         go_wp2_with fail
         refine CT.out.mono ?_; rintro e w19 ⟨rfl, hb⟩
         clear CT xy0 xy1 xy2 xy3 xy4 xy5 xy6 xq0 xq1 xq2 xq3 xq4 xq5 xq6
         replace HAC := Lib.hid (below_over HAC.out hb)
         replace HWB := Lib.hid (below_over HWB.out hb)
         replace BXp := Lib.hid (box_step BXp.out hb)
         replace BXq := Lib.hid (box_step BXq.out hb)
         replace HQ := Lib.hid (HQ.out.keep hb)
         clear hb
         go_wp2_with fail
         go_ret
         exact ⟨rfl, HWB.out⟩
      | true =>
       obtain ⟨e1, ex⟩ := td_rb ISx.out (v := p) (.inl ⟨rfl, BDp.out, HM1.out.symm⟩)
       have HSX : Hid (sameT x p = true) := Lib.hid ((sameT_iff x p).2 ex)
       subst e1
       clear ex
       cases u2 with
       | false =>
        have NOQ : Hid (NoBnd false a b) := Lib.hid HQ.out.no
        obtain ⟨e2, ey⟩ := td_rb ISy.out (v := zTy) (.inr ⟨rfl, rfl, fun t ht => (ht.not NOQ.out).elim⟩)
        have HSY : Hid (sameT y zTy = true) := Lib.hid ((sameT_iff y zTy).2 ey)
        subst e2
        clear ey
        have XZ := BXq.out.2
        go_upto_region 20 with (first | (((with_reducible refine wpList_putRow 25 (w12.heap.size) #[.int .i64 0, .string ⟨#[]⟩, .int .i64 0, .string ⟨#[]⟩, .string ⟨#[]⟩, .slice none 0 0, .slice none 0 0] _ _ XZ ?_ ?_ ?_ ?_ ?_ ?_); exact tySize; rfl; exact tyOne; (focus (first | (go_simp; done) | rfl)); (focus (first | (go_simp; done) | rfl)))))
        obtain ⟨w15, hq⟩ : ∃ W, W = w14.setRow (w12.heap.size) #[.int .i64 0, .string ⟨#[]⟩, .int .i64 0, .string ⟨#[]⟩, .string ⟨#[]⟩, .slice none 0 0, .slice none 0 0] := ⟨_, rfl⟩
        rw [← hq]
        try simp only [Act.put]
        have NAC : Hid (Below w9.heap.size w9 w15) := Lib.hid (by rw [hq]; exact setRow_below HAC.out (by have h1 := HAB1.out; have h2 := HB13.out; omega) _)
        have NWB : Hid (Below w.heap.size w w15) := Lib.hid (by rw [hq]; exact setRow_below HWB.out (by have h1 := HAB1.out; have h2 := HB13.out; have h3 := HBA.out; omega) _)
        have NX : Hid (w12.heap.size < w15.heap.size ∧ w15.heap[w12.heap.size]? = some (.cells #[.int .i64 0, .string ⟨#[]⟩, .int .i64 0, .string ⟨#[]⟩, .string ⟨#[]⟩, .slice none 0 0, .slice none 0 0] 25 (0, 0))) := Lib.hid (by rw [hq]; exact box_put BXq.out)
        have NY : Hid (w10.heap.size < w15.heap.size ∧ w15.heap[w10.heap.size]? = some (.cells #[.int .i64 p.kind, .string p.pkg, .int .i64 p.major, .string p.mod, .string p.name, .slice Pn p.names.length Pc, .slice Ps p.subs.length Pd] 25 (0, 0))) := Lib.hid ⟨by rw [hq, size_setRow]; exact BXp.out.1, by rw [hq]; exact (setRow_other _ _ _ _ (by have := HB13.out; omega)).trans BXp.out.2⟩
        have NPB : Hid (Below w10.heap.size w10 w15) := Lib.hid (by rw [hq]; exact setRow_below HPB.out (by have := HB13.out; omega) _)
        clear HPB
        have HPB := NPB
        clear NPB
        clear HAC HWB BXp BXq HQ hq XZ
        have HAC := NAC
        have HWB := NWB
        have BXq := NX
        have BXp := NY
        clear NAC NWB NX NY
        have CT := Lib.hid (Joins_any9 a b [.int .i64 a.kind, .string a.pkg, .int .i64 a.major, .string a.mod, .string a.name, .slice An a.names.length Ac, .slice As a.subs.length Ad] [.int .i64 b.kind, .string b.pkg, .int .i64 b.major, .string b.mod, .string b.name, .slice Bn b.names.length Bc, .slice Bs b.subs.length Bd] w15 (KTa.out.keep HAC.out) (KTb.out.keep HAC.out))
        have Xa := (HAC.out.block _ BXa.out.1).trans BXa.out.2
        have xa0 := Lib.cell_of_heap Xa 0
        have xa1 := Lib.cell_of_heap Xa 1
        have xa2 := Lib.cell_of_heap Xa 2
        have xa3 := Lib.cell_of_heap Xa 3
        have xa4 := Lib.cell_of_heap Xa 4
        have xa5 := Lib.cell_of_heap Xa 5
        have xa6 := Lib.cell_of_heap Xa 6
        have Xb := (HAC.out.block _ BXb.out.1).trans BXb.out.2
        have xb0 := Lib.cell_of_heap Xb 0
        have xb1 := Lib.cell_of_heap Xb 1
        have xb2 := Lib.cell_of_heap Xb 2
        have xb3 := Lib.cell_of_heap Xb 3
        have xb4 := Lib.cell_of_heap Xb 4
        have xb5 := Lib.cell_of_heap Xb 5
        have xb6 := Lib.cell_of_heap Xb 6
        simp at xa0 xa1 xa2 xa3 xa4 xa5 xa6 xb0 xb1 xb2 xb3 xb4 xb5 xb6
        clear Xa Xb
        go_wp2_with fail
        refine CT.out.mono ?_; rintro e w16 ⟨jj, rfl, hj1, hj2, hb⟩
        obtain rfl : jj = true := by
         cases jj with
         | true => rfl
         | false => exact (BDp.out.not (hj2 rfl OKa.out OKb.out)).elim
        clear hj1 hj2
        clear CT xa0 xa1 xa2 xa3 xa4 xa5 xa6 xb0 xb1 xb2 xb3 xb4 xb5 xb6
        replace HAC := Lib.hid (below_over HAC.out hb)
        replace HWB := Lib.hid (below_over HWB.out hb)
        replace BXp := Lib.hid (box_step BXp.out hb)
        replace BXq := Lib.hid (box_step BXq.out hb)
        replace HPB := Lib.hid (below_over HPB.out hb)
        clear hb
        have CT := Lib.hid (same_any _ x p (Nat.le_refl _) (.agg #[.int .i64 x.kind, .string x.pkg, .int .i64 x.major, .string x.mod, .string x.name, .slice Xn x.names.length Xc, .slice Xs x.subs.length Xd]) (.agg #[.int .i64 p.kind, .string p.pkg, .int .i64 p.major, .string p.mod, .string p.name, .slice Pn p.names.length Pc, .slice Ps p.subs.length Pd]) w16 ⟨_, rfl, (KTx.out.keep HAC.out)⟩ ⟨_, rfl, HP.out.yes.2.keep HPB.out⟩)
        rw [HSX.out] at CT
        have Xx := (HAC.out.block _ BXx.out.1).trans BXx.out.2
        have xx0 := Lib.cell_of_heap Xx 0
        have xx1 := Lib.cell_of_heap Xx 1
        have xx2 := Lib.cell_of_heap Xx 2
        have xx3 := Lib.cell_of_heap Xx 3
        have xx4 := Lib.cell_of_heap Xx 4
        have xx5 := Lib.cell_of_heap Xx 5
        have xx6 := Lib.cell_of_heap Xx 6
        have Xp := BXp.out.2
        have xp0 := Lib.cell_of_heap Xp 0
        have xp1 := Lib.cell_of_heap Xp 1
        have xp2 := Lib.cell_of_heap Xp 2
        have xp3 := Lib.cell_of_heap Xp 3
        have xp4 := Lib.cell_of_heap Xp 4
        have xp5 := Lib.cell_of_heap Xp 5
        have xp6 := Lib.cell_of_heap Xp 6
        simp at xx0 xx1 xx2 xx3 xx4 xx5 xx6 xp0 xp1 xp2 xp3 xp4 xp5 xp6
        clear Xx Xp
        go_wp2_with fail
        refine CT.out.mono ?_; rintro e w17 ⟨rfl, hb⟩
        clear CT xx0 xx1 xx2 xx3 xx4 xx5 xx6 xp0 xp1 xp2 xp3 xp4 xp5 xp6
        replace HAC := Lib.hid (below_over HAC.out hb)
        replace HWB := Lib.hid (below_over HWB.out hb)
        replace BXp := Lib.hid (box_step BXp.out hb)
        replace BXq := Lib.hid (box_step BXq.out hb)
        replace HPB := Lib.hid (below_over HPB.out hb)
        clear hb
        have CT := Lib.hid (same_any _ y zTy (Nat.le_refl _) (.agg #[.int .i64 y.kind, .string y.pkg, .int .i64 y.major, .string y.mod, .string y.name, .slice Yn y.names.length Yc, .slice Ys y.subs.length Yd]) (.agg #[.int .i64 0, .string ⟨#[]⟩, .int .i64 0, .string ⟨#[]⟩, .string ⟨#[]⟩, .slice none 0 0, .slice none 0 0]) w17 ⟨_, rfl, (KTy.out.keep HAC.out)⟩ ⟨_, rfl, zeroT_at _⟩)
        rw [HSY.out] at CT
        have Xy := (HAC.out.block _ BXy.out.1).trans BXy.out.2
        have xy0 := Lib.cell_of_heap Xy 0
        have xy1 := Lib.cell_of_heap Xy 1
        have xy2 := Lib.cell_of_heap Xy 2
        have xy3 := Lib.cell_of_heap Xy 3
        have xy4 := Lib.cell_of_heap Xy 4
        have xy5 := Lib.cell_of_heap Xy 5
        have xy6 := Lib.cell_of_heap Xy 6
        have Xq := BXq.out.2
        have xq0 := Lib.cell_of_heap Xq 0
        have xq1 := Lib.cell_of_heap Xq 1
        have xq2 := Lib.cell_of_heap Xq 2
        have xq3 := Lib.cell_of_heap Xq 3
        have xq4 := Lib.cell_of_heap Xq 4
        have xq5 := Lib.cell_of_heap Xq 5
        have xq6 := Lib.cell_of_heap Xq 6
        simp at xy0 xy1 xy2 xy3 xy4 xy5 xy6 xq0 xq1 xq2 xq3 xq4 xq5 xq6
        clear Xy Xq
        go_wp2_with fail
        refine CT.out.mono ?_; rintro e w18 ⟨rfl, hb⟩
        clear CT xy0 xy1 xy2 xy3 xy4 xy5 xy6 xq0 xq1 xq2 xq3 xq4 xq5 xq6
        replace HAC := Lib.hid (below_over HAC.out hb)
        replace HWB := Lib.hid (below_over HWB.out hb)
        replace BXp := Lib.hid (box_step BXp.out hb)
        replace BXq := Lib.hid (box_step BXq.out hb)
        replace HPB := Lib.hid (below_over HPB.out hb)
        clear hb
        go_wp2_with fail
        go_ret
        exact ⟨rfl, HWB.out⟩
       | true =>
        have BDq : Hid (IsBnd false a b q) := Lib.hid HQ.out.yes.1
        obtain ⟨m2, hm2⟩ : ∃ m2, m2 = mayT q := ⟨_, rfl⟩
        have HM2 := Lib.hid hm2
        clear hm2
        have CT := Lib.hid (may_big q (.agg #[.int .i64 q.kind, .string q.pkg, .int .i64 q.major, .string q.mod, .string q.name, .slice Qn q.names.length Qc, .slice Qs q.subs.length Qd]) w14 (HSZ.out _ _ BDq.out) ⟨_, rfl, HQ.out.yes.2⟩)
        rw [← HM2.out] at CT
        have Xq := BXq.out.2
        have xq0 := Lib.cell_of_heap Xq 0
        have xq1 := Lib.cell_of_heap Xq 1
        have xq2 := Lib.cell_of_heap Xq 2
        have xq3 := Lib.cell_of_heap Xq 3
        have xq4 := Lib.cell_of_heap Xq 4
        have xq5 := Lib.cell_of_heap Xq 5
        have xq6 := Lib.cell_of_heap Xq 6
        simp at xq0 xq1 xq2 xq3 xq4 xq5 xq6
        clear Xq
        go_wp2_with fail
        refine CT.out.mono ?_; rintro e w15 ⟨rfl, hb⟩
        clear CT xq0 xq1 xq2 xq3 xq4 xq5 xq6
        replace HAC := Lib.hid (below_over HAC.out hb)
        replace HWB := Lib.hid (below_over HWB.out hb)
        replace BXp := Lib.hid (box_step BXp.out hb)
        replace BXq := Lib.hid (box_step BXq.out hb)
        replace HPB := Lib.hid (below_over HPB.out hb)
        replace HQ := Lib.hid (HQ.out.keep hb)
        clear hb
        cases m2 with
        | false =>
         obtain ⟨e2, ey⟩ := td_rb ISy.out (v := zTy) (.inr ⟨rfl, rfl, fun t ht => by rw [← BDq.out.one ht]; exact HM2.out.symm⟩)
         have HSY : Hid (sameT y zTy = true) := Lib.hid ((sameT_iff y zTy).2 ey)
         subst e2
         clear ey
         have XZ := BXq.out.2
         go_upto_region 20 with (first | (((with_reducible refine wpList_putRow 25 (w12.heap.size) #[.int .i64 0, .string ⟨#[]⟩, .int .i64 0, .string ⟨#[]⟩, .string ⟨#[]⟩, .slice none 0 0, .slice none 0 0] _ _ XZ ?_ ?_ ?_ ?_ ?_ ?_); exact tySize; rfl; exact tyOne; (focus (first | (go_simp; done) | rfl)); (focus (first | (go_simp; done) | rfl)))))
         obtain ⟨w16, hq⟩ : ∃ W, W = w15.setRow (w12.heap.size) #[.int .i64 0, .string ⟨#[]⟩, .int .i64 0, .string ⟨#[]⟩, .string ⟨#[]⟩, .slice none 0 0, .slice none 0 0] := ⟨_, rfl⟩
         rw [← hq]
         try simp only [Act.put]
         have NAC : Hid (Below w9.heap.size w9 w16) := Lib.hid (by rw [hq]; exact setRow_below HAC.out (by have h1 := HAB1.out; have h2 := HB13.out; omega) _)
         have NWB : Hid (Below w.heap.size w w16) := Lib.hid (by rw [hq]; exact setRow_below HWB.out (by have h1 := HAB1.out; have h2 := HB13.out; have h3 := HBA.out; omega) _)
         have NX : Hid (w12.heap.size < w16.heap.size ∧ w16.heap[w12.heap.size]? = some (.cells #[.int .i64 0, .string ⟨#[]⟩, .int .i64 0, .string ⟨#[]⟩, .string ⟨#[]⟩, .slice none 0 0, .slice none 0 0] 25 (0, 0))) := Lib.hid (by rw [hq]; exact box_put BXq.out)
         have NY : Hid (w10.heap.size < w16.heap.size ∧ w16.heap[w10.heap.size]? = some (.cells #[.int .i64 p.kind, .string p.pkg, .int .i64 p.major, .string p.mod, .string p.name, .slice Pn p.names.length Pc, .slice Ps p.subs.length Pd] 25 (0, 0))) := Lib.hid ⟨by rw [hq, size_setRow]; exact BXp.out.1, by rw [hq]; exact (setRow_other _ _ _ _ (by have := HB13.out; omega)).trans BXp.out.2⟩
         have NPB : Hid (Below w10.heap.size w10 w16) := Lib.hid (by rw [hq]; exact setRow_below HPB.out (by have := HB13.out; omega) _)
         clear HPB
         have HPB := NPB
         clear NPB
         clear HAC HWB BXp BXq HQ hq XZ
         have HAC := NAC
         have HWB := NWB
         have BXq := NX
         have BXp := NY
         clear NAC NWB NX NY
         have CT := Lib.hid (Joins_any9 a b [.int .i64 a.kind, .string a.pkg, .int .i64 a.major, .string a.mod, .string a.name, .slice An a.names.length Ac, .slice As a.subs.length Ad] [.int .i64 b.kind, .string b.pkg, .int .i64 b.major, .string b.mod, .string b.name, .slice Bn b.names.length Bc, .slice Bs b.subs.length Bd] w16 (KTa.out.keep HAC.out) (KTb.out.keep HAC.out))
         have Xa := (HAC.out.block _ BXa.out.1).trans BXa.out.2
         have xa0 := Lib.cell_of_heap Xa 0
         have xa1 := Lib.cell_of_heap Xa 1
         have xa2 := Lib.cell_of_heap Xa 2
         have xa3 := Lib.cell_of_heap Xa 3
         have xa4 := Lib.cell_of_heap Xa 4
         have xa5 := Lib.cell_of_heap Xa 5
         have xa6 := Lib.cell_of_heap Xa 6
         have Xb := (HAC.out.block _ BXb.out.1).trans BXb.out.2
         have xb0 := Lib.cell_of_heap Xb 0
         have xb1 := Lib.cell_of_heap Xb 1
         have xb2 := Lib.cell_of_heap Xb 2
         have xb3 := Lib.cell_of_heap Xb 3
         have xb4 := Lib.cell_of_heap Xb 4
         have xb5 := Lib.cell_of_heap Xb 5
         have xb6 := Lib.cell_of_heap Xb 6
         simp at xa0 xa1 xa2 xa3 xa4 xa5 xa6 xb0 xb1 xb2 xb3 xb4 xb5 xb6
         clear Xa Xb
         go_wp2_with fail
         refine CT.out.mono ?_; rintro e w17 ⟨jj, rfl, hj1, hj2, hb⟩
         obtain rfl : jj = true := by
          cases jj with
          | true => rfl
          | false => exact (BDp.out.not (hj2 rfl OKa.out OKb.out)).elim
         clear hj1 hj2
         clear CT xa0 xa1 xa2 xa3 xa4 xa5 xa6 xb0 xb1 xb2 xb3 xb4 xb5 xb6
         replace HAC := Lib.hid (below_over HAC.out hb)
         replace HWB := Lib.hid (below_over HWB.out hb)
         replace BXp := Lib.hid (box_step BXp.out hb)
         replace BXq := Lib.hid (box_step BXq.out hb)
         replace HPB := Lib.hid (below_over HPB.out hb)
         clear hb
         have CT := Lib.hid (same_any _ x p (Nat.le_refl _) (.agg #[.int .i64 x.kind, .string x.pkg, .int .i64 x.major, .string x.mod, .string x.name, .slice Xn x.names.length Xc, .slice Xs x.subs.length Xd]) (.agg #[.int .i64 p.kind, .string p.pkg, .int .i64 p.major, .string p.mod, .string p.name, .slice Pn p.names.length Pc, .slice Ps p.subs.length Pd]) w17 ⟨_, rfl, (KTx.out.keep HAC.out)⟩ ⟨_, rfl, HP.out.yes.2.keep HPB.out⟩)
         rw [HSX.out] at CT
         have Xx := (HAC.out.block _ BXx.out.1).trans BXx.out.2
         have xx0 := Lib.cell_of_heap Xx 0
         have xx1 := Lib.cell_of_heap Xx 1
         have xx2 := Lib.cell_of_heap Xx 2
         have xx3 := Lib.cell_of_heap Xx 3
         have xx4 := Lib.cell_of_heap Xx 4
         have xx5 := Lib.cell_of_heap Xx 5
         have xx6 := Lib.cell_of_heap Xx 6
         have Xp := BXp.out.2
         have xp0 := Lib.cell_of_heap Xp 0
         have xp1 := Lib.cell_of_heap Xp 1
         have xp2 := Lib.cell_of_heap Xp 2
         have xp3 := Lib.cell_of_heap Xp 3
         have xp4 := Lib.cell_of_heap Xp 4
         have xp5 := Lib.cell_of_heap Xp 5
         have xp6 := Lib.cell_of_heap Xp 6
         simp at xx0 xx1 xx2 xx3 xx4 xx5 xx6 xp0 xp1 xp2 xp3 xp4 xp5 xp6
         clear Xx Xp
         go_wp2_with fail
         refine CT.out.mono ?_; rintro e w18 ⟨rfl, hb⟩
         clear CT xx0 xx1 xx2 xx3 xx4 xx5 xx6 xp0 xp1 xp2 xp3 xp4 xp5 xp6
         replace HAC := Lib.hid (below_over HAC.out hb)
         replace HWB := Lib.hid (below_over HWB.out hb)
         replace BXp := Lib.hid (box_step BXp.out hb)
         replace BXq := Lib.hid (box_step BXq.out hb)
         replace HPB := Lib.hid (below_over HPB.out hb)
         clear hb
         have CT := Lib.hid (same_any _ y zTy (Nat.le_refl _) (.agg #[.int .i64 y.kind, .string y.pkg, .int .i64 y.major, .string y.mod, .string y.name, .slice Yn y.names.length Yc, .slice Ys y.subs.length Yd]) (.agg #[.int .i64 0, .string ⟨#[]⟩, .int .i64 0, .string ⟨#[]⟩, .string ⟨#[]⟩, .slice none 0 0, .slice none 0 0]) w18 ⟨_, rfl, (KTy.out.keep HAC.out)⟩ ⟨_, rfl, zeroT_at _⟩)
         rw [HSY.out] at CT
         have Xy := (HAC.out.block _ BXy.out.1).trans BXy.out.2
         have xy0 := Lib.cell_of_heap Xy 0
         have xy1 := Lib.cell_of_heap Xy 1
         have xy2 := Lib.cell_of_heap Xy 2
         have xy3 := Lib.cell_of_heap Xy 3
         have xy4 := Lib.cell_of_heap Xy 4
         have xy5 := Lib.cell_of_heap Xy 5
         have xy6 := Lib.cell_of_heap Xy 6
         have Xq := BXq.out.2
         have xq0 := Lib.cell_of_heap Xq 0
         have xq1 := Lib.cell_of_heap Xq 1
         have xq2 := Lib.cell_of_heap Xq 2
         have xq3 := Lib.cell_of_heap Xq 3
         have xq4 := Lib.cell_of_heap Xq 4
         have xq5 := Lib.cell_of_heap Xq 5
         have xq6 := Lib.cell_of_heap Xq 6
         simp at xy0 xy1 xy2 xy3 xy4 xy5 xy6 xq0 xq1 xq2 xq3 xq4 xq5 xq6
         clear Xy Xq
         go_wp2_with fail
         refine CT.out.mono ?_; rintro e w19 ⟨rfl, hb⟩
         clear CT xy0 xy1 xy2 xy3 xy4 xy5 xy6 xq0 xq1 xq2 xq3 xq4 xq5 xq6
         replace HAC := Lib.hid (below_over HAC.out hb)
         replace HWB := Lib.hid (below_over HWB.out hb)
         replace BXp := Lib.hid (box_step BXp.out hb)
         replace BXq := Lib.hid (box_step BXq.out hb)
         replace HPB := Lib.hid (below_over HPB.out hb)
         clear hb
         go_wp2_with fail
         go_ret
         exact ⟨rfl, HWB.out⟩
        | true =>
         obtain ⟨e2, ey⟩ := td_rb ISy.out (v := q) (.inl ⟨rfl, BDq.out, HM2.out.symm⟩)
         have HSY : Hid (sameT y q = true) := Lib.hid ((sameT_iff y q).2 ey)
         subst e2
         clear ey
         have CT := Lib.hid (Joins_any9 a b [.int .i64 a.kind, .string a.pkg, .int .i64 a.major, .string a.mod, .string a.name, .slice An a.names.length Ac, .slice As a.subs.length Ad] [.int .i64 b.kind, .string b.pkg, .int .i64 b.major, .string b.mod, .string b.name, .slice Bn b.names.length Bc, .slice Bs b.subs.length Bd] w15 (KTa.out.keep HAC.out) (KTb.out.keep HAC.out))
         have Xa := (HAC.out.block _ BXa.out.1).trans BXa.out.2
         have xa0 := Lib.cell_of_heap Xa 0
         have xa1 := Lib.cell_of_heap Xa 1
         have xa2 := Lib.cell_of_heap Xa 2
         have xa3 := Lib.cell_of_heap Xa 3
         have xa4 := Lib.cell_of_heap Xa 4
         have xa5 := Lib.cell_of_heap Xa 5
         have xa6 := Lib.cell_of_heap Xa 6
         have Xb := (HAC.out.block _ BXb.out.1).trans BXb.out.2
         have xb0 := Lib.cell_of_heap Xb 0
         have xb1 := Lib.cell_of_heap Xb 1
         have xb2 := Lib.cell_of_heap Xb 2
         have xb3 := Lib.cell_of_heap Xb 3
         have xb4 := Lib.cell_of_heap Xb 4
         have xb5 := Lib.cell_of_heap Xb 5
         have xb6 := Lib.cell_of_heap Xb 6
         simp at xa0 xa1 xa2 xa3 xa4 xa5 xa6 xb0 xb1 xb2 xb3 xb4 xb5 xb6
         clear Xa Xb
         go_wp2_with fail
         refine CT.out.mono ?_; rintro e w16 ⟨jj, rfl, hj1, hj2, hb⟩
         obtain rfl : jj = true := by
          cases jj with
          | true => rfl
          | false => exact (BDp.out.not (hj2 rfl OKa.out OKb.out)).elim
         clear hj1 hj2
         clear CT xa0 xa1 xa2 xa3 xa4 xa5 xa6 xb0 xb1 xb2 xb3 xb4 xb5 xb6
         replace HAC := Lib.hid (below_over HAC.out hb)
         replace HWB := Lib.hid (below_over HWB.out hb)
         replace BXp := Lib.hid (box_step BXp.out hb)
         replace BXq := Lib.hid (box_step BXq.out hb)
         replace HPB := Lib.hid (below_over HPB.out hb)
         replace HQ := Lib.hid (HQ.out.keep hb)
         clear hb
         have CT := Lib.hid (same_any _ x p (Nat.le_refl _) (.agg #[.int .i64 x.kind, .string x.pkg, .int .i64 x.major, .string x.mod, .string x.name, .slice Xn x.names.length Xc, .slice Xs x.subs.length Xd]) (.agg #[.int .i64 p.kind, .string p.pkg, .int .i64 p.major, .string p.mod, .string p.name, .slice Pn p.names.length Pc, .slice Ps p.subs.length Pd]) w16 ⟨_, rfl, (KTx.out.keep HAC.out)⟩ ⟨_, rfl, HP.out.yes.2.keep HPB.out⟩)
         rw [HSX.out] at CT
         have Xx := (HAC.out.block _ BXx.out.1).trans BXx.out.2
         have xx0 := Lib.cell_of_heap Xx 0
         have xx1 := Lib.cell_of_heap Xx 1
         have xx2 := Lib.cell_of_heap Xx 2
         have xx3 := Lib.cell_of_heap Xx 3
         have xx4 := Lib.cell_of_heap Xx 4
         have xx5 := Lib.cell_of_heap Xx 5
         have xx6 := Lib.cell_of_heap Xx 6
         have Xp := BXp.out.2
         have xp0 := Lib.cell_of_heap Xp 0
         have xp1 := Lib.cell_of_heap Xp 1
         have xp2 := Lib.cell_of_heap Xp 2
         have xp3 := Lib.cell_of_heap Xp 3
         have xp4 := Lib.cell_of_heap Xp 4
         have xp5 := Lib.cell_of_heap Xp 5
         have xp6 := Lib.cell_of_heap Xp 6
         simp at xx0 xx1 xx2 xx3 xx4 xx5 xx6 xp0 xp1 xp2 xp3 xp4 xp5 xp6
         clear Xx Xp
         go_wp2_with fail
         refine CT.out.mono ?_; rintro e w17 ⟨rfl, hb⟩
         clear CT xx0 xx1 xx2 xx3 xx4 xx5 xx6 xp0 xp1 xp2 xp3 xp4 xp5 xp6
         replace HAC := Lib.hid (below_over HAC.out hb)
         replace HWB := Lib.hid (below_over HWB.out hb)
         replace BXp := Lib.hid (box_step BXp.out hb)
         replace BXq := Lib.hid (box_step BXq.out hb)
         replace HPB := Lib.hid (below_over HPB.out hb)
         replace HQ := Lib.hid (HQ.out.keep hb)
         clear hb
         have CT := Lib.hid (same_any _ y q (Nat.le_refl _) (.agg #[.int .i64 y.kind, .string y.pkg, .int .i64 y.major, .string y.mod, .string y.name, .slice Yn y.names.length Yc, .slice Ys y.subs.length Yd]) (.agg #[.int .i64 q.kind, .string q.pkg, .int .i64 q.major, .string q.mod, .string q.name, .slice Qn q.names.length Qc, .slice Qs q.subs.length Qd]) w17 ⟨_, rfl, (KTy.out.keep HAC.out)⟩ ⟨_, rfl, HQ.out.yes.2⟩)
         rw [HSY.out] at CT
         have Xy := (HAC.out.block _ BXy.out.1).trans BXy.out.2
         have xy0 := Lib.cell_of_heap Xy 0
         have xy1 := Lib.cell_of_heap Xy 1
         have xy2 := Lib.cell_of_heap Xy 2
         have xy3 := Lib.cell_of_heap Xy 3
         have xy4 := Lib.cell_of_heap Xy 4
         have xy5 := Lib.cell_of_heap Xy 5
         have xy6 := Lib.cell_of_heap Xy 6
         have Xq := BXq.out.2
         have xq0 := Lib.cell_of_heap Xq 0
         have xq1 := Lib.cell_of_heap Xq 1
         have xq2 := Lib.cell_of_heap Xq 2
         have xq3 := Lib.cell_of_heap Xq 3
         have xq4 := Lib.cell_of_heap Xq 4
         have xq5 := Lib.cell_of_heap Xq 5
         have xq6 := Lib.cell_of_heap Xq 6
         simp at xy0 xy1 xy2 xy3 xy4 xy5 xy6 xq0 xq1 xq2 xq3 xq4 xq5 xq6
         clear Xy Xq
         go_wp2_with fail
         refine CT.out.mono ?_; rintro e w18 ⟨rfl, hb⟩
         clear CT xy0 xy1 xy2 xy3 xy4 xy5 xy6 xq0 xq1 xq2 xq3 xq4 xq5 xq6
         replace HAC := Lib.hid (below_over HAC.out hb)
         replace HWB := Lib.hid (below_over HWB.out hb)
         replace BXp := Lib.hid (box_step BXp.out hb)
         replace BXq := Lib.hid (box_step BXq.out hb)
         replace HPB := Lib.hid (below_over HPB.out hb)
         replace HQ := Lib.hid (HQ.out.keep hb)
         clear hb
         go_wp2_with fail
         go_ret
         exact ⟨rfl, HWB.out⟩
end Go.Proofs.Ytcdmgcgjonndpaa
