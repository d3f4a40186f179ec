/-
  Several texts in one:  ·  ·  · 
-/
import Derived.Test.YtcdmgcgjonndpaaK11
import Derived.Deep.DeepCutAuto
import Derived.Test.YtcdmgcgjonndpaaK01
import Derived.Test.YtcdmgcgjonndpaaK03
import Derived.Lib.AppendZeros
/-  -/
namespace Go.Proofs.Ytcdmgcgjonndpaa
open Go Go.RowKit Go.Shelf
open Go.Sort
open M
theorem str_info9 : (Try.prog.info? 9).map (fun i => (i.zero, i.size, i.bytes)) = some (some (.string ⟨#[]⟩), 1, 16) := by kernel_rfl
set_option maxRecDepth 100000 in
set_option maxHeartbeats 16000000 in
theorem common_any (f : FuncId) (up : Bool) (hff : FnIn f) (w0 : World) (a b : Ty) (la lb : List Value) (w : World) (ga : GoodT a) (gb : GoodT b) (hk : a.kind = b.kind) (h56 : a.kind = 5 ∨ a.kind = 6) (h9a : many a ≤ 9000) (h9b : many b ≤ 9000) (hTa : TyAt w0 la a) (hTb : TyAt w0 lb b) (hw0 : Below w0.heap.size w0 w)
  (IHf : ∀ x y, x ∈ a.subs → y ∈ b.subs → BdCall w0 f up x y) :
  Calls Try.prog 41 #[.agg la.toArray, .agg lb.toArray, .func (.func f) #[] #[]] w (CmOut w0 up a b w) := by
 have HTa := Lib.hid hTa
 have HFF := Lib.hid hff
 clear hff
 have HTb := Lib.hid hTb
 have HW0 := Lib.hid hw0
 have GA := Lib.hid ga
 have GB := Lib.hid gb
 obtain ⟨An, cA, As, cS, rfl, -, -, -, -, -, hNa, hSa⟩ := hTa.parts
 obtain ⟨Bn, cB, Bs, cD, rfl, -⟩ := hTb.parts
 have HNA := Lib.hid hNa
 have HSA := Lib.hid hSa
 have HIF := Lib.hid IHf
 obtain ⟨n, hn⟩ : ∃ n, n = a.names.length := ⟨_, rfl⟩
 have hn9 : n ≤ 9000 := by rw [hn]; exact row_small ga h56 h9a
 have hsn : n = a.subs.length := by rw [hn, (ga.row h56).2.1]
 have HPB : Hid (b.subs.length = b.names.length ∧ b.names.length ≤ 1000000) := Lib.hid ⟨(gb.row (by rw [← hk]; exact h56)).2.1, by have := row_small gb (by rw [← hk]; exact h56) h9b; omega⟩
 obtain ⟨W2, hW2, B2, O0, O1, hl2⟩ := two_boxes w #[.int .i64 a.kind, .string a.pkg, .int .i64 a.major, .string a.mod, .string a.name, .slice An a.names.length cA, .slice As a.subs.length cS] #[.int .i64 b.kind, .string b.pkg, .int .i64 b.major, .string b.mod, .string b.name, .slice Bn b.names.length cB, .slice Bs b.subs.length cD] 25 25
 have s2 : W2.heap.size = w.heap.size + 1 + 1 := by rw [hW2]; simp
 obtain ⟨W3, hW3⟩ : ∃ W3, W3 = W2.alloc (.cells #[.int .i64 0, .string ⟨#[]⟩, .int .i64 0, .string ⟨#[]⟩, .string ⟨#[]⟩, .slice none 0 0, .slice none 0 0] 25) := ⟨_, rfl⟩
 have B3 : Below W2.heap.size W2 W3 := by rw [hW3]; exact below_new (Below.refl _ _) _
 have s3 : W3.heap.size = w.heap.size + 1 + 1 + 1 := by rw [hW3]; simp [s2]
 have O2 : W3.heap[w.heap.size + 1 + 1]? = some (.cells #[.int .i64 0, .string ⟨#[]⟩, .int .i64 0, .string ⟨#[]⟩, .string ⟨#[]⟩, .slice none 0 0, .slice none 0 0] 25 (0, 0)) := by rw [hW3, ← s2]; exact heap_alloc_new W2 _
 have HB3 : Hid (Below w.heap.size w W3) := Lib.hid (below_over B2 B3)
 have X0 : W3.heap[w.heap.size]? = some (.cells #[.int .i64 a.kind, .string a.pkg, .int .i64 a.major, .string a.mod, .string a.name, .slice An a.names.length cA, .slice As a.subs.length cS] 25 (0, 0)) := (B3.block _ (by omega)).trans O0
 have X1 : W3.heap[w.heap.size + 1]? = some (.cells #[.int .i64 b.kind, .string b.pkg, .int .i64 b.major, .string b.mod, .string b.name, .slice Bn b.names.length cB, .slice Bs b.subs.length cD] 25 (0, 0)) := (B3.block _ (by omega)).trans O1
 have HXC : Hid (∀ wx, Below W3.heap.size W3 wx → wx.cell? ⟨w.heap.size, 6, none⟩ = some (.slice As n cS)) := Lib.hid (fun wx hb => by
  rw [hsn]
  exact Lib.cell_of_heap ((hb.block _ (by omega)).trans X0) 6)
 have HX1 : Hid (∀ wx, Below W3.heap.size W3 wx → wx.heap[w.heap.size + 1]? = some (.cells #[.int .i64 b.kind, .string b.pkg, .int .i64 b.major, .string b.mod, .string b.name, .slice Bn b.names.length cB, .slice Bs b.subs.length cD] 25 (0, 0))) := Lib.hid (fun wx hb => (hb.block _ (by omega)).trans X1)
 have HW : Hid (((w.alloc (.cells #[.int .i64 a.kind, .string a.pkg, .int .i64 a.major, .string a.mod, .string a.name, .slice An a.names.length cA, .slice As a.subs.length cS] 25)).alloc (.cells #[.int .i64 b.kind, .string b.pkg, .int .i64 b.major, .string b.mod, .string b.name, .slice Bn b.names.length cB, .slice Bs b.subs.length cD] 25)).alloc (.cells #[.int .i64 0, .string ⟨#[]⟩, .int .i64 0, .string ⟨#[]⟩, .string ⟨#[]⟩, .slice none 0 0, .slice none 0 0] 25) = W3) := Lib.hid (by rw [hW3, hW2])
 have HO2 := Lib.hid O2
 have HS3 := Lib.hid s3
 have HN := Lib.hid (And.intro hn hsn)
 have x0 := Lib.cell_of_heap X0 0
 simp at x0
 have X4 : (W3.alloc (.cells #[.int .i64 0, .string ⟨#[]⟩, .int .i64 0, .string ⟨#[]⟩, .string ⟨#[]⟩, .slice none 0 0, .slice none 0 0] 25)).heap[W3.heap.size]? = some (.cells #[.int .i64 0, .string ⟨#[]⟩, .int .i64 0, .string ⟨#[]⟩, .string ⟨#[]⟩, .slice none 0 0, .slice none 0 0] 25 (0, 0)) := heap_alloc_new W3 _
 obtain ⟨W4, hW4⟩ : ∃ W4, W4 = (W3.alloc (.cells #[.int .i64 0, .string ⟨#[]⟩, .int .i64 0, .string ⟨#[]⟩, .string ⟨#[]⟩, .slice none 0 0, .slice none 0 0] 25)).setRow W3.heap.size #[.int .i64 a.kind, .string ⟨#[]⟩, .int .i64 0, .string ⟨#[]⟩, .string ⟨#[]⟩, .slice none 0 0, .slice none 0 0] := ⟨_, rfl⟩
 have B4 : Below W3.heap.size W3 W4 := by rw [hW4]; exact setRow_below (below_new (Below.refl _ _) _) (Nat.le_refl _) _
 have O4 : W4.heap[w.heap.size + 1 + 1 + 1]? = some (.cells #[.int .i64 a.kind, .string ⟨#[]⟩, .int .i64 0, .string ⟨#[]⟩, .string ⟨#[]⟩, .slice none 0 0, .slice none 0 0] 25 (0, 0)) := by rw [hW4, ← s3]; exact setRow_heap _ _ _ _ _ _ X4
 have s4 : W4.heap.size = w.heap.size + 1 + 1 + 1 + 1 := by rw [hW4, size_setRow]; simp [s3]
 have START : Hid (CmI w0 w a.kind [] [] none 0 none 0 (w.heap.size + 1 + 1 + 1) (w.heap.size + 1 + 1 + 1 + 1) W4) := Lib.hid ⟨below_over HB3.out B4, by omega, O4, RowB.start _ _ _ _, RowB.start _ _ _ _, fun b hb => by simp [Value.ownBlock] at hb⟩
 have HB4 := Lib.hid B4
 have HW4 := Lib.hid hW4
 have X05 : W4.cell? ⟨w.heap.size, 5, none⟩ = some (.slice An n cA) := by rw [hn]; exact Lib.cell_of_heap ((B4.block _ (by omega)).trans X0) 5
 clear hW2 hW3 hW4 B2 B3 B4 O0 O1 O2 O4 s2 s3 s4 hl2 hTa hTb ga gb hk h56 hw0 X0 X1 hn hsn hNa hSa IHf h9a h9b
 go_enter Try.func41, Try.ntmps41
 go_upto_region 1 with fail
 rw [HW.out]
 clear HW
 go_upto_region 2 with (first | (((with_reducible refine wpList_putRow 25 (W3.heap.size) #[.int .i64 a.kind, .string ⟨#[]⟩, .int .i64 0, .string ⟨#[]⟩, .string ⟨#[]⟩, .slice none 0 0, .slice none 0 0] _ _ X4 ?_ ?_ ?_ ?_ ?_ ?_); exact tySize; rfl; exact tyOne; (focus (first | (go_simp; done) | rfl)); (focus (first | (go_simp; done) | rfl)))))
 rw [← HW4.out, HS3.out]
 clear X4 HW4 x0
 simp only [Act.put]
 go_wp2_with fail
 clear X05
 go_loopw [18] (fun s18 wr => ∃ (k : Nat) (ns : List ByteArray) (xs : List Ty) (A5 : Option Addr) (c5 : Nat) (A6 : Option Addr) (c6 : Nat), k ≤ n ∧ s18 = .int .i64 k ∧ Hid (CmI w0 w a.kind ns xs A5 c5 A6 c6 (w.heap.size + 1 + 1 + 1) (w.heap.size + 1 + 1 + 1 + 1) wr) ∧ Hid (CmP up a b k ns xs) ∧ Hid (Below W3.heap.size W3 wr)) (fun s18 _ => n - (intOf s18).toNat)
 case atStart => exact ⟨0, [], [], none, 0, none, 0, by omega, rfl, START, Lib.hid (CmP.start up a b), HB4⟩
 case round =>
  obtain ⟨k, ns, xs, A5, c5, A6, c6, hkn, rfl, HI, HP, HB3O⟩ := hrel
  obtain ⟨wo, rfl⟩ : ∃ wo : World, wo = wr := ⟨_, rfl⟩
  by_cases hlt : k < n
  ·obtain ⟨s, hs⟩ : ∃ s, a.names[k]? = some s := at_some (by rw [← HN.out.1]; exact hlt)
   obtain ⟨x, hx⟩ : ∃ x, a.subs[k]? = some x := at_some (by rw [← HN.out.2]; exact hlt)
   have hb00 := below_over HW0.out HI.out.below
   obtain ⟨gn, on, rfl, hgn, hcn, hss⟩ := HNA.out k s hs
   obtain ⟨g1, o1, v0, v1, v2, v3, v4, v5, v6, rfl, hg1, h0, h1, h2, h3, h4, h5, h6, hx7⟩ := HSA.out k x hx
   obtain ⟨Fn, cF, Fs, dF, rfl, rfl, rfl, rfl, rfl, rfl, rfl⟩ := hx7.seven
   have cn := (hb00.cell (p := ⟨gn, _, none⟩) hgn).trans hcn
   have HX7 := Lib.hid hx7
   have HXX := Lib.hid (List.mem_of_getElem? hx)
   have HAX : Hid (AtN a s x) := Lib.hid ⟨k, hs, hx⟩
   have HS := Lib.hid hs
   have HSS := Lib.hid hss
   have HT1 : Hid (∀ wx, Below wo.heap.size wo wx → wx.cell? ⟨w.heap.size, 6, none⟩ = some (.slice (some ⟨g1, o1, none⟩) n cS) ∧ (wx.cell? ⟨g1, o1 + k * 7, none⟩ = some (.int .i64 x.kind) ∧ wx.cell? ⟨g1, o1 + k * 7 + 1, none⟩ = some (.string x.pkg) ∧ wx.cell? ⟨g1, o1 + k * 7 + 2, none⟩ = some (.int .i64 x.major) ∧ wx.cell? ⟨g1, o1 + k * 7 + 3, none⟩ = some (.string x.mod) ∧ wx.cell? ⟨g1, o1 + k * 7 + 4, none⟩ = some (.string x.name) ∧ wx.cell? ⟨g1, o1 + k * 7 + 5, none⟩ = some (.slice Fn x.names.length cF) ∧ wx.cell? ⟨g1, o1 + k * 7 + 6, none⟩ = some (.slice Fs x.subs.length dF))) := Lib.hid (fun wx hb => by
    have hb3 := below_over HB3O.out hb
    have hb0 := below_over HW0.out (below_over HI.out.below hb)
    have t1 := fun (q : Nat) (v : Value) (hv : w0.cell? ⟨g1, q, none⟩ = some v) => (hb0.cell (p := ⟨g1, q, none⟩) hg1).trans hv
    exact ⟨HXC.out wx hb3, t1 _ _ h0, t1 _ _ h1, t1 _ _ h2, t1 _ _ h3, t1 _ _ h4, t1 _ _ h5, t1 _ _ h6⟩)
   have hk0 : (0 : Int) ≤ k := by omega
   have hk1 : (k : Int) < n := by omega
   have XB := HX1.out wo HB3O.out
   have m0 := Lib.cell_of_heap XB 0
   have m1 := Lib.cell_of_heap XB 1
   have m2 := Lib.cell_of_heap XB 2
   have m3 := Lib.cell_of_heap XB 3
   have m4 := Lib.cell_of_heap XB 4
   have m5 := Lib.cell_of_heap XB 5
   have m6 := Lib.cell_of_heap XB 6
   simp at m0 m1 m2 m3 m4 m5 m6
   have CP := Lib.hid (part0_any w0 b [.int .i64 b.kind, .string b.pkg, .int .i64 b.major, .string b.mod, .string b.name, .slice Bn b.names.length cB, .slice Bs b.subs.length cD] s wo HTb.out hb00 GB.out.rise HPB.out.1 HPB.out.2)
   clear h0 h1 h2 h3 h4 h5 h6 hx7 hs hx hg1 hgn hcn hb00 XB hss
   go_wp2_with fail
   refine CP.out.mono ?_; rintro e w3 ⟨l1, bq, rfl, hb3, hcase⟩
   clear CP m0 m1 m2 m3 m4 m5 m6 cn
   rcases hcase with ⟨rfl, y, hay, hTy⟩ | ⟨rfl, rfl, hno⟩
   ·obtain ⟨Gn, cG, Gs, dG, rfl, -⟩ := hTy.parts
    obtain ⟨w4, hw4⟩ : ∃ w4, w4 = w3.alloc (.cells #[.int .i64 y.kind, .string y.pkg, .int .i64 y.major, .string y.mod, .string y.name, .slice Gn y.names.length cG, .slice Gs y.subs.length dG] 25) := ⟨_, rfl⟩
    have B4 : Below w3.heap.size w3 w4 := by rw [hw4]; exact below_new (Below.refl _ _) _
    have Y4 : w4.heap[w3.heap.size]? = some (.cells #[.int .i64 y.kind, .string y.pkg, .int .i64 y.major, .string y.mod, .string y.name, .slice Gn y.names.length cG, .slice Gs y.subs.length dG] 25 (0, 0)) := by rw [hw4]; exact heap_alloc_new w3 _
    have s4 : w4.heap.size = w3.heap.size + 1 := by rw [hw4]; simp
    have HB4o : Hid (Below wo.heap.size wo w4) := Lib.hid (below_over hb3 B4)
    have HY7 := Lib.hid hTy
    have HAY := Lib.hid hay
    have HYY := Lib.hid hay.sub
    have HY4 : Hid (∀ wx, Below w4.heap.size w4 wx → wx.heap[w3.heap.size]? = some (.cells #[.int .i64 y.kind, .string y.pkg, .int .i64 y.major, .string y.mod, .string y.name, .slice Gn y.names.length cG, .slice Gs y.subs.length dG] 25 (0, 0))) := Lib.hid (fun wx hb => (hb.block _ (by omega)).trans Y4)
    have hsz3 : wo.heap.size ≤ w3.heap.size := hb3.size
    have hsz4 : w3.heap.size < w4.heap.size := by omega
    have HSZ3 := Lib.hid (And.intro hsz3 hsz4)
    have KEEP : Hid (∀ wx, Below w4.heap.size w4 wx → (fun wx => wx.cell? ⟨w.heap.size, 6, none⟩ = some (.slice (some ⟨g1, o1, none⟩) n cS) ∧ (wx.cell? ⟨g1, o1 + k * 7, none⟩ = some (.int .i64 x.kind) ∧ wx.cell? ⟨g1, o1 + k * 7 + 1, none⟩ = some (.string x.pkg) ∧ wx.cell? ⟨g1, o1 + k * 7 + 2, none⟩ = some (.int .i64 x.major) ∧ wx.cell? ⟨g1, o1 + k * 7 + 3, none⟩ = some (.string x.mod) ∧ wx.cell? ⟨g1, o1 + k * 7 + 4, none⟩ = some (.string x.name) ∧ wx.cell? ⟨g1, o1 + k * 7 + 5, none⟩ = some (.slice Fn x.names.length cF) ∧ wx.cell? ⟨g1, o1 + k * 7 + 6, none⟩ = some (.slice Fs x.subs.length dF)) ∧ wx.cell? ⟨w3.heap.size, 0, none⟩ = some (.int .i64 y.kind) ∧ wx.cell? ⟨w3.heap.size, 1, none⟩ = some (.string y.pkg) ∧ wx.cell? ⟨w3.heap.size, 2, none⟩ = some (.int .i64 y.major) ∧ wx.cell? ⟨w3.heap.size, 3, none⟩ = some (.string y.mod) ∧ wx.cell? ⟨w3.heap.size, 4, none⟩ = some (.string y.name) ∧ wx.cell? ⟨w3.heap.size, 5, none⟩ = some (.slice Gn y.names.length cG) ∧ wx.cell? ⟨w3.heap.size, 6, none⟩ = some (.slice Gs y.subs.length dG)) wx) := Lib.hid (fun wx hb => by
     have hq := HT1.out wx (below_over HB4o.out hb)
     have hY := HY4.out wx hb
     have z0 := Lib.cell_of_heap hY 0
     have z1 := Lib.cell_of_heap hY 1
     have z2 := Lib.cell_of_heap hY 2
     have z3 := Lib.cell_of_heap hY 3
     have z4 := Lib.cell_of_heap hY 4
     have z5 := Lib.cell_of_heap hY 5
     have z6 := Lib.cell_of_heap hY 6
     exact ⟨hq.1, hq.2, z0, z1, z2, z3, z4, z5, z6⟩)
    have CT := Lib.hid (fun (w' : World) (hb' : Below w4.heap.size w4 w') => HIF.out x y HXX.out HYY.out _ _ w' HX7.out HY7.out (below_over HW0.out (below_over HI.out.below (below_over HB4o.out hb'))))
    have HW4' := Lib.hid hw4
    clear hw4 B4 Y4 s4 hb3 hTy hay hsz3 hsz4
    go_upto_region 7 with fail
    rw [← HW4'.out]
    clear HW4'
    go_cut [11] (fun s11 wx => ∃ (l1 : List Value) (q : Bool), s11 = .bool q ∧ PwR w0 wo up x y w3.heap.size l1 q wx)
    case first =>
     have hH0 := KEEP.out w4.drew (Below.drew (Below.refl _ _))
     refine AnyX.start (fun wx => wx.cell? ⟨w.heap.size, 6, none⟩ = some (.slice (some ⟨g1, o1, none⟩) n cS) ∧ (wx.cell? ⟨g1, o1 + k * 7, none⟩ = some (.int .i64 x.kind) ∧ wx.cell? ⟨g1, o1 + k * 7 + 1, none⟩ = some (.string x.pkg) ∧ wx.cell? ⟨g1, o1 + k * 7 + 2, none⟩ = some (.int .i64 x.major) ∧ wx.cell? ⟨g1, o1 + k * 7 + 3, none⟩ = some (.string x.mod) ∧ wx.cell? ⟨g1, o1 + k * 7 + 4, none⟩ = some (.string x.name) ∧ wx.cell? ⟨g1, o1 + k * 7 + 5, none⟩ = some (.slice Fn x.names.length cF) ∧ wx.cell? ⟨g1, o1 + k * 7 + 6, none⟩ = some (.slice Fs x.subs.length dF)) ∧ wx.cell? ⟨w3.heap.size, 0, none⟩ = some (.int .i64 y.kind) ∧ wx.cell? ⟨w3.heap.size, 1, none⟩ = some (.string y.pkg) ∧ wx.cell? ⟨w3.heap.size, 2, none⟩ = some (.int .i64 y.major) ∧ wx.cell? ⟨w3.heap.size, 3, none⟩ = some (.string y.mod) ∧ wx.cell? ⟨w3.heap.size, 4, none⟩ = some (.string y.name) ∧ wx.cell? ⟨w3.heap.size, 5, none⟩ = some (.slice Gn y.names.length cG) ∧ wx.cell? ⟨w3.heap.size, 6, none⟩ = some (.slice Gs y.subs.length dG)) (fun k => k == 11) (by kernel_rfl) ?_
     refine AnyX.move (i := 0) (v := ?_) rfl (by kernel_rfl) (by kernel_rfl) (by kernel_rfl) (by kernel_rfl) (fun _ _ _ h => h) (Or.inl ⟨by rfl, ?_⟩) ?_
     rotate_left
     ·(intro wS _; go_simp; try with_reducible rfl)
     simp only [List.getElem_toArray, List.getElem_cons_succ, List.getElem_cons_zero]
     simp only [Act.put, List.setIfInBounds_toArray]
     simp only [List.set_cons_zero, List.set_cons_succ]
     refine AnyX.move (i := 1) (v := ?_) rfl (by kernel_rfl) (by kernel_rfl) (by kernel_rfl) (by kernel_rfl) (fun _ _ _ h => h) (Or.inl ⟨by rfl, ?_⟩) ?_
     rotate_left
     ·(intro wS _; go_simp; try with_reducible rfl)
     simp only [List.getElem_toArray, List.getElem_cons_succ, List.getElem_cons_zero]
     simp only [Act.put, List.setIfInBounds_toArray]
     simp only [List.set_cons_zero, List.set_cons_succ]
     refine AnyX.take (i := 2) (v := ?_) rfl (by kernel_rfl) (by kernel_rfl) (by kernel_rfl) (by kernel_rfl) (by kernel_rfl) (fun _ _ _ h => h) hH0 (Or.inl ⟨by rfl, ?_⟩) ?_
     rotate_left
     ·(intro wS hS; (try obtain ⟨m0, ⟨c0, c1, c2, c3, c4, c5', c6'⟩, d0, d1, d2, d3, d4, d5, d6⟩ := hS); go_simp; try with_reducible rfl)
     simp only [List.getElem_toArray, List.getElem_cons_succ, List.getElem_cons_zero]
     simp only [Act.put, List.setIfInBounds_toArray]
     simp only [List.set_cons_zero, List.set_cons_succ]
     refine AnyX.move (i := 3) (v := ?_) rfl (by kernel_rfl) (by kernel_rfl) (by kernel_rfl) (by kernel_rfl) (fun _ _ _ h => h) (Or.inl ⟨by rfl, ?_⟩) ?_
     rotate_left
     ·(intro wS _; go_simp; try with_reducible rfl)
     simp only [List.getElem_toArray, List.getElem_cons_succ, List.getElem_cons_zero]
     simp only [Act.put, List.setIfInBounds_toArray]
     simp only [List.set_cons_zero, List.set_cons_succ]
     refine AnyX.move (i := 4) (v := ?_) rfl (by kernel_rfl) (by kernel_rfl) (by kernel_rfl) (by kernel_rfl) (fun _ _ _ h => h) (Or.inl ⟨by rfl, ?_⟩) ?_
     rotate_left
     ·(intro wS _; go_simp; try with_reducible rfl)
     simp only [List.getElem_toArray, List.getElem_cons_succ, List.getElem_cons_zero]
     simp only [Act.put, List.setIfInBounds_toArray]
     simp only [List.set_cons_zero, List.set_cons_succ]
     refine AnyX.take (i := 5) (v := ?_) rfl (by kernel_rfl) (by kernel_rfl) (by kernel_rfl) (by kernel_rfl) (by kernel_rfl) (fun _ _ _ h => h) hH0 (Or.inl ⟨by rfl, ?_⟩) ?_
     rotate_left
     ·(intro wS hS; (try obtain ⟨m0, ⟨c0, c1, c2, c3, c4, c5', c6'⟩, d0, d1, d2, d3, d4, d5, d6⟩ := hS); go_simp; try with_reducible rfl)
     simp only [List.getElem_toArray, List.getElem_cons_succ, List.getElem_cons_zero]
     simp only [Act.put, List.setIfInBounds_toArray]
     simp only [List.set_cons_zero, List.set_cons_succ]
     refine AnyX.take (i := 6) (v := ?_) rfl (by kernel_rfl) (by kernel_rfl) (by kernel_rfl) (by kernel_rfl) (by kernel_rfl) (fun _ _ _ h => h) hH0 (Or.inl ⟨by rfl, ?_⟩) ?_
     rotate_left
     ·(intro wS hS; (try obtain ⟨m0, ⟨c0, c1, c2, c3, c4, c5', c6'⟩, d0, d1, d2, d3, d4, d5, d6⟩ := hS); go_simp; try with_reducible rfl)
     simp only [List.getElem_toArray, List.getElem_cons_succ, List.getElem_cons_zero]
     simp only [Act.put, List.setIfInBounds_toArray]
     simp only [List.set_cons_zero, List.set_cons_succ]
     refine AnyX.go 7 (by kernel_rfl) rfl rfl (fun K hK => ?_)
     simp only [List.getElem_toArray, List.getElem_cons_succ, List.getElem_cons_zero]
     go_simp
     rw [HFF.out, Oper.upon_enter]
     refine (CT.out w4.drew (Below.drew (Below.refl _ _))).mono ?_
     rintro e w2 ⟨l1, q1, rfl, hb2, hres⟩
     have hB2 : Below w4.heap.size w4 w2 := Below.trans (Below.drew (Below.refl w4.heap.size w4)) hb2
     have hsh := bd_shape hres
     obtain ⟨v, Hn, cH, Hs, dH, rfl⟩ := hsh
     have X2 := HY4.out w2 hB2
     simp only []
     refine hK.out _ _ (fun hoff _ => KEEP.out w2 hB2) ?_
     clear hK
     try simp only [Act.put, List.setIfInBounds_toArray]
     try simp only [List.set_cons_zero, List.set_cons_succ]
     refine AnyX.move (i := 8) (v := ?_) rfl (by kernel_rfl) (by kernel_rfl) (by kernel_rfl) (by kernel_rfl) (fun _ _ _ h => h) (Or.inl ⟨by rfl, ?_⟩) ?_
     rotate_left
     ·(intro wS _; go_simp; try with_reducible rfl)
     simp only [List.getElem_toArray, List.getElem_cons_succ, List.getElem_cons_zero]
     simp only [Act.put, List.setIfInBounds_toArray]
     simp only [List.set_cons_zero, List.set_cons_succ]
     refine AnyX.move (i := 9) (v := ?_) rfl (by kernel_rfl) (by kernel_rfl) (by kernel_rfl) (by kernel_rfl) (fun _ _ _ h => h) (Or.inl ⟨by rfl, ?_⟩) ?_
     rotate_left
     ·(intro wS _; go_simp; try with_reducible rfl)
     simp only [List.getElem_toArray, List.getElem_cons_succ, List.getElem_cons_zero]
     simp only [Act.put, List.setIfInBounds_toArray]
     simp only [List.set_cons_zero, List.set_cons_succ]
     refine AnyX.move (i := 10) (v := ?_) rfl (by kernel_rfl) (by kernel_rfl) (by kernel_rfl) (by kernel_rfl) (fun _ _ _ h => h) (Or.inl ⟨by rfl, ?_⟩) ?_
     rotate_left
     ·(intro wS _; go_simp; try with_reducible rfl)
     simp only [List.getElem_toArray, List.getElem_cons_succ, List.getElem_cons_zero]
     simp only [Act.put, List.setIfInBounds_toArray]
     simp only [List.set_cons_zero, List.set_cons_succ]
     refine AnyX.go 11 (by kernel_rfl) rfl rfl (fun K hK => ?_)
     simp only [List.getElem_toArray, List.getElem_cons_succ, List.getElem_cons_zero]
     refine wp_store_row 25 (.tmp 10) (.tmp 39) rfl w3.heap.size #[.int .i64 v.kind, .string v.pkg, .int .i64 v.major, .string v.mod, .string v.name, .slice Hn v.names.length cH, .slice Hs v.subs.length dH] rfl rfl _ _ X2 tySize rfl tyOne ?_
     refine hK.out _ _ (fun hoff _ => absurd hoff (by decide)) ?_
     clear hK
     try simp only [Act.put, List.setIfInBounds_toArray]
     try simp only [List.set_cons_zero, List.set_cons_succ]
     refine AnyX.move (i := 12) (v := ?_) rfl (by kernel_rfl) (by kernel_rfl) (by kernel_rfl) (by kernel_rfl) (fun _ _ _ h => h) (Or.inl ⟨by rfl, ?_⟩) ?_
     rotate_left
     ·(intro wS _; go_simp; try with_reducible rfl)
     simp only [List.getElem_toArray, List.getElem_cons_succ, List.getElem_cons_zero]
     simp only [Act.put, List.setIfInBounds_toArray]
     simp only [List.set_cons_zero, List.set_cons_succ]
     refine AnyX.done (by kernel_rfl) ?_ _
     go_wp2_with fail
     go_meet
     exact ⟨_, _, rfl, PwR.made (wa := w4.drew) hb2 hres ⟨v, Hn, cH, Hs, dH, rfl⟩ (below_over HW0.out HI.out.below).size HB4o.out.size HSZ3.out.1 (.inl HSZ3.out.2) (setRow_heap _ _ _ _ _ _ X2) (setRow_below (below_over HB4o.out hB2) HSZ3.out.1 _) (fun y hy hne => setRow_other _ _ _ _ hne) (by rw [size_setRow]; exact Nat.le_refl _)⟩
    case rest =>
     obtain ⟨l1, q, rfl, hXb, hbb, hBx, ⟨v, Hn, cH, Hs, dH, rfl⟩, hres⟩ := hcut
     obtain ⟨wy, rfl⟩ : ∃ wy : World, wy = wc := ⟨_, rfl⟩
     have HBy := Lib.hid hBx
     have HI2 := Lib.hid (HI.out.keep (Nat.lt_succ_self _) hBx)
     have HB3y : Hid (Below W3.heap.size W3 wy) := Lib.hid (below_over HB3O.out hBx)
     clear CT KEEP
     cases q with
     | true =>
      obtain ⟨z, hbz, hTz⟩ : ∃ z, IsBnd up x y z ∧ TyAt (strike (fun k => w0.heap.size ≤ k ∧ k < wo.heap.size) wy) [.int .i64 v.kind, .string v.pkg, .int .i64 v.major, .string v.mod, .string v.name, .slice Hn v.names.length cH, .slice Hs v.subs.length dH] z := by
       rcases hres with ⟨-, z, h1, h2⟩ | ⟨h, -⟩
       ·exact ⟨z, h1, h2⟩
       ·cases h
      have HTZ := Lib.hid hTz
      have HPN : Hid (CmP up a b (k + 1) (ns ++ [s]) (xs ++ [z])) := Lib.hid (HP.out.more HS.out HAX.out HAY.out hbz)
      have y5 := Lib.cell_of_heap HI2.out.box 5
      simp at y5
      have hnl : ns.length ≤ 9000 := Nat.le_trans HP.out.sub.length_le (by rw [List.length_take]; omega)
      have hxl : xs.length ≤ 9000 := by have := HP.out.len; omega
      have hw00 : w0.heap.size ≤ w.heap.size := HW0.out.size
      have hss := HSS.out
      have hlo4 := HI.out.size
      have hys := HBy.out.size
      have hB6 : ∀ c, (Value.slice A6 xs.length c6).ownBlock = some c → c < wo.heap.size := fun c e => (HI.out.types.lt e).2
      have hB5 : ∀ c, (Value.slice A5 ns.length c5).ownBlock = some c → w.heap.size + 1 + 1 + 1 + 1 ≤ c ∧ c < wo.heap.size := fun c e => HI.out.names.lt e
      obtain ⟨C, hC1, hown, hC4⟩ := HI2.out.names.cells
      have hown : wy.ownsRow (w.heap.size + 1 + 1 + 1 + 1) 9 1 (.slice A5 ns.length c5) ns.length C.flatten := hown
      obtain ⟨inf5, g1', g2', g3', g4'⟩ := info_parts str_info9
      have hMX5 : ns.length + 1 ≤ maxLen := by unfold maxLen; omega
      have hAL : ∀ oo, w.heap.size + 1 + 1 + 1 + 1 ≤ (wy.alloc oo).heap.size := fun oo => by have e1 : (wy.alloc oo).heap.size = wy.heap.size + 1 := (by simp); omega
      have HXb := Lib.hid hXb
      have HBB := Lib.hid hbb
      clear hXb hbz hTz hres hBx hbb
      go_upto_region 10 with (first | (refine wpList_append_lies _ rfl (.tmp 43) (.tmp 45) 22 rfl (w.heap.size + 1 + 1 + 1 + 1) 9 inf5 _ 1 16 Try.underlying22 g1' g2' g3' g4' (by rfl) (Nat.zero_lt_succ 0) (.slice A5 ns.length c5) ns.length _ rfl (hown.alloc _) ⟨wy.heap.size, 0, none⟩ 1 1 [.string s] rfl rfl (fun q u hq => by rw [WideShapes.add_plain, Nat.zero_add, Lib.cell_of_heap (heap_alloc_new wy _), ← hq, ← List.getElem?_toArray]) (fun u hu => by simp at hu; subst hu; rfl) Nat.one_pos hMX5 (by omega) (hAL _) _ rfl ?_; intro gb cap w5 hown5 hgrow hat hlt5; obtain ⟨CM9, old9, bel9, z9, e9, hs9⟩ := HI2.out.name (by omega) (by omega) (Nat.lt_succ_self _) hss hC1 hC4 hown5 hgrow hat; have hgb : (Value.slice A5 ns.length c5).ownBlock = some gb ∨ wy.heap.size < gb := (by rcases hat with e | e; exact .inl e; exact .inr (by rw [e]; simp)); clear hown5 hgrow hat hlt5))
      have hg0 := HBB.out
      obtain ⟨wz, hwz⟩ : ∃ wz, wz = w5.setCell ⟨w.heap.size + 1 + 1 + 1, 5, none⟩ (.slice (some ⟨gb, 0, none⟩) (ns.length + 1) cap) := ⟨_, rfl⟩
      rw [← hwz] at CM9 old9 bel9 hs9 ⊢
      have HI3 := Lib.hid CM9
      have HXz : Hid (wz.heap[w3.heap.size]? = some (.cells #[.int .i64 v.kind, .string v.pkg, .int .i64 v.major, .string v.mod, .string v.name, .slice Hn v.names.length cH, .slice Hs v.subs.length dH] 25 (0, 0))) := Lib.hid ((old9 _ (fun e => by have := (hB5 _ e).2; omega) (by omega) ((Array.getElem?_eq_some_iff.1 HXb.out).1)).trans HXb.out)
      have HTZ3 : Hid (TyAt (strike (fun k => (w0.heap.size ≤ k ∧ k < wo.heap.size) ∨ (Value.slice (some ⟨gb, 0, none⟩) (ns ++ [s]).length cap).ownBlock = some k) wz) [.int .i64 v.kind, .string v.pkg, .int .i64 v.major, .string v.mod, .string v.name, .slice Hn v.names.length cH, .slice Hs v.subs.length dH] z) := Lib.hid (HTZ.out.move hs9 fun b hb hS => ⟨fun e => by
       rcases e with e | e
       ·exact hS e
       ·simp [Value.ownBlock] at e
        subst e
        rcases hgb with e | e
        ·exact hS ⟨by have := (hB5 _ e).1; omega, (hB5 _ e).2⟩
        ·omega, old9 b (fun e => hS ⟨by have := (hB5 _ e).1; omega, (hB5 _ e).2⟩) (fun e => hS ⟨by omega, by omega⟩) hb⟩)
      have hS5 : ∀ b, (Value.slice (some ⟨gb, 0, none⟩) (ns ++ [s]).length cap).ownBlock = some b → b < wz.heap.size := fun b e => (CM9.names.lt e).2
      have HB3z : Hid (Below W3.heap.size W3 wz) := Lib.hid (HB3y.out.trans (bel9 _ (by rw [HS3.out]; exact Nat.le_refl _)))
      have hl5 : (ns ++ [s]).length = ns.length + 1 := by simp
      have y6 := Lib.cell_of_heap HI3.out.box 6
      have z0 := Lib.cell_of_heap HXz.out 0
      have z1 := Lib.cell_of_heap HXz.out 1
      have z2 := Lib.cell_of_heap HXz.out 2
      have z3 := Lib.cell_of_heap HXz.out 3
      have z4 := Lib.cell_of_heap HXz.out 4
      have z5 := Lib.cell_of_heap HXz.out 5
      have z6 := Lib.cell_of_heap HXz.out 6
      simp at y6 z0 z1 z2 z3 z4 z5 z6
      clear hC1 hown hC4 g1' g2' g3' g4' hAL old9 bel9 CM9 y5 hwz z9 e9
      obtain ⟨C, hC1, hown, hC4⟩ := HI3.out.types.cells
      have hown : wz.ownsRow (w.heap.size + 1 + 1 + 1 + 1) 25 7 (.slice A6 xs.length c6) xs.length C.flatten := hown
      obtain ⟨inf, hi1, hy0, hy1, hy2⟩ := info_parts typ_info
      have hMX6 : xs.length + 1 ≤ maxLen := by unfold maxLen; omega
      have hAL : ∀ oo, w.heap.size + 1 + 1 + 1 + 1 ≤ (wz.alloc oo).heap.size := fun oo => by have e1 : (wz.alloc oo).heap.size = wz.heap.size + 1 := (by simp); omega
      go_wp2_with (first | (refine wpList_append_lies _ rfl (.tmp 49) (.tmp 51) 23 rfl (w.heap.size + 1 + 1 + 1 + 1) 25 inf _ 7 112 Try.underlying23 hi1 hy0 hy1 hy2 (by rfl) (Nat.zero_lt_succ 6) (.slice A6 xs.length c6) xs.length _ rfl (hown.alloc _) ⟨wz.heap.size, 0, none⟩ 1 1 [.int .i64 v.kind, .string v.pkg, .int .i64 v.major, .string v.mod, .string v.name, .slice Hn v.names.length cH, .slice Hs v.subs.length dH] rfl rfl (fun q u hq => by rw [WideShapes.add_plain, Nat.zero_add, Lib.cell_of_heap (heap_alloc_new wz _), ← hq, ← List.getElem?_toArray]) (fun u hu => by simp at hu; rcases hu with rfl | rfl | rfl | rfl | rfl | rfl | rfl <;> rfl) Nat.one_pos hMX6 (by omega) (hAL _) _ rfl ?_; intro gb6 cap6 w6 hown6 hgrow hat hlt5; obtain ⟨CM9, bel9, z9, e9⟩ := HI3.out.type (B := wo.heap.size) (t := z) (by omega) (by omega) (Nat.lt_succ_self _) hS5 HTZ3.out (by omega) hB6 hC1 hC4 hown6 hgrow hat; clear hown6 hgrow hat hlt5))
      have INV := Lib.hid CM9
      have INB : Hid (Below W3.heap.size W3 (w6.setCell ⟨w.heap.size + 1 + 1 + 1, 6, none⟩ (.slice (some ⟨gb6, 0, none⟩) (xs.length + 1) cap6))) := Lib.hid (HB3z.out.trans (bel9 _ (by rw [HS3.out]; exact Nat.le_refl _)))
      clear hC1 hown hC4 hi1 hy0 hy1 hy2 hAL bel9 CM9
      go_wp2_with fail
      go_roundw
      case rel => exact ⟨k + 1, ns ++ [s], xs ++ [z], some ⟨gb, 0, none⟩, cap, some ⟨gb6, 0, none⟩, cap6, by omega, by go_num, INV, HPN, INB⟩
      case measure => simp [intOf]; omega
     | false =>
      have hno : NoBnd up x y := by
       rcases hres with ⟨h, -⟩ | ⟨-, h⟩
       ·cases h
       ·exact h
      have HPN : Hid (CmP up a b (k + 1) ns xs) := Lib.hid (HP.out.skip HS.out (fun x' y' hx' hy' => by
       obtain rfl := GA.out.one hx' HAX.out
       obtain rfl := GB.out.one hy' HAY.out
       exact hno))
      clear hXb hres hBx hno hbb
      go_wp2_with fail
      go_roundw
      case rel => exact ⟨k + 1, ns, xs, A5, c5, A6, c6, by omega, by go_num, HI2, HPN, HB3y⟩
      case measure => simp [intOf]; omega
   ·obtain ⟨w4, hw4⟩ : ∃ w4, w4 = w3.alloc (.cells #[.int .i64 0, .string ⟨#[]⟩, .int .i64 0, .string ⟨#[]⟩, .string ⟨#[]⟩, .slice none 0 0, .slice none 0 0] 25) := ⟨_, rfl⟩
    have B4 : Below wo.heap.size wo w4 := by rw [hw4]; exact below_new hb3 _
    have HI2 := Lib.hid (HI.out.keep (Nat.lt_succ_self _) B4)
    have HB3y : Hid (Below W3.heap.size W3 w4) := Lib.hid (below_over HB3O.out B4)
    have HPN : Hid (CmP up a b (k + 1) ns xs) := Lib.hid (HP.out.skip HS.out (fun x' y' hx' hy' => absurd hy' (hno y')))
    have HW4' := Lib.hid hw4
    clear hw4 B4 hb3 hno
    go_upto_region 11 with fail
    rw [← HW4'.out]
    clear HW4'
    go_wp2_with fail
    go_roundw
    case rel => exact ⟨k + 1, ns, xs, A5, c5, A6, c6, by omega, by go_num, HI2, HPN, HB3y⟩
    case measure => simp [intOf]; omega
  ·obtain rfl : k = n := by omega
   have FIN := Lib.hid (HI.out.done rfl (by have h := HP.out; rw [HN.out.1] at h; exact h) (Nat.le_trans (by omega) (Nat.le_refl (w.heap.size + 1 + 1 + 1 + 1))) (r := w.heap.size + 1 + 1) (by omega) (by omega) HW0.out.size (by rw [← HN.out.1]; omega))
   have X7 : wo.heap[w.heap.size + 1 + 1]? = some (.cells #[.int .i64 0, .string ⟨#[]⟩, .int .i64 0, .string ⟨#[]⟩, .string ⟨#[]⟩, .slice none 0 0, .slice none 0 0] 25 (0, 0)) := (HB3O.out.block _ (by rw [HS3.out]; omega)).trans HO2.out
   have HX7' := Lib.hid X7
   have z0 := Lib.cell_of_heap HI.out.box 0
   have z1 := Lib.cell_of_heap HI.out.box 1
   have z2 := Lib.cell_of_heap HI.out.box 2
   have z3 := Lib.cell_of_heap HI.out.box 3
   have z4 := Lib.cell_of_heap HI.out.box 4
   have z5 := Lib.cell_of_heap HI.out.box 5
   have z6 := Lib.cell_of_heap HI.out.box 6
   simp at z0 z1 z2 z3 z4 z5 z6
   go_upto_region 12 with fail
   go_wp2_with (first | ((with_reducible refine wpList_putRow 25 (w.heap.size + 1 + 1) #[.int .i64 a.kind, .string ⟨#[]⟩, .int .i64 0, .string ⟨#[]⟩, .string ⟨#[]⟩, .slice A5 ns.length c5, .slice A6 xs.length c6] _ _ X7 ?_ ?_ ?_ ?_ ?_ ?_); exact tySize; rfl; exact tyOne; (focus (first | (go_simp; done) | rfl)); (focus (first | (go_simp; done) | rfl))))
   exact ret_agg1 (fn := Try.f41) (vs := [.int .i64 a.kind, .string ⟨#[]⟩, .int .i64 0, .string ⟨#[]⟩, .string ⟨#[]⟩, .slice A5 ns.length c5, .slice A6 xs.length c6]) (b := w.heap.size + 1 + 1) rfl rfl Try.underlying25 (by kernel_rfl) (cell7 (setRow_heap _ (w.heap.size + 1 + 1) _ _ _ _ HX7'.out)) rfl FIN.out
end Go.Proofs.Ytcdmgcgjonndpaa

/-  -/
namespace Go.Proofs.Ytcdmgcgjonndpaa
open Go Go.RowKit Go.Shelf
open Go.Sort
open M
def OnOut (w0 : World) (up : Bool) (a b : Ty) (s : ByteArray) (w : World) (e : Ending) (w' : World) : Prop :=
  ∃ (l : List Value) (q : Bool), e = .returned (.tuple #[.agg l.toArray, .bool q]) ∧ Below w.heap.size w w' ∧ (∃ v, ShL l v) ∧
    ((q = true ∧ ∃ z, UnN up a b s z ∧ TyAt (strike (fun k => w0.heap.size ≤ k ∧ k < w.heap.size) w') l z) ∨ (q = false ∧ ∃ x y, AtN a s x ∧ AtN b s y ∧ NoBnd up x y))
theorem pt_shape {w0 w : World} {t : Ty} {s : ByteArray} {b : Bool} {l : List Value} (h : (b = true ∧ ∃ x, AtN t s x ∧ TyAt w0 l x) ∨ (b = false ∧ l = [.int .i64 0, .string ⟨#[]⟩, .int .i64 0, .string ⟨#[]⟩, .string ⟨#[]⟩, .slice none 0 0, .slice none 0 0] ∧ ∀ y, ¬ AtN t s y)) : ∃ v, ShL l v := by
  rcases h with ⟨-, t, -, hT⟩ | ⟨-, rfl, -⟩
  · obtain ⟨Fn, cF, Fs, dF, rfl, -⟩ := hT.parts
    exact ⟨t, Fn, cF, Fs, dF, rfl⟩
  · exact ⟨zTy, none, 0, none, 0, rfl⟩
set_option maxRecDepth 100000 in
set_option maxHeartbeats 16000000 in
theorem ofName_any (f : FuncId) (up : Bool) (hff : FnIn f) (w0 : World) (a b : Ty) (s : ByteArray) (la lb : List Value) (w : World) (ga : GoodT a) (gb : GoodT b) (hk : a.kind = b.kind) (h56 : a.kind = 5 ∨ a.kind = 6) (h9a : many a ≤ 9000) (h9b : many b ≤ 9000) (hs : s ∈ a.names ∨ s ∈ b.names) (hTa : TyAt w0 la a) (hTb : TyAt w0 lb b) (hw0 : Below w0.heap.size w0 w)
    (IHf : ∀ x y, x ∈ a.subs → y ∈ b.subs → BdCall w0 f up x y) :
    Calls Try.prog 53 #[.agg la.toArray, .agg lb.toArray, .string s, .func (.func f) #[] #[]] w (OnOut w0 up a b s w) := by
  have HTa := Lib.hid hTa
  have HTb := Lib.hid hTb
  have HFF := Lib.hid hff
  have HW0 := Lib.hid hw0
  have GA := Lib.hid ga
  have GB := Lib.hid gb
  obtain ⟨An, cA, As, cS, rfl, -⟩ := hTa.parts
  obtain ⟨Bn, cB, Bs, cD, rfl, -⟩ := hTb.parts
  have HIF := Lib.hid IHf
  have h56b : b.kind = 5 ∨ b.kind = 6 := by rw [← hk]; exact h56
  have HPA : Hid (a.subs.length = a.names.length ∧ a.names.length ≤ 1000000) := Lib.hid ⟨(ga.row h56).2.1, by have := row_small ga h56 h9a; omega⟩
  have HPB : Hid (b.subs.length = b.names.length ∧ b.names.length ≤ 1000000) := Lib.hid ⟨(gb.row h56b).2.1, by have := row_small gb h56b h9b; omega⟩
  have HIN : Hid ((∃ x, AtN a s x) ∨ ∃ y, AtN b s y) := Lib.hid (hs.imp (ga.has h56) (gb.has h56b))
  obtain ⟨W2, hW2, B2, O0, O1, hl2⟩ := two_boxes w #[.int .i64 a.kind, .string a.pkg, .int .i64 a.major, .string a.mod, .string a.name, .slice An a.names.length cA, .slice As a.subs.length cS] #[.int .i64 b.kind, .string b.pkg, .int .i64 b.major, .string b.mod, .string b.name, .slice Bn b.names.length cB, .slice Bs b.subs.length cD] 25 25
  have s2 : W2.heap.size = w.heap.size + 1 + 1 := by rw [hW2]; simp
  obtain ⟨W3, hW3⟩ : ∃ W3, W3 = W2.alloc (.cells #[.int .i64 0, .string ⟨#[]⟩, .int .i64 0, .string ⟨#[]⟩, .string ⟨#[]⟩, .slice none 0 0, .slice none 0 0] 25) := ⟨_, rfl⟩
  have B3 : Below W2.heap.size W2 W3 := by rw [hW3]; exact below_new (Below.refl _ _) _
  have s3 : W3.heap.size = w.heap.size + 1 + 1 + 1 := by rw [hW3]; simp [s2]
  have O2 : W3.heap[w.heap.size + 1 + 1]? = some (.cells #[.int .i64 0, .string ⟨#[]⟩, .int .i64 0, .string ⟨#[]⟩, .string ⟨#[]⟩, .slice none 0 0, .slice none 0 0] 25 (0, 0)) := by rw [hW3, ← s2]; exact heap_alloc_new W2 _
  have HB3 : Hid (Below w.heap.size w W3) := Lib.hid (below_over B2 B3)
  have X0 : W3.heap[w.heap.size]? = some (.cells #[.int .i64 a.kind, .string a.pkg, .int .i64 a.major, .string a.mod, .string a.name, .slice An a.names.length cA, .slice As a.subs.length cS] 25 (0, 0)) := (B3.block _ (by omega)).trans O0
  have X1 : W3.heap[w.heap.size + 1]? = some (.cells #[.int .i64 b.kind, .string b.pkg, .int .i64 b.major, .string b.mod, .string b.name, .slice Bn b.names.length cB, .slice Bs b.subs.length cD] 25 (0, 0)) := (B3.block _ (by omega)).trans O1
  have HX1 : Hid (∀ wx, Below W3.heap.size W3 wx → wx.heap[w.heap.size + 1]? = some (.cells #[.int .i64 b.kind, .string b.pkg, .int .i64 b.major, .string b.mod, .string b.name, .slice Bn b.names.length cB, .slice Bs b.subs.length cD] 25 (0, 0))) := Lib.hid (fun wx hb => (hb.block _ (by omega)).trans X1)
  have HR : Hid (∀ wx, Below W3.heap.size W3 wx → wx.heap[w.heap.size + 1 + 1]? = some (.cells #[.int .i64 0, .string ⟨#[]⟩, .int .i64 0, .string ⟨#[]⟩, .string ⟨#[]⟩, .slice none 0 0, .slice none 0 0] 25 (0, 0))) := Lib.hid (fun wx hb => (hb.block _ (by omega)).trans O2)
  have HW : Hid (((w.alloc (.cells #[.int .i64 a.kind, .string a.pkg, .int .i64 a.major, .string a.mod, .string a.name, .slice An a.names.length cA, .slice As a.subs.length cS] 25)).alloc (.cells #[.int .i64 b.kind, .string b.pkg, .int .i64 b.major, .string b.mod, .string b.name, .slice Bn b.names.length cB, .slice Bs b.subs.length cD] 25)).alloc (.cells #[.int .i64 0, .string ⟨#[]⟩, .int .i64 0, .string ⟨#[]⟩, .string ⟨#[]⟩, .slice none 0 0, .slice none 0 0] 25) = W3) := Lib.hid (by rw [hW3, hW2])
  have HS3 := Lib.hid s3
  have CP := Lib.hid (part0_any w0 a [.int .i64 a.kind, .string a.pkg, .int .i64 a.major, .string a.mod, .string a.name, .slice An a.names.length cA, .slice As a.subs.length cS] s W3 HTa.out (below_over hw0 HB3.out) ga.rise HPA.out.1 HPA.out.2)
  have m0 := Lib.cell_of_heap X0 0
  have m1 := Lib.cell_of_heap X0 1
  have m2 := Lib.cell_of_heap X0 2
  have m3 := Lib.cell_of_heap X0 3
  have m4 := Lib.cell_of_heap X0 4
  have m5 := Lib.cell_of_heap X0 5
  have m6 := Lib.cell_of_heap X0 6
  simp at m0 m1 m2 m3 m4 m5 m6
  clear hff hW2 hW3 B2 B3 O0 O1 O2 s2 s3 hl2 hTa hTb ga gb hk h56 h56b hw0 X0 X1 hs IHf h9a h9b
  go_enter Try.func53, Try.ntmps53
  go_upto_region 1 with fail
  rw [HW.out]
  clear HW
  go_wp2_with fail
  refine CP.out.mono ?_; rintro e w4 ⟨l1, q1, rfl, hb4, hc1⟩
  clear CP m0 m1 m2 m3 m4 m5 m6
  obtain ⟨x, Fn, cF, Fs, dF, rfl⟩ := pt_shape (w := w) hc1
  obtain ⟨w5, hw5⟩ : ∃ w5, w5 = w4.alloc (.cells #[.int .i64 x.kind, .string x.pkg, .int .i64 x.major, .string x.mod, .string x.name, .slice Fn x.names.length cF, .slice Fs x.subs.length dF] 25) := ⟨_, rfl⟩
  have B5 : Below W3.heap.size W3 w5 := by rw [hw5]; exact below_new hb4 _
  have s5 : w5.heap.size = w4.heap.size + 1 := by rw [hw5]; simp
  have hs4 : W3.heap.size ≤ w4.heap.size := hb4.size
  have Y5 : w5.heap[w4.heap.size]? = some (.cells #[.int .i64 x.kind, .string x.pkg, .int .i64 x.major, .string x.mod, .string x.name, .slice Fn x.names.length cF, .slice Fs x.subs.length dF] 25 (0, 0)) := by rw [hw5]; exact heap_alloc_new w4 _
  have HX5 : Hid (∀ wx, Below w5.heap.size w5 wx → wx.heap[w4.heap.size]? = some (.cells #[.int .i64 x.kind, .string x.pkg, .int .i64 x.major, .string x.mod, .string x.name, .slice Fn x.names.length cF, .slice Fs x.subs.length dF] 25 (0, 0))) := Lib.hid (fun wx hb => (hb.block _ (by omega)).trans Y5)
  have HW5 := Lib.hid hw5
  have HB5 := Lib.hid B5
  have HC1 := Lib.hid hc1
  have HS4 := Lib.hid hs4
  have X1 := HX1.out w5 B5
  have m0 := Lib.cell_of_heap X1 0
  have m1 := Lib.cell_of_heap X1 1
  have m2 := Lib.cell_of_heap X1 2
  have m3 := Lib.cell_of_heap X1 3
  have m4 := Lib.cell_of_heap X1 4
  have m5 := Lib.cell_of_heap X1 5
  have m6 := Lib.cell_of_heap X1 6
  simp at m0 m1 m2 m3 m4 m5 m6
  have CP := Lib.hid (part0_any w0 b [.int .i64 b.kind, .string b.pkg, .int .i64 b.major, .string b.mod, .string b.name, .slice Bn b.names.length cB, .slice Bs b.subs.length cD] s w5 HTb.out (below_over HW0.out (below_over HB3.out B5)) GB.out.rise HPB.out.1 HPB.out.2)
  clear hw5 hb4 hc1 B5 Y5 X1 hs4 s5
  go_upto_region 2 with fail
  rw [← HW5.out]
  clear HW5
  go_wp2_with fail
  refine CP.out.mono ?_; rintro e w6 ⟨l2, q2, rfl, hb6, hc2⟩
  clear CP m0 m1 m2 m3 m4 m5 m6
  obtain ⟨y, Gn, cG, Gs, dG, rfl⟩ := pt_shape (w := w) hc2
  obtain ⟨w7, hw7⟩ : ∃ w7, w7 = w6.alloc (.cells #[.int .i64 y.kind, .string y.pkg, .int .i64 y.major, .string y.mod, .string y.name, .slice Gn y.names.length cG, .slice Gs y.subs.length dG] 25) := ⟨_, rfl⟩
  have B7 : Below w5.heap.size w5 w7 := by rw [hw7]; exact below_new hb6 _
  have s7 : w7.heap.size = w6.heap.size + 1 := by rw [hw7]; simp
  have hs6 : w5.heap.size ≤ w6.heap.size := hb6.size
  have Y7 : w7.heap[w6.heap.size]? = some (.cells #[.int .i64 y.kind, .string y.pkg, .int .i64 y.major, .string y.mod, .string y.name, .slice Gn y.names.length cG, .slice Gs y.subs.length dG] 25 (0, 0)) := by rw [hw7]; exact heap_alloc_new w6 _
  have HB37 : Hid (Below W3.heap.size W3 w7) := Lib.hid (below_over HB5.out B7)
  have HW7 := Lib.hid hw7
  have HC2 := Lib.hid hc2
  have X5 := HX5.out w7 B7
  have m0 := Lib.cell_of_heap X5 0
  have m1 := Lib.cell_of_heap X5 1
  have m2 := Lib.cell_of_heap X5 2
  have m3 := Lib.cell_of_heap X5 3
  have m4 := Lib.cell_of_heap X5 4
  have m5 := Lib.cell_of_heap X5 5
  have m6 := Lib.cell_of_heap X5 6
  have n0 := Lib.cell_of_heap Y7 0
  have n1 := Lib.cell_of_heap Y7 1
  have n2 := Lib.cell_of_heap Y7 2
  have n3 := Lib.cell_of_heap Y7 3
  have n4 := Lib.cell_of_heap Y7 4
  have n5 := Lib.cell_of_heap Y7 5
  have n6 := Lib.cell_of_heap Y7 6
  simp at m0 m1 m2 m3 m4 m5 m6 n0 n1 n2 n3 n4 n5 n6
  have X7 := HR.out w7 HB37.out
  have HX7 := Lib.hid X7
  have HWW : Hid (Below w.heap.size w w7) := Lib.hid (below_over HB3.out HB37.out)
  have hrb : w.heap.size ≤ w.heap.size + 1 + 1 := by omega
  clear hw7 hb6 hc2 B7 Y7 X5 hs6 s7
  cases q2 with
  | false =>
    have hno : ∀ y, ¬ AtN b s y := by
      rcases HC2.out with ⟨h, -⟩ | ⟨-, -, h⟩
      · cases h
      · exact h
    obtain ⟨x', hax, hTx⟩ : ∃ x', AtN a s x' ∧ TyAt w0 [.int .i64 x.kind, .string x.pkg, .int .i64 x.major, .string x.mod, .string x.name, .slice Fn x.names.length cF, .slice Fs x.subs.length dF] x' := by
      rcases HC1.out with ⟨-, x', h1, h2⟩ | ⟨-, -, h⟩
      · exact ⟨x', h1, h2⟩
      · rcases HIN.out with ⟨x', hx'⟩ | ⟨y', hy'⟩
        · exact absurd hx' (h x')
        · exact absurd hy' (hno y')
    have FIN : Hid (OnOut w0 up a b s w (.returned (.tuple #[.agg #[.int .i64 x.kind, .string x.pkg, .int .i64 x.major, .string x.mod, .string x.name, .slice Fn x.names.length cF, .slice Fs x.subs.length dF], .bool true])) (w7.setRow (w.heap.size + 1 + 1) #[.int .i64 x.kind, .string x.pkg, .int .i64 x.major, .string x.mod, .string x.name, .slice Fn x.names.length cF, .slice Fs x.subs.length dF])) := Lib.hid
      ⟨[.int .i64 x.kind, .string x.pkg, .int .i64 x.major, .string x.mod, .string x.name, .slice Fn x.names.length cF, .slice Fs x.subs.length dF], true, rfl, setRow_below HWW.out hrb _, ⟨x, Fn, cF, Fs, dF, rfl⟩, .inl ⟨rfl, x', .inr (.inl ⟨hax, hno⟩), hTx.base (below_over HW0.out (setRow_below HWW.out hrb _)) (fun k hk => hk.1)⟩⟩
    clear hno hax hTx
    go_upto_region 4 with fail
    rw [← HW7.out]
    clear HW7
    go_wp2_with (first | ((with_reducible refine wpList_putRow 25 (w.heap.size + 1 + 1) #[.int .i64 x.kind, .string x.pkg, .int .i64 x.major, .string x.mod, .string x.name, .slice Fn x.names.length cF, .slice Fs x.subs.length dF] _ _ X7 ?_ ?_ ?_ ?_ ?_ ?_); exact tySize; rfl; exact tyOne; (focus (first | (go_simp; done) | rfl)); (focus (first | (go_simp; done) | rfl))))
    exact ret_agg (fn := Try.f53) (vs := [.int .i64 x.kind, .string x.pkg, .int .i64 x.major, .string x.mod, .string x.name, .slice Fn x.names.length cF, .slice Fs x.subs.length dF]) (b := w.heap.size + 1 + 1) rfl rfl rfl Try.underlying25 (by kernel_rfl) (cell7 (setRow_heap _ (w.heap.size + 1 + 1) _ _ _ _ HX7.out)) rfl FIN.out
  | true =>
    obtain ⟨y', hay, hTy⟩ : ∃ y', AtN b s y' ∧ TyAt w0 [.int .i64 y.kind, .string y.pkg, .int .i64 y.major, .string y.mod, .string y.name, .slice Gn y.names.length cG, .slice Gs y.subs.length dG] y' := by
      rcases HC2.out with ⟨-, y', h1, h2⟩ | ⟨h, -⟩
      · exact ⟨y', h1, h2⟩
      · cases h
    cases q1 with
    | false =>
      have hno : ∀ x, ¬ AtN a s x := by
        rcases HC1.out with ⟨h, -⟩ | ⟨-, -, h⟩
        · cases h
        · exact h
      have FIN : Hid (OnOut w0 up a b s w (.returned (.tuple #[.agg #[.int .i64 y.kind, .string y.pkg, .int .i64 y.major, .string y.mod, .string y.name, .slice Gn y.names.length cG, .slice Gs y.subs.length dG], .bool true])) (w7.setRow (w.heap.size + 1 + 1) #[.int .i64 y.kind, .string y.pkg, .int .i64 y.major, .string y.mod, .string y.name, .slice Gn y.names.length cG, .slice Gs y.subs.length dG])) := Lib.hid
        ⟨[.int .i64 y.kind, .string y.pkg, .int .i64 y.major, .string y.mod, .string y.name, .slice Gn y.names.length cG, .slice Gs y.subs.length dG], true, rfl, setRow_below HWW.out hrb _, ⟨y, Gn, cG, Gs, dG, rfl⟩, .inl ⟨rfl, y', .inr (.inr ⟨hay, hno⟩), hTy.base (below_over HW0.out (setRow_below HWW.out hrb _)) (fun k hk => hk.1)⟩⟩
      clear hno hay hTy
      go_upto_region 6 with fail
      rw [← HW7.out]
      clear HW7
      go_wp2_with (first | ((with_reducible refine wpList_putRow 25 (w.heap.size + 1 + 1) #[.int .i64 y.kind, .string y.pkg, .int .i64 y.major, .string y.mod, .string y.name, .slice Gn y.names.length cG, .slice Gs y.subs.length dG] _ _ X7 ?_ ?_ ?_ ?_ ?_ ?_); exact tySize; rfl; exact tyOne; (focus (first | (go_simp; done) | rfl)); (focus (first | (go_simp; done) | rfl))))
      exact ret_agg (fn := Try.f53) (vs := [.int .i64 y.kind, .string y.pkg, .int .i64 y.major, .string y.mod, .string y.name, .slice Gn y.names.length cG, .slice Gs y.subs.length dG]) (b := w.heap.size + 1 + 1) rfl rfl rfl Try.underlying25 (by kernel_rfl) (cell7 (setRow_heap _ (w.heap.size + 1 + 1) _ _ _ _ HX7.out)) rfl FIN.out
    | true =>
      obtain ⟨x', hax, hTx⟩ : ∃ x', AtN a s x' ∧ TyAt w0 [.int .i64 x.kind, .string x.pkg, .int .i64 x.major, .string x.mod, .string x.name, .slice Fn x.names.length cF, .slice Fs x.subs.length dF] x' := by
        rcases HC1.out with ⟨-, x', h1, h2⟩ | ⟨h, -⟩
        · exact ⟨x', h1, h2⟩
        · cases h
      have CT := Lib.hid (HIF.out x' y' hax.sub hay.sub [.int .i64 x.kind, .string x.pkg, .int .i64 x.major, .string x.mod, .string x.name, .slice Fn x.names.length cF, .slice Fs x.subs.length dF] [.int .i64 y.kind, .string y.pkg, .int .i64 y.major, .string y.mod, .string y.name, .slice Gn y.names.length cG, .slice Gs y.subs.length dG] w7 hTx hTy (below_over HW0.out HWW.out))
      have HAX := Lib.hid hax
      have HAY := Lib.hid hay
      have HS37 := Lib.hid (And.intro HS3.out HB37.out.size)
      clear hax hay hTx hTy X7
      go_upto_region 7 with fail
      rw [← HW7.out]
      clear HW7
      go_wp2_with (first | (rw [HFF.out, Oper.upon_enter]; refine CT.out.mono ?_))
      rintro e w8 ⟨l3, q3, rfl, hb8, hc3⟩
      obtain ⟨v, Hn, cH, Hs, dH, rfl⟩ := bd_shape hc3
      have X7 := HR.out w8 (below_over HB37.out hb8)
      have HX8 := Lib.hid X7
      have HWW8 : Hid (Below w.heap.size w w8) := Lib.hid (below_over HWW.out hb8)
      have FIN : Hid (OnOut w0 up a b s w (.returned (.tuple #[.agg #[.int .i64 v.kind, .string v.pkg, .int .i64 v.major, .string v.mod, .string v.name, .slice Hn v.names.length cH, .slice Hs v.subs.length dH], .bool q3])) (w8.setRow (w.heap.size + 1 + 1) #[.int .i64 v.kind, .string v.pkg, .int .i64 v.major, .string v.mod, .string v.name, .slice Hn v.names.length cH, .slice Hs v.subs.length dH])) := Lib.hid (by
        refine ⟨[.int .i64 v.kind, .string v.pkg, .int .i64 v.major, .string v.mod, .string v.name, .slice Hn v.names.length cH, .slice Hs v.subs.length dH], q3, rfl, setRow_below HWW8.out hrb _, ⟨v, Hn, cH, Hs, dH, rfl⟩, ?_⟩
        have h37 := HS37.out
        rcases hc3 with ⟨h1, z, h2, hT⟩ | ⟨h1, -, h2⟩
        · refine .inl ⟨h1, z, .inl ⟨x', y', HAX.out, HAY.out, h2⟩, hT.move (by rw [size_setRow]; exact Nat.le_refl _) fun k hk hS => ⟨fun e => hS ⟨e.1, by omega⟩, setRow_other _ _ _ _ (fun e => hS ⟨by have := (below_over HW0.out HB3.out).size; have := HW0.out.size; omega, by omega⟩)⟩⟩
        · exact .inr ⟨h1, x', y', HAX.out, HAY.out, h2⟩)
      clear hb8 hc3 m0 m1 m2 m3 m4 m5 m6 n0 n1 n2 n3 n4 n5 n6
      go_wp2_with (first | ((with_reducible refine wpList_putRow 25 (w.heap.size + 1 + 1) #[.int .i64 v.kind, .string v.pkg, .int .i64 v.major, .string v.mod, .string v.name, .slice Hn v.names.length cH, .slice Hs v.subs.length dH] _ _ X7 ?_ ?_ ?_ ?_ ?_ ?_); exact tySize; rfl; exact tyOne; (focus (first | (go_simp; done) | rfl)); (focus (first | (go_simp; done) | rfl))))
      exact ret_agg (fn := Try.f53) (vs := [.int .i64 v.kind, .string v.pkg, .int .i64 v.major, .string v.mod, .string v.name, .slice Hn v.names.length cH, .slice Hs v.subs.length dH]) (b := w.heap.size + 1 + 1) rfl rfl rfl Try.underlying25 (by kernel_rfl) (cell7 (setRow_heap _ (w.heap.size + 1 + 1) _ _ _ _ HX8.out)) rfl FIN.out
end Go.Proofs.Ytcdmgcgjonndpaa

/-  -/
namespace Go.Proofs.Ytcdmgcgjonndpaa
open Go Go.RowKit Go.Shelf
open Go.Sort
open M
def OwnU (w : World) (lo : Nat) (v : Value) (l : List ByteArray) : Prop := w.ownsRow lo 9 1 v l.length (l.map .string)
theorem run_append_names {w : World} (base : Nat) (i : TypeInfo) (ty : TypeId) (hi : Try.prog.info? 9 = some i) (hz : i.zero = some (.string ⟨#[]⟩)) (hsize : i.size = 1) (hby : i.bytes = 16)
    (v : Value) (xs : List ByteArray) (hown : OwnU w base v xs) (A : Option Addr) (c : Nat) (l : List ByteArray) (hN : NamesAt w A l) (hm : xs.length + l.length ≤ 100000) (hbase : base ≤ w.heap.size) :
    ∃ v' w', (Builtin.append_ #[22, 22] ty #[v, .slice A l.length c]).run Try.prog w = .ok v' w' ∧ OwnU w' base v' (xs ++ l) ∧ w.grownBy w' v.ownBlock := by
  have h63 : xs.length + l.length ≤ maxLen := by unfold maxLen; omega
  have fin : ∀ v' w', w'.ownsRow base 9 1 v' (xs.length + l.length) (xs.map .string ++ l.map .string) → OwnU w' base v' (xs ++ l) := fun v' w' h => by
    unfold OwnU
    rw [List.length_append, List.map_append]
    exact h
  cases A with
  | none =>
    have h0 : l = [] := by
      cases l with
      | nil => rfl
      | cons s r =>
        obtain ⟨g, o, hA, -⟩ := hN 0 s rfl
        cases hA
    subst h0
    exact ⟨v, w, run_append_empty base 22 ty 9 i 1 Try.underlying22 hi v xs.length c _ hown, by rw [List.append_nil]; exact hown, ⟨rfl, rfl, rfl, Nat.le_refl _, fun _ _ _ => rfl⟩⟩
  | some ad =>
    obtain ⟨v', w', hr, h2, h3, -, -⟩ := run_append_own_at (P := Try.prog) w base 22 ty 9 i (.string ⟨#[]⟩) 1 16 Try.underlying22 hi hz hsize hby (by rfl) (Nat.zero_lt_succ 0) v xs.length _ hown ad l.length c (l.map .string) (by simp) (fun j u hj => by
      rw [List.getElem?_map] at hj
      cases hs : l[j]? with
      | none => rw [hs] at hj; cases hj
      | some s =>
        rw [hs] at hj
        simp at hj
        obtain ⟨g, o, hA, hg, hc, -⟩ := hN j s hs
        cases hA
        rw [WideShapes.add_plain, hc, ← hj]) (fun u hu => by
      obtain ⟨s, -, rfl⟩ := List.mem_map.1 hu
      rfl) h63 (by omega) hbase
    exact ⟨v', w', hr, fin _ _ h2, h3⟩
set_option maxRecDepth 100000 in
set_option maxHeartbeats 8000000 in
theorem grow_any (k : Nat) (w : World) (hk : k ≤ 100000) :
    Calls Try.prog 65 #[.slice none 0 0, .int .i64 k] w fun e w' => ∃ v, e = .returned v ∧ OwnU w' w.heap.size v [] ∧ Below w.heap.size w w' := by
  have e0 : ¬ ((k : Int) < 0) := by omega
  have wr : IntKind.i64.wrap (k : Int) = k := by rw [IntKind.wrap_i64]; omega
  rcases Nat.eq_zero_or_pos k with h0 | h0
  · subst h0
    go_enter Try.func65, Try.ntmps65
    go_wp2_with fail
    go_ret
    exact ⟨_, rfl, World.ownsRow_nil _ _ _ _, Below.refl _ _⟩
  · obtain ⟨i0, hi, hz0, hz1, hz2⟩ := info_parts str_info9
    have hr := fun ty => Lib.run_append_nil_zeros (P := Try.prog) w 22 3 ty 9 i0 (.string ⟨#[]⟩) .i64 .i64 Try.underlying22 Try.underlying3 hi hz0 k h0 (by rw [hz1]; exact Nat.one_pos) (by omega) (by rw [hz2]; omega)
    have hge := grownCap_ge w k 0 9
    have hle := grownCap_le_maxLen w k 0 9 (by unfold maxLen; omega)
    obtain ⟨cap, hcap⟩ : ∃ cap, cap = grownCap w k 0 9 := ⟨_, rfl⟩
    rw [← hcap] at hge hle hr
    obtain ⟨W, hW⟩ : ∃ W, W = w.drew.alloc (.cells (Builtin.zeroCells (Value.cells (.string ⟨#[]⟩)) k ++ Builtin.zeroCells (Value.cells (.string ⟨#[]⟩)) (cap - k)) 9) := ⟨_, rfl⟩
    have HR : Hid (∀ ty, (Builtin.append_ #[22, 3] ty #[.slice none 0 0, .int .i64 k]).run Try.prog w = .ok (.slice (some ⟨w.heap.size, 0, none⟩) k cap) W) := Lib.hid (fun ty => by rw [hW]; exact hr ty)
    have FIN : Hid (OwnU W w.heap.size (.slice (some ⟨w.heap.size, 0, none⟩) 0 cap) [] ∧ Below w.heap.size w W) := Lib.hid (by
      rw [hW]
      refine ⟨World.ownsRow_made (base := w.heap.size) (e := 9) (size := 1) w.drew _ cap (Nat.le_refl _) hle ?_, below_new (Below.drew (Below.refl _ _)) _⟩
      simp [Builtin.zeroCells, Value.cells]
      omega)
    have hkp : (k : Int) > 0 := by omega
    have hkp2 : (0 : Int) < k := by omega
    clear hr hW hcap hi hz0 hz1 hz2
    go_enter Try.func65, Try.ntmps65
    go_wp2_with (first | (at_builtin; go_loud (refine Lib.wpList_append_run _ rfl _ _ _ _ rfl _ _ rfl rfl _ _ (HR.out _) ?_)))
    go_ret
    exact ⟨_, rfl, FIN.out.1, FIN.out.2⟩
end Go.Proofs.Ytcdmgcgjonndpaa

/-  -/
namespace Go.Proofs.Ytcdmgcgjonndpaa
open Go Go.RowKit Go.Shelf
open Go.Sort
open M
set_option maxRecDepth 100000 in
set_option maxHeartbeats 8000000 in
theorem concat_any (w : World) (gs : Nat) (An : Option Addr) (na cA : Nat) (Bn : Option Addr) (nb cB : Nat) (la lb : List ByteArray) (hna : na = la.length) (hnb : nb = lb.length) (hza : na ≤ 20000) (hzb : nb ≤ 20000)
    (c0 : w.cell? ⟨gs, 0, none⟩ = some (.slice An na cA)) (c1 : w.cell? ⟨gs, 1, none⟩ = some (.slice Bn nb cB)) (hNA : NamesAt w An la) (hNB : NamesAt w Bn lb) :
    Calls Try.prog 50 #[.slice (some ⟨gs, 0, none⟩) 2 2] w fun e w' => ∃ v, e = .returned v ∧ OwnU w' w.heap.size v (la ++ lb) ∧ Below w.heap.size w w' := by
  have HNA := Lib.hid hNA
  have HNB := Lib.hid hNB
  have HNN := Lib.hid (And.intro hna hnb)
  have wr0 : IntKind.i64.wrap ((0 : Int) + na) = na := by rw [IntKind.wrap_i64]; omega
  have wr1 : IntKind.i64.wrap ((na : Int) + nb) = ((na + nb : Nat) : Int) := by rw [IntKind.wrap_i64]; omega
  have wr2 : IntKind.i64.wrap ((na : Int)) = na := by rw [IntKind.wrap_i64]; omega
  have hgs : gs < w.heap.size := World.block_lt_of_cell? _ _ c0
  have n0 : ¬ ((na : Int) < 0) := by omega
  have n1 : ¬ (((na + nb : Nat) : Int) < 0) := by omega
  have n2 : ¬ ((na : Int) + (nb : Int) < 0) := by omega
  have C01 := Lib.hid (And.intro c0 c1)
  clear hNA hNB hna hnb
  go_enter Try.func50, Try.ntmps50
  go_wp2_with fail
  go_loopw [3, 11] (fun s3 s11 wr => wr = w ∧ ((s11 = .int .i64 0 ∧ s3 = .int .i64 0) ∨ (s11 = .int .i64 1 ∧ s3 = .int .i64 na) ∨ (s11 = .int .i64 2 ∧ s3 = .int .i64 ((na + nb : Nat) : Int)))) (fun _ s11 _ => 2 - (intOf s11).toNat)
  case atStart => exact ⟨rfl, .inl ⟨rfl, rfl⟩⟩
  case round =>
    obtain ⟨rfl, h⟩ := hrel
    rcases h with ⟨rfl, rfl⟩ | ⟨rfl, rfl⟩ | ⟨rfl, rfl⟩
    · go_wp2_with fail
      go_roundw
      case rel => exact ⟨by trivial, .inr (.inl ⟨by go_num, by go_num⟩)⟩
      case measure => simp [intOf]
    · go_wp2_with fail
      go_roundw
      case rel => exact ⟨by trivial, .inr (.inr ⟨by go_num, by go_num⟩)⟩
      case measure => simp [intOf]
    · have CG := Lib.hid (grow_any (na + nb) wr (by omega))
      clear c0 c1
      go_wp2_with fail
      refine CG.out.mono ?_; rintro e w2 ⟨v, rfl, hO, hB⟩
      have HO := Lib.hid hO
      have HB := Lib.hid hB
      clear CG hO hB
      obtain ⟨wz, rfl⟩ : ∃ wz : World, wz = wr := ⟨_, rfl⟩
      go_wp2_with fail
      go_loopw [6, 27] (fun s6 s27 wr => ∃ (v6 : Value) (l : List ByteArray), v6 = s6 ∧ ((s27 = .int .i64 0 ∧ [] = l) ∨ (s27 = .int .i64 1 ∧ la = l) ∨ (s27 = .int .i64 2 ∧ la ++ lb = l)) ∧ Hid (OwnU wr wz.heap.size v6 l) ∧ Hid (Below wz.heap.size wz wr)) (fun _ s27 _ => 2 - (intOf s27).toNat)
      case atStart => exact ⟨_, [], rfl, .inl ⟨rfl, rfl⟩, HO, HB⟩
      case round =>
        obtain ⟨v0, l, rfl, h, HO2, HB2⟩ := hrel
        obtain ⟨wo, rfl⟩ : ∃ wo : World, wo = wr := ⟨_, rfl⟩
        obtain ⟨i0, hi, hz0, hz1, hz2⟩ := info_parts str_info9
        have hgo : wz.heap.size ≤ wo.heap.size := HB2.out.size
        rcases h with ⟨rfl, rfl⟩ | ⟨rfl, rfl⟩ | ⟨rfl, rfl⟩
        · have d0 : wo.cell? ⟨gs, 0, none⟩ = some (.slice An na cA) := (HB2.out.cell (p := ⟨gs, 0, none⟩) hgs).trans C01.out.1
          obtain ⟨v', w3, hr, hO3, hg3⟩ := run_append_names (w := wo) wz.heap.size i0 22 hi hz0 hz1 hz2 v0 [] HO2.out An cA la (HNA.out.below HB2.out) (by have := HNN.out; simp; omega) hgo
          rw [← HNN.out.1] at hr
          have HR := Lib.hid hr
          have INV : Hid (OwnU w3 wz.heap.size v' la) := Lib.hid hO3
          have INB : Hid (Below wz.heap.size wz w3) := Lib.hid (below_grown HB2.out hgo HO2.out hg3)
          clear hr hO3 hg3
          go_wp2_with (first | (at_builtin; go_loud (refine Lib.wpList_append_run _ rfl _ _ _ _ rfl _ _ rfl rfl _ _ HR.out ?_)))
          go_roundw
          case rel => exact ⟨v', la, rfl, .inr (.inl ⟨by go_num, rfl⟩), INV, INB⟩
          case measure => simp [intOf]
        · have d0 : wo.cell? ⟨gs, 1, none⟩ = some (.slice Bn nb cB) := (HB2.out.cell (p := ⟨gs, 1, none⟩) hgs).trans C01.out.2
          obtain ⟨v', w3, hr, hO3, hg3⟩ := run_append_names (w := wo) wz.heap.size i0 22 hi hz0 hz1 hz2 v0 la HO2.out Bn cB lb (HNB.out.below HB2.out) (by have := HNN.out; omega) hgo
          rw [← HNN.out.2] at hr
          have HR := Lib.hid hr
          have INV : Hid (OwnU w3 wz.heap.size v' (la ++ lb)) := Lib.hid hO3
          have INB : Hid (Below wz.heap.size wz w3) := Lib.hid (below_grown HB2.out hgo HO2.out hg3)
          clear hr hO3 hg3
          go_wp2_with (first | (at_builtin; go_loud (refine Lib.wpList_append_run _ rfl _ _ _ _ rfl _ _ rfl rfl _ _ HR.out ?_)))
          go_roundw
          case rel => exact ⟨v', la ++ lb, rfl, .inr (.inr ⟨by go_num, rfl⟩), INV, INB⟩
          case measure => simp [intOf]
        · go_wp2_with fail
          go_ret
          exact ⟨_, rfl, HO2.out, HB2.out⟩
end Go.Proofs.Ytcdmgcgjonndpaa
