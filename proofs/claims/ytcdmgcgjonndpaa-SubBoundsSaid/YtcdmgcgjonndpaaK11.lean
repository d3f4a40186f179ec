/-
  
-/
import Derived.Test.YtcdmgcgjonndpaaK10
import Derived.Deep.DeepCutAuto
namespace Go.Proofs.Ytcdmgcgjonndpaa
open Go Go.RowKit Go.Shelf
open Go.Sort
open M
def FnIn (f : FuncId) : Prop := ∀ (args : Array Value) (w : World), Sem.run Try.prog (callFunc f args) w = .ok (.enter f args) w
theorem PwI.keep {w0 w : World} {up : Bool} {a b : Ty} {xs : List Ty} {A6 : Option Addr} {c6 : Nat} {wr wr' : World} (h : PwI w0 w up a b xs A6 c6 wr) (hs : w.heap.size + 1 + 1 + 1 + 1 ≤ wr.heap.size) (hb : Below wr.heap.size wr wr') : PwI w0 w up a b xs A6 c6 wr' :=
 ⟨below_over h.below hb, (hb.block _ (by omega)).trans h.box, h.rows.keep hb.size (fun b hb' => hb.block _ (h.rows.lt hb').2) (fun b h1 h2 h3 => ⟨h1, hb.block _ h3⟩), h.bnd⟩
theorem bnd_snoc {up : Bool} {a b : Ty} {xs : List Ty} {x y z : Ty} (h : ∀ (i : Nat) (x y z : Ty), a.subs[i]? = some x → b.subs[i]? = some y → xs[i]? = some z → IsBnd (if i + 1 = a.subs.length then up else !up) x y z) (hx : a.subs[xs.length]? = some x) (hy : b.subs[xs.length]? = some y) (hz : IsBnd (if xs.length + 1 = a.subs.length then up else !up) x y z) :
  ∀ (i : Nat) (x y z' : Ty), a.subs[i]? = some x → b.subs[i]? = some y → (xs ++ [z])[i]? = some z' → IsBnd (if i + 1 = a.subs.length then up else !up) x y z' := fun i x' y' z' h1 h2 h3 => by
 rcases Nat.lt_or_ge i xs.length with c | c
 ·rw [List.getElem?_append_left c] at h3
  exact h i x' y' z' h1 h2 h3
 ·have hi := (List.getElem?_eq_some_iff.1 h3).1
  have : i = xs.length := by simp at hi; omega
  subst this
  rw [List.getElem?_append_right (Nat.le_refl _)] at h3
  simp at h3
  subst h3
  rw [hx] at h1; rw [hy] at h2
  cases h1; cases h2
  exact hz
set_option maxRecDepth 100000 in
set_option maxHeartbeats 16000000 in
theorem partwise_any (f g : FuncId) (up : Bool) (hff : FnIn f) (hgf : FnIn g) (w0 : World) (a b : Ty) (la lb : List Value) (w : World) (ga : GoodT a) (gb : GoodT b) (hk : a.kind = b.kind) (h47 : a.kind = 4 ∨ a.kind = 7) (h9a : many a ≤ 9000) (hTa : TyAt w0 la a) (hTb : TyAt w0 lb b) (hw0 : Below w0.heap.size w0 w)
  (IHf : ∀ x y, x ∈ a.subs → y ∈ b.subs → BdCall w0 f up x y) (IHg : ∀ x y, x ∈ a.subs → y ∈ b.subs → BdCall w0 g (!up) x y) :
  Calls Try.prog 43 #[.agg la.toArray, .agg lb.toArray, .func (.func f) #[] #[], .func (.func g) #[] #[]] w (BdOut w0 up a b w) := by
 have HTa := Lib.hid hTa
 have HFF := Lib.hid hff
 have HGF := Lib.hid hgf
 clear hff hgf
 have HTb := Lib.hid hTb
 have HW0 := Lib.hid hw0
 have GA := Lib.hid ga
 have HKK := Lib.hid (And.intro hk h47)
 have hpos := (ga.parts h47).2.2.1
 obtain ⟨An, cA, As, cS, rfl, -, -, -, -, -, -, hSa⟩ := hTa.parts
 obtain ⟨Bn, cB, Bs, cD, rfl, -, -, -, -, -, -, hSb⟩ := hTb.parts
 have HSA := Lib.hid hSa
 have HSB := Lib.hid hSb
 have HIF := Lib.hid IHf
 have HIG := Lib.hid IHg
 obtain ⟨n, hn⟩ : ∃ n, n = a.subs.length := ⟨_, rfl⟩
 obtain ⟨m, hm⟩ : ∃ m, m = b.subs.length := ⟨_, rfl⟩
 have hn9 : n ≤ 9000 := by have h2 := manyL_len a.subs; have h3 := manyL_eq a; omega
 have hn0 : 0 < n := by omega
 obtain ⟨W2, hW2, B2, O0, O1, hl2⟩ := two_boxes w #[.int .i64 a.kind, .string a.pkg, .int .i64 a.major, .string a.mod, .string a.name, .slice An a.names.length cA, .slice As a.subs.length cS] #[.int .i64 b.kind, .string b.pkg, .int .i64 b.major, .string b.mod, .string b.name, .slice Bn b.names.length cB, .slice Bs b.subs.length cD] 25 25
 have s2 : W2.heap.size = w.heap.size + 1 + 1 := by rw [hW2]; simp
 obtain ⟨W3, hW3⟩ : ∃ W3, W3 = W2.alloc (.cells #[.int .i64 0, .string ⟨#[]⟩, .int .i64 0, .string ⟨#[]⟩, .string ⟨#[]⟩, .slice none 0 0, .slice none 0 0] 25) := ⟨_, rfl⟩
 have B3 : Below W2.heap.size W2 W3 := by rw [hW3]; exact below_new (Below.refl _ _) _
 have s3 : W3.heap.size = w.heap.size + 1 + 1 + 1 := by rw [hW3]; simp [s2]
 have O2 : W3.heap[w.heap.size + 1 + 1]? = some (.cells #[.int .i64 0, .string ⟨#[]⟩, .int .i64 0, .string ⟨#[]⟩, .string ⟨#[]⟩, .slice none 0 0, .slice none 0 0] 25 (0, 0)) := by rw [hW3, ← s2]; exact heap_alloc_new W2 _
 have HB3 : Hid (Below w.heap.size w W3) := Lib.hid (below_over B2 B3)
 have X0 : W3.heap[w.heap.size]? = some (.cells #[.int .i64 a.kind, .string a.pkg, .int .i64 a.major, .string a.mod, .string a.name, .slice An a.names.length cA, .slice As a.subs.length cS] 25 (0, 0)) := (B3.block _ (by omega)).trans O0
 have X1 : W3.heap[w.heap.size + 1]? = some (.cells #[.int .i64 b.kind, .string b.pkg, .int .i64 b.major, .string b.mod, .string b.name, .slice Bn b.names.length cB, .slice Bs b.subs.length cD] 25 (0, 0)) := (B3.block _ (by omega)).trans O1
 have HXC : Hid (∀ wx, Below W3.heap.size W3 wx → wx.cell? ⟨w.heap.size, 6, none⟩ = some (.slice As n cS) ∧ wx.cell? ⟨w.heap.size + 1, 6, none⟩ = some (.slice Bs m cD)) := Lib.hid (fun wx hb => by
  rw [hn, hm]
  exact ⟨Lib.cell_of_heap ((hb.block _ (by omega)).trans X0) 6, Lib.cell_of_heap ((hb.block _ (by omega)).trans X1) 6⟩)
 have HW : Hid (((w.alloc (.cells #[.int .i64 a.kind, .string a.pkg, .int .i64 a.major, .string a.mod, .string a.name, .slice An a.names.length cA, .slice As a.subs.length cS] 25)).alloc (.cells #[.int .i64 b.kind, .string b.pkg, .int .i64 b.major, .string b.mod, .string b.name, .slice Bn b.names.length cB, .slice Bs b.subs.length cD] 25)).alloc (.cells #[.int .i64 0, .string ⟨#[]⟩, .int .i64 0, .string ⟨#[]⟩, .string ⟨#[]⟩, .slice none 0 0, .slice none 0 0] 25) = W3) := Lib.hid (by rw [hW3, hW2])
 have HO2 := Lib.hid O2
 have HS3 := Lib.hid s3
 have HN := Lib.hid hn
 have HM := Lib.hid hm
 have x0 := Lib.cell_of_heap X0 0
 simp at x0
 obtain ⟨x6, y6⟩ := HXC.out W3 (Below.refl _ _)
 clear hW2 hW3 B2 B3 O0 O1 O2 s2 s3 hl2 hTa hTb ga gb hk h47 hw0 X0 X1 hn hm hSa hSb IHf IHg hpos h9a
 go_enter Try.func43, Try.ntmps43
 go_upto_region 1 with fail
 rw [HW.out]
 clear HW
 have z1 : ((n : Int) == 0) = false := by simp; omega
 have z2 : ¬ (n : Int) = 0 := by omega
 by_cases hnm : n = m
 ·have hnm2 := hnm
  obtain rfl := hnm
  have e1 : ((n : Int) != (n : Int)) = false := by simp
  have e2 : ((n : Int) == (n : Int)) = true := by simp
  have wl : IntKind.i64.wrap ((n : Int) - 1) = ((n - 1 : Nat) : Int) := by rw [IntKind.wrap_i64]; omega
  obtain ⟨L, hL⟩ : ∃ L, L = n - 1 := ⟨_, rfl⟩
  have HL := Lib.hid hL
  rw [← hL] at wl
  have X4 : (W3.alloc (.cells #[.int .i64 0, .string ⟨#[]⟩, .int .i64 0, .string ⟨#[]⟩, .string ⟨#[]⟩, .slice none 0 0, .slice none 0 0] 25)).heap[W3.heap.size]? = some (.cells #[.int .i64 0, .string ⟨#[]⟩, .int .i64 0, .string ⟨#[]⟩, .string ⟨#[]⟩, .slice none 0 0, .slice none 0 0] 25 (0, 0)) := heap_alloc_new W3 _
  obtain ⟨W4, hW4⟩ : ∃ W4, W4 = (W3.alloc (.cells #[.int .i64 0, .string ⟨#[]⟩, .int .i64 0, .string ⟨#[]⟩, .string ⟨#[]⟩, .slice none 0 0, .slice none 0 0] 25)).setRow W3.heap.size #[.int .i64 a.kind, .string ⟨#[]⟩, .int .i64 0, .string ⟨#[]⟩, .string ⟨#[]⟩, .slice none 0 0, .slice none 0 0] := ⟨_, rfl⟩
  have B4 : Below W3.heap.size W3 W4 := by rw [hW4]; exact setRow_below (below_new (Below.refl _ _) _) (Nat.le_refl _) _
  have O4 : W4.heap[w.heap.size + 1 + 1 + 1]? = some (.cells #[.int .i64 a.kind, .string ⟨#[]⟩, .int .i64 0, .string ⟨#[]⟩, .string ⟨#[]⟩, .slice none 0 0, .slice none 0 0] 25 (0, 0)) := by rw [hW4, ← HS3.out]; exact setRow_heap _ _ _ _ _ _ X4
  have START : Hid (PwI w0 w up a b [] none 0 W4) := Lib.hid ⟨below_over HB3.out B4, O4, RowB.start _ _ _ _, fun i x y z _ _ h => by simp at h⟩
  have HB4 := Lib.hid B4
  have HZ4 : Hid (w.heap.size + 1 + 1 + 1 + 1 ≤ W4.heap.size) := Lib.hid (by rw [hW4, size_setRow]; simp [HS3.out])
  have HW4 := Lib.hid hW4
  clear hnm2 hL B4 O4 hW4
  go_upto_region 6 with (first | (((with_reducible refine wpList_putRow 25 (W3.heap.size) #[.int .i64 a.kind, .string ⟨#[]⟩, .int .i64 0, .string ⟨#[]⟩, .string ⟨#[]⟩, .slice none 0 0, .slice none 0 0] _ _ X4 ?_ ?_ ?_ ?_ ?_ ?_); exact tySize; rfl; exact tyOne; (focus (first | (go_simp; done) | rfl)); (focus (first | (go_simp; done) | rfl)))))
  rw [← HW4.out, HS3.out]
  clear X4 HW4 x0 x6 y6
  simp only [Act.put]
  obtain ⟨x6, y6⟩ := HXC.out W4 HB4.out
  go_wp2_with fail
  go_loopw [43] (fun s43 wr => ∃ (xs : List Ty) (A6 : Option Addr) (c6 : Nat), xs.length ≤ n ∧ s43 = .int .i64 xs.length ∧ Hid (PwI w0 w up a b xs A6 c6 wr) ∧ Hid (Below W3.heap.size W3 wr) ∧ Hid (w.heap.size + 1 + 1 + 1 + 1 ≤ wr.heap.size)) (fun s43 _ => n - (intOf s43).toNat)
  case atStart => exact ⟨[], none, 0, by simp, rfl, START, HB4, HZ4⟩
  case round =>
   obtain ⟨xs, A6, c6, hxn, rfl, HI, HB3O, HSZ⟩ := hrel
   obtain ⟨wo, rfl⟩ : ∃ wo : World, wo = wr := ⟨_, rfl⟩
   by_cases hlt : xs.length < n
   ·obtain ⟨x, hx⟩ : ∃ x, a.subs[xs.length]? = some x := at_some (by rw [← HN.out]; exact hlt)
    obtain ⟨y, hy⟩ : ∃ y, b.subs[xs.length]? = some y := at_some (by rw [← HM.out]; exact hlt)
    obtain ⟨g1, o1, v0, v1, v2, v3, v4, v5, v6, rfl, hg1, h0, h1, h2, h3, h4, h5, h6, hx7⟩ := HSA.out xs.length x hx
    obtain ⟨Fn, cF, Fs, dF, rfl, rfl, rfl, rfl, rfl, rfl, rfl⟩ := hx7.seven
    obtain ⟨g2, o2, u0, u1, u2, u3, u4, u5, u6, rfl, hg2, k0, k1, k2, k3, k4, k5, k6, hy7⟩ := HSB.out xs.length y hy
    obtain ⟨Gn, cG, Gs, dG, rfl, rfl, rfl, rfl, rfl, rfl, rfl⟩ := hy7.seven
    have HX7 := Lib.hid hx7
    have HY7 := Lib.hid hy7
    have HXX := Lib.hid (List.mem_of_getElem? hx)
    have HYY := Lib.hid (List.mem_of_getElem? hy)
    have HXA := Lib.hid hx
    have HYA := Lib.hid hy
    have KEEP : Hid (∀ wx, Below wo.heap.size wo wx → (fun wx => (wx.cell? ⟨w.heap.size, 6, none⟩ = some (.slice (some ⟨g1, o1, none⟩) n cS) ∧ wx.cell? ⟨w.heap.size + 1, 6, none⟩ = some (.slice (some ⟨g2, o2, none⟩) n cD)) ∧ (wx.cell? ⟨g1, o1 + xs.length * 7, none⟩ = some (.int .i64 x.kind) ∧ wx.cell? ⟨g1, o1 + xs.length * 7 + 1, none⟩ = some (.string x.pkg) ∧ wx.cell? ⟨g1, o1 + xs.length * 7 + 2, none⟩ = some (.int .i64 x.major) ∧ wx.cell? ⟨g1, o1 + xs.length * 7 + 3, none⟩ = some (.string x.mod) ∧ wx.cell? ⟨g1, o1 + xs.length * 7 + 4, none⟩ = some (.string x.name) ∧ wx.cell? ⟨g1, o1 + xs.length * 7 + 5, none⟩ = some (.slice Fn x.names.length cF) ∧ wx.cell? ⟨g1, o1 + xs.length * 7 + 6, none⟩ = some (.slice Fs x.subs.length dF)) ∧ wx.cell? ⟨g2, o2 + xs.length * 7, none⟩ = some (.int .i64 y.kind) ∧ wx.cell? ⟨g2, o2 + xs.length * 7 + 1, none⟩ = some (.string y.pkg) ∧ wx.cell? ⟨g2, o2 + xs.length * 7 + 2, none⟩ = some (.int .i64 y.major) ∧ wx.cell? ⟨g2, o2 + xs.length * 7 + 3, none⟩ = some (.string y.mod) ∧ wx.cell? ⟨g2, o2 + xs.length * 7 + 4, none⟩ = some (.string y.name) ∧ wx.cell? ⟨g2, o2 + xs.length * 7 + 5, none⟩ = some (.slice Gn y.names.length cG) ∧ wx.cell? ⟨g2, o2 + xs.length * 7 + 6, none⟩ = some (.slice Gs y.subs.length dG)) wx) := Lib.hid (fun wx hb => by
     have hb3 := below_over HB3O.out hb
     have hb0 := below_over HW0.out (below_over HI.out.below hb)
     have t1 := fun (q : Nat) (v : Value) (hv : w0.cell? ⟨g1, q, none⟩ = some v) => (hb0.cell (p := ⟨g1, q, none⟩) hg1).trans hv
     have t2 := fun (q : Nat) (v : Value) (hv : w0.cell? ⟨g2, q, none⟩ = some v) => (hb0.cell (p := ⟨g2, q, none⟩) hg2).trans hv
     exact ⟨HXC.out wx hb3, ⟨t1 _ _ h0, t1 _ _ h1, t1 _ _ h2, t1 _ _ h3, t1 _ _ h4, t1 _ _ h5, t1 _ _ h6⟩, t2 _ _ k0, t2 _ _ k1, t2 _ _ k2, t2 _ _ k3, t2 _ _ k4, t2 _ _ k5, t2 _ _ k6⟩)
    have hk0 : (0 : Int) ≤ xs.length := by omega
    have hk1 : (xs.length : Int) < n := by omega
    clear h0 h1 h2 h3 h4 h5 h6 k0 k1 k2 k3 k4 k5 k6 hx7 hy7 hx hy hg1 hg2 x6 y6
    by_cases hla : xs.length = L
    ·have ql : ((xs.length : Int) == (L : Int)) = true := by rw [hla]; simp
     have HIFE : Hid ((if xs.length + 1 = a.subs.length then up else !up) = up) := Lib.hid (if_pos (by rw [← HN.out, hla, HL.out]; omega))
     clear hla
     have CT := Lib.hid (fun (w' : World) (hb' : Below wo.heap.size wo w') => HIF.out x y HXX.out HYY.out _ _ w' HX7.out HY7.out (below_over HW0.out (below_over HI.out.below hb')))
     go_upto_region 13 with fail
     go_cut [14, 15] (fun s14 s15 wx => ∃ (b0 : Nat) (l1 : List Value) (q : Bool), s14 = .pointer (some ⟨b0, 0, none⟩) ∧ s15 = .bool q ∧ PwR w0 wo (up) x y b0 l1 q wx)
     case first =>
      have hH0 := KEEP.out wo.drew (Below.drew (Below.refl _ _))
      refine AnyX.start (fun wx => (wx.cell? ⟨w.heap.size, 6, none⟩ = some (.slice (some ⟨g1, o1, none⟩) n cS) ∧ wx.cell? ⟨w.heap.size + 1, 6, none⟩ = some (.slice (some ⟨g2, o2, none⟩) n cD)) ∧ (wx.cell? ⟨g1, o1 + xs.length * 7, none⟩ = some (.int .i64 x.kind) ∧ wx.cell? ⟨g1, o1 + xs.length * 7 + 1, none⟩ = some (.string x.pkg) ∧ wx.cell? ⟨g1, o1 + xs.length * 7 + 2, none⟩ = some (.int .i64 x.major) ∧ wx.cell? ⟨g1, o1 + xs.length * 7 + 3, none⟩ = some (.string x.mod) ∧ wx.cell? ⟨g1, o1 + xs.length * 7 + 4, none⟩ = some (.string x.name) ∧ wx.cell? ⟨g1, o1 + xs.length * 7 + 5, none⟩ = some (.slice Fn x.names.length cF) ∧ wx.cell? ⟨g1, o1 + xs.length * 7 + 6, none⟩ = some (.slice Fs x.subs.length dF)) ∧ wx.cell? ⟨g2, o2 + xs.length * 7, none⟩ = some (.int .i64 y.kind) ∧ wx.cell? ⟨g2, o2 + xs.length * 7 + 1, none⟩ = some (.string y.pkg) ∧ wx.cell? ⟨g2, o2 + xs.length * 7 + 2, none⟩ = some (.int .i64 y.major) ∧ wx.cell? ⟨g2, o2 + xs.length * 7 + 3, none⟩ = some (.string y.mod) ∧ wx.cell? ⟨g2, o2 + xs.length * 7 + 4, none⟩ = some (.string y.name) ∧ wx.cell? ⟨g2, o2 + xs.length * 7 + 5, none⟩ = some (.slice Gn y.names.length cG) ∧ wx.cell? ⟨g2, o2 + xs.length * 7 + 6, none⟩ = some (.slice Gs y.subs.length dG)) (fun _ => false) (by kernel_rfl) ?_
      refine AnyX.move (i := 0) (v := ?_) rfl (by kernel_rfl) (by kernel_rfl) (by kernel_rfl) (by kernel_rfl) (fun _ _ _ h => h) (Or.inl ⟨by rfl, ?_⟩) ?_
      rotate_left
      ·(intro wS _; go_simp; try with_reducible rfl)
      simp only [List.getElem_toArray, List.getElem_cons_succ, List.getElem_cons_zero]
      simp only [Act.put, List.setIfInBounds_toArray]
      simp only [List.set_cons_zero, List.set_cons_succ]
      refine AnyX.move (i := 1) (v := ?_) rfl (by kernel_rfl) (by kernel_rfl) (by kernel_rfl) (by kernel_rfl) (fun _ _ _ h => h) (Or.inl ⟨by rfl, ?_⟩) ?_
      rotate_left
      ·(intro wS _; go_simp; try with_reducible rfl)
      simp only [List.getElem_toArray, List.getElem_cons_succ, List.getElem_cons_zero]
      simp only [Act.put, List.setIfInBounds_toArray]
      simp only [List.set_cons_zero, List.set_cons_succ]
      refine AnyX.take (i := 2) (v := ?_) rfl (by kernel_rfl) (by kernel_rfl) (by kernel_rfl) (by kernel_rfl) (by kernel_rfl) (fun _ _ _ h => h) hH0 (Or.inl ⟨by rfl, ?_⟩) ?_
      rotate_left
      ·(intro wS hS; (try obtain ⟨⟨m0, m1⟩, ⟨c0, c1, c2, c3, c4, c5, c6'⟩, d0, d1, d2, d3, d4, d5, d6⟩ := hS); go_simp; try with_reducible rfl)
      simp only [List.getElem_toArray, List.getElem_cons_succ, List.getElem_cons_zero]
      simp only [Act.put, List.setIfInBounds_toArray]
      simp only [List.set_cons_zero, List.set_cons_succ]
      refine AnyX.move (i := 3) (v := ?_) rfl (by kernel_rfl) (by kernel_rfl) (by kernel_rfl) (by kernel_rfl) (fun _ _ _ h => h) (Or.inl ⟨by rfl, ?_⟩) ?_
      rotate_left
      ·(intro wS _; go_simp; try with_reducible rfl)
      simp only [List.getElem_toArray, List.getElem_cons_succ, List.getElem_cons_zero]
      simp only [Act.put, List.setIfInBounds_toArray]
      simp only [List.set_cons_zero, List.set_cons_succ]
      refine AnyX.move (i := 4) (v := ?_) rfl (by kernel_rfl) (by kernel_rfl) (by kernel_rfl) (by kernel_rfl) (fun _ _ _ h => h) (Or.inl ⟨by rfl, ?_⟩) ?_
      rotate_left
      ·(intro wS _; go_simp; try with_reducible rfl)
      simp only [List.getElem_toArray, List.getElem_cons_succ, List.getElem_cons_zero]
      simp only [Act.put, List.setIfInBounds_toArray]
      simp only [List.set_cons_zero, List.set_cons_succ]
      refine AnyX.take (i := 5) (v := ?_) rfl (by kernel_rfl) (by kernel_rfl) (by kernel_rfl) (by kernel_rfl) (by kernel_rfl) (fun _ _ _ h => h) hH0 (Or.inl ⟨by rfl, ?_⟩) ?_
      rotate_left
      ·(intro wS hS; (try obtain ⟨⟨m0, m1⟩, ⟨c0, c1, c2, c3, c4, c5, c6'⟩, d0, d1, d2, d3, d4, d5, d6⟩ := hS); go_simp; try with_reducible rfl)
      simp only [List.getElem_toArray, List.getElem_cons_succ, List.getElem_cons_zero]
      simp only [Act.put, List.setIfInBounds_toArray]
      simp only [List.set_cons_zero, List.set_cons_succ]
      refine AnyX.move (i := 6) (v := ?_) rfl (by kernel_rfl) (by kernel_rfl) (by kernel_rfl) (by kernel_rfl) (fun _ _ _ h => h) (Or.inl ⟨by rfl, ?_⟩) ?_
      rotate_left
      ·(intro wS _; go_simp; try with_reducible rfl)
      simp only [List.getElem_toArray, List.getElem_cons_succ, List.getElem_cons_zero]
      simp only [Act.put, List.setIfInBounds_toArray]
      simp only [List.set_cons_zero, List.set_cons_succ]
      refine AnyX.take (i := 7) (v := ?_) rfl (by kernel_rfl) (by kernel_rfl) (by kernel_rfl) (by kernel_rfl) (by kernel_rfl) (fun _ _ _ h => h) hH0 (Or.inl ⟨by rfl, ?_⟩) ?_
      rotate_left
      ·(intro wS hS; (try obtain ⟨⟨m0, m1⟩, ⟨c0, c1, c2, c3, c4, c5, c6'⟩, d0, d1, d2, d3, d4, d5, d6⟩ := hS); go_simp; try with_reducible rfl)
      simp only [List.getElem_toArray, List.getElem_cons_succ, List.getElem_cons_zero]
      simp only [Act.put, List.setIfInBounds_toArray]
      simp only [List.set_cons_zero, List.set_cons_succ]
      refine AnyX.move (i := 8) (v := ?_) rfl (by kernel_rfl) (by kernel_rfl) (by kernel_rfl) (by kernel_rfl) (fun _ _ _ h => h) (Or.inl ⟨by rfl, ?_⟩) ?_
      rotate_left
      ·(intro wS _; go_simp; try with_reducible rfl)
      simp only [List.getElem_toArray, List.getElem_cons_succ, List.getElem_cons_zero]
      simp only [Act.put, List.setIfInBounds_toArray]
      simp only [List.set_cons_zero, List.set_cons_succ]
      refine AnyX.move (i := 9) (v := ?_) rfl (by kernel_rfl) (by kernel_rfl) (by kernel_rfl) (by kernel_rfl) (fun _ _ _ h => h) (Or.inl ⟨by rfl, ?_⟩) ?_
      rotate_left
      ·(intro wS _; go_simp; try with_reducible rfl)
      simp only [List.getElem_toArray, List.getElem_cons_succ, List.getElem_cons_zero]
      simp only [Act.put, List.setIfInBounds_toArray]
      simp only [List.set_cons_zero, List.set_cons_succ]
      refine AnyX.take (i := 10) (v := ?_) rfl (by kernel_rfl) (by kernel_rfl) (by kernel_rfl) (by kernel_rfl) (by kernel_rfl) (fun _ _ _ h => h) hH0 (Or.inl ⟨by rfl, ?_⟩) ?_
      rotate_left
      ·(intro wS hS; (try obtain ⟨⟨m0, m1⟩, ⟨c0, c1, c2, c3, c4, c5, c6'⟩, d0, d1, d2, d3, d4, d5, d6⟩ := hS); go_simp; try with_reducible rfl)
      simp only [List.getElem_toArray, List.getElem_cons_succ, List.getElem_cons_zero]
      simp only [Act.put, List.setIfInBounds_toArray]
      simp only [List.set_cons_zero, List.set_cons_succ]
      refine AnyX.go2 11 15 (by kernel_rfl) rfl rfl rfl rfl (fun K hK => ?_) (fun K hK => ?_)
      ·simp only [List.getElem_toArray, List.getElem_cons_succ, List.getElem_cons_zero]
       go_simp
       rw [HFF.out, Oper.upon_enter]
       refine (CT.out wo.drew (Below.drew (Below.refl _ _))).mono ?_
       rintro e w2 ⟨l1, q1, rfl, hb2, hres⟩
       have hB2 : Below wo.heap.size wo w2 := Below.trans (Below.drew (Below.refl wo.heap.size wo)) hb2
       have hsh := bd_shape hres
       obtain ⟨v, Hn, cH, Hs, dH, rfl⟩ := hsh
       simp only []
       refine hK.out _ _ (fun hoff _ => KEEP.out w2 hB2) ?_
       clear hK
       try simp only [Act.put, List.setIfInBounds_toArray]
       try simp only [List.set_cons_zero, List.set_cons_succ]
       refine AnyX.move (i := 12) (v := ?_) rfl (by kernel_rfl) (by kernel_rfl) (by kernel_rfl) (by kernel_rfl) (fun _ _ _ h => h) (Or.inl ⟨by rfl, ?_⟩) ?_
       rotate_left
       ·(intro wS _; go_simp; try with_reducible rfl)
       simp only [List.getElem_toArray, List.getElem_cons_succ, List.getElem_cons_zero]
       simp only [Act.put, List.setIfInBounds_toArray]
       simp only [List.set_cons_zero, List.set_cons_succ]
       refine AnyX.move (i := 13) (v := ?_) rfl (by kernel_rfl) (by kernel_rfl) (by kernel_rfl) (by kernel_rfl) (fun _ _ _ h => h) (Or.inl ⟨by rfl, ?_⟩) ?_
       rotate_left
       ·(intro wS _; go_simp; try with_reducible rfl)
       simp only [List.getElem_toArray, List.getElem_cons_succ, List.getElem_cons_zero]
       simp only [Act.put, List.setIfInBounds_toArray]
       simp only [List.set_cons_zero, List.set_cons_succ]
       refine AnyX.move (i := 14) (v := ?_) rfl (by kernel_rfl) (by kernel_rfl) (by kernel_rfl) (by kernel_rfl) (fun _ _ _ h => h) (Or.inl ⟨by rfl, ?_⟩) ?_
       rotate_left
       ·(intro wS _; go_simp; try with_reducible rfl)
       simp only [List.getElem_toArray, List.getElem_cons_succ, List.getElem_cons_zero]
       simp only [Act.put, List.setIfInBounds_toArray]
       simp only [List.set_cons_zero, List.set_cons_succ]
       refine AnyX.go 15 (by kernel_rfl) rfl rfl (fun K hK => ?_)
       simp only [List.getElem_toArray, List.getElem_cons_succ, List.getElem_cons_zero]
       go_simp
       refine hK.out _ _ (fun hoff _ => KEEP.out _ (below_new hB2 _)) ?_
       clear hK
       try simp only [Act.put, List.setIfInBounds_toArray]
       try simp only [List.set_cons_zero, List.set_cons_succ]
       refine AnyX.go 16 (by kernel_rfl) rfl rfl (fun K hK => ?_)
       simp only [List.getElem_toArray, List.getElem_cons_succ, List.getElem_cons_zero]
       refine wp_store_row 25 (.tmp 14) (.tmp 64) rfl w2.heap.size #[.int .i64 v.kind, .string v.pkg, .int .i64 v.major, .string v.mod, .string v.name, .slice Hn v.names.length cH, .slice Hs v.subs.length dH] rfl rfl _ _ (heap_alloc_new w2 _) tySize rfl tyOne ?_
       refine hK.out _ _ (fun hoff _ => KEEP.out _ (setRow_below (below_new hB2 _) hB2.size _)) ?_
       clear hK
       try simp only [Act.put, List.setIfInBounds_toArray]
       try simp only [List.set_cons_zero, List.set_cons_succ]
       refine AnyX.move (i := 17) (v := ?_) rfl (by kernel_rfl) (by kernel_rfl) (by kernel_rfl) (by kernel_rfl) (fun _ _ _ h => h) (Or.inl ⟨by rfl, ?_⟩) ?_
       rotate_left
       ·(intro wS _; go_simp; try with_reducible rfl)
       simp only [List.getElem_toArray, List.getElem_cons_succ, List.getElem_cons_zero]
       simp only [Act.put, List.setIfInBounds_toArray]
       simp only [List.set_cons_zero, List.set_cons_succ]
       refine AnyX.done (by kernel_rfl) ?_ _
       go_wp2_with fail
       go_meet
       exact ⟨_, _, _, rfl, rfl, PwR.made (wa := wo.drew) hb2 hres ⟨v, Hn, cH, Hs, dH, rfl⟩ (below_over HW0.out HI.out.below).size (Nat.le_refl _) hB2.size (.inr (Nat.le_refl _)) (setRow_heap _ _ _ _ _ _ (heap_alloc_new w2 _)) (setRow_below (below_new hB2 _) hB2.size _) (fun y hy hne => (setRow_other _ _ _ _ hne).trans (Lib.alloc_old _ _ _ hy)) (by rw [size_setRow]; simp)⟩
      ·simp only [List.getElem_toArray, List.getElem_cons_succ, List.getElem_cons_zero]
       go_simp
       obtain ⟨wa, hwa⟩ : ∃ wa, wa = (wo.alloc (.cells #[.int .i64 0, .string ⟨#[]⟩, .int .i64 0, .string ⟨#[]⟩, .string ⟨#[]⟩, .slice none 0 0, .slice none 0 0] 25)).drew := ⟨_, rfl⟩
       have Ba : Below wo.heap.size wo wa := by rw [hwa]; exact Below.drew (below_new (Below.refl _ _) _)
       have Xa : wa.heap[wo.heap.size]? = some (.cells #[.int .i64 0, .string ⟨#[]⟩, .int .i64 0, .string ⟨#[]⟩, .string ⟨#[]⟩, .slice none 0 0, .slice none 0 0] 25 (0, 0)) := by rw [hwa]; exact heap_alloc_new wo _
       have sa : wo.heap.size < wa.heap.size := by rw [hwa]; simp
       have hHa := KEEP.out wa Ba
       refine hK.out _ _ (fun _ _ => by rw [hwa] at hHa; exact hHa) ?_
       clear hK
       try simp only [Act.put, List.setIfInBounds_toArray]
       try simp only [List.set_cons_zero, List.set_cons_succ]
       rw [← hwa]
       clear hwa
       refine AnyX.go 11 (by kernel_rfl) rfl rfl (fun K hK => ?_)
       simp only [List.getElem_toArray, List.getElem_cons_succ, List.getElem_cons_zero]
       go_simp
       rw [HFF.out, Oper.upon_enter]
       refine (CT.out wa Ba).mono ?_
       rintro e w2 ⟨l1, q1, rfl, hb2, hres⟩
       have hB2 : Below wo.heap.size wo w2 := below_over Ba hb2
       have hsh := bd_shape hres
       obtain ⟨v, Hn, cH, Hs, dH, rfl⟩ := hsh
       have X2 := (hb2.block _ sa).trans Xa
       simp only []
       refine hK.out _ _ (fun hoff _ => KEEP.out w2 hB2) ?_
       clear hK
       try simp only [Act.put, List.setIfInBounds_toArray]
       try simp only [List.set_cons_zero, List.set_cons_succ]
       refine AnyX.move (i := 12) (v := ?_) rfl (by kernel_rfl) (by kernel_rfl) (by kernel_rfl) (by kernel_rfl) (fun _ _ _ h => h) (Or.inl ⟨by rfl, ?_⟩) ?_
       rotate_left
       ·(intro wS _; go_simp; try with_reducible rfl)
       simp only [List.getElem_toArray, List.getElem_cons_succ, List.getElem_cons_zero]
       simp only [Act.put, List.setIfInBounds_toArray]
       simp only [List.set_cons_zero, List.set_cons_succ]
       refine AnyX.move (i := 13) (v := ?_) rfl (by kernel_rfl) (by kernel_rfl) (by kernel_rfl) (by kernel_rfl) (fun _ _ _ h => h) (Or.inl ⟨by rfl, ?_⟩) ?_
       rotate_left
       ·(intro wS _; go_simp; try with_reducible rfl)
       simp only [List.getElem_toArray, List.getElem_cons_succ, List.getElem_cons_zero]
       simp only [Act.put, List.setIfInBounds_toArray]
       simp only [List.set_cons_zero, List.set_cons_succ]
       refine AnyX.move (i := 14) (v := ?_) rfl (by kernel_rfl) (by kernel_rfl) (by kernel_rfl) (by kernel_rfl) (fun _ _ _ h => h) (Or.inl ⟨by rfl, ?_⟩) ?_
       rotate_left
       ·(intro wS _; go_simp; try with_reducible rfl)
       simp only [List.getElem_toArray, List.getElem_cons_succ, List.getElem_cons_zero]
       simp only [Act.put, List.setIfInBounds_toArray]
       simp only [List.set_cons_zero, List.set_cons_succ]
       refine AnyX.go 16 (by kernel_rfl) rfl rfl (fun K hK => ?_)
       simp only [List.getElem_toArray, List.getElem_cons_succ, List.getElem_cons_zero]
       refine wp_store_row 25 (.tmp 14) (.tmp 64) rfl wo.heap.size #[.int .i64 v.kind, .string v.pkg, .int .i64 v.major, .string v.mod, .string v.name, .slice Hn v.names.length cH, .slice Hs v.subs.length dH] rfl rfl _ _ X2 tySize rfl tyOne ?_
       refine hK.out _ _ (fun hoff _ => KEEP.out _ (setRow_below hB2 (Nat.le_refl _) _)) ?_
       clear hK
       try simp only [Act.put, List.setIfInBounds_toArray]
       try simp only [List.set_cons_zero, List.set_cons_succ]
       refine AnyX.move (i := 17) (v := ?_) rfl (by kernel_rfl) (by kernel_rfl) (by kernel_rfl) (by kernel_rfl) (fun _ _ _ h => h) (Or.inl ⟨by rfl, ?_⟩) ?_
       rotate_left
       ·(intro wS _; go_simp; try with_reducible rfl)
       simp only [List.getElem_toArray, List.getElem_cons_succ, List.getElem_cons_zero]
       simp only [Act.put, List.setIfInBounds_toArray]
       simp only [List.set_cons_zero, List.set_cons_succ]
       refine AnyX.done (by kernel_rfl) ?_ _
       go_wp2_with fail
       go_meet
       exact ⟨_, _, _, rfl, rfl, PwR.made hb2 hres ⟨v, Hn, cH, Hs, dH, rfl⟩ (below_over HW0.out HI.out.below).size Ba.size (Nat.le_refl _) (.inl sa) (setRow_heap _ _ _ _ _ _ X2) (setRow_below hB2 (Nat.le_refl _) _) (fun y hy hne => setRow_other _ _ _ _ hne) (by rw [size_setRow]; exact Nat.le_refl _)⟩
     case rest =>
      obtain ⟨b0, l1, q, rfl, rfl, hXb, hbb, hBx, ⟨v, Hn, cH, Hs, dH, rfl⟩, hres⟩ := hcut
      obtain ⟨wy, rfl⟩ : ∃ wy : World, wy = wc := ⟨_, rfl⟩
      have HBy := Lib.hid hBx
      have hwo4 := HSZ.out
      have HI2 := Lib.hid (HI.out.keep hwo4 hBx)
      have HB3y : Hid (Below W3.heap.size W3 wy) := Lib.hid (below_over HB3O.out hBx)
      clear CT KEEP
      cases q with
      | true =>
       obtain ⟨z, hbz, hTz⟩ : ∃ z, IsBnd (up) x y z ∧ TyAt (strike (fun k => w0.heap.size ≤ k ∧ k < wo.heap.size) wy) [.int .i64 v.kind, .string v.pkg, .int .i64 v.major, .string v.mod, .string v.name, .slice Hn v.names.length cH, .slice Hs v.subs.length dH] z := by
        rcases hres with ⟨-, z, h1, h2⟩ | ⟨h, -⟩
        ·exact ⟨z, h1, h2⟩
        ·cases h
       have HTZ := Lib.hid hTz
       have HBZ := Lib.hid hbz
       have y6 := Lib.cell_of_heap HI2.out.box 6
       have z0 := Lib.cell_of_heap hXb 0
       have z1 := Lib.cell_of_heap hXb 1
       have z2 := Lib.cell_of_heap hXb 2
       have z3 := Lib.cell_of_heap hXb 3
       have z4 := Lib.cell_of_heap hXb 4
       have z5 := Lib.cell_of_heap hXb 5
       have z6 := Lib.cell_of_heap hXb 6
       simp at y6 z0 z1 z2 z3 z4 z5 z6
       obtain ⟨C, hC1, hown, hC4⟩ := HI2.out.rows.cells
       have hown : wy.ownsRow (w.heap.size + 1 + 1 + 1 + 1) 25 7 (.slice A6 xs.length c6) xs.length C.flatten := hown
       obtain ⟨inf, hi1, hy0, hy1, hy2⟩ := info_parts typ_info
       have hMX : xs.length + 1 ≤ maxLen := by unfold maxLen; omega
       have hys := HBy.out.size
       have hAL : ∀ oo, w.heap.size + 1 + 1 + 1 + 1 ≤ (wy.alloc oo).heap.size := fun oo => by have e1 : (wy.alloc oo).heap.size = wy.heap.size + 1 := (by simp); omega
       have hwo2 : ∀ c, (Value.slice A6 xs.length c6).ownBlock = some c → w.heap.size + 1 + 1 + 1 + 1 ≤ c ∧ c < wo.heap.size := fun c e => HI.out.rows.lt e
       have hw00 : w0.heap.size ≤ w.heap.size := HW0.out.size
       clear hXb hbz hTz hres hBx
       go_wp2_with (first | (refine wpList_append_lies _ rfl (.tmp 70) (.tmp 72) 23 rfl (w.heap.size + 1 + 1 + 1 + 1) 25 inf _ 7 112 Try.underlying23 hi1 hy0 hy1 hy2 (by rfl) (Nat.zero_lt_succ 6) (.slice A6 xs.length c6) xs.length _ rfl (hown.alloc _) ⟨wy.heap.size, 0, none⟩ 1 1 [.int .i64 v.kind, .string v.pkg, .int .i64 v.major, .string v.mod, .string v.name, .slice Hn v.names.length cH, .slice Hs v.subs.length dH] rfl rfl (fun q u hq => by rw [WideShapes.add_plain, Nat.zero_add, Lib.cell_of_heap (heap_alloc_new wy _), ← hq, ← List.getElem?_toArray]) (fun u hu => by simp at hu; rcases hu with rfl | rfl | rfl | rfl | rfl | rfl | rfl <;> rfl) Nat.one_pos hMX (by omega) (hAL _) _ rfl ?_; intro gb cap w5 hown5 hgrow hat hlt5; obtain ⟨ROW9, Y9, old9, bel9, z9, e9, hs9⟩ := rowB_more (R := tR) (x := z) (k := 6) (S' := fun k => w0.heap.size ≤ k ∧ k < wo.heap.size) HI2.out.rows (fun b hb => by rcases hb with hb | hb; exact ⟨hb.1, by omega⟩; exact ⟨by have := (hwo2 b hb).1; omega, (hwo2 b hb).2⟩) (fun b hb => by omega) hC1 hC4 HTZ.out hown5 hgrow hat (Nat.lt_succ_self _) ⟨by omega, Nat.lt_succ_self _⟩ HI2.out.box rfl; clear hown5 hgrow hat hlt5))
       have hl9 : (xs ++ [z]).length = xs.length + 1 := by simp
       have INV : Hid (PwI w0 w up a b (xs ++ [z]) (some ⟨gb, 0, none⟩) cap (w5.setCell ⟨w.heap.size + 1 + 1 + 1, 6, none⟩ (.slice (some ⟨gb, 0, none⟩) (xs.length + 1) cap))) := Lib.hid
        ⟨HI2.out.below.trans (bel9 _ (by omega)), by rw [hl9]; exact Y9, ROW9, bnd_snoc HI2.out.bnd HXA.out HYA.out (by rw [HIFE.out]; exact HBZ.out)⟩
       have INB : Hid (Below W3.heap.size W3 (w5.setCell ⟨w.heap.size + 1 + 1 + 1, 6, none⟩ (.slice (some ⟨gb, 0, none⟩) (xs.length + 1) cap))) := Lib.hid (HB3y.out.trans (bel9 _ (by rw [HS3.out]; exact Nat.le_refl _)))
       have INZ : Hid (w.heap.size + 1 + 1 + 1 + 1 ≤ (w5.setCell ⟨w.heap.size + 1 + 1 + 1, 6, none⟩ (.slice (some ⟨gb, 0, none⟩) (xs.length + 1) cap)).heap.size) := Lib.hid (Nat.le_trans (show w.heap.size + 1 + 1 + 1 + 1 ≤ wy.heap.size by omega) hs9)
       clear ROW9 Y9 old9 bel9 hs9 hC1 hown hC4 hi1 hy0 hy1 hy2 hMX hwo2 hAL
       go_wp2_with fail
       go_roundw
       case rel => exact ⟨xs ++ [z], some ⟨gb, 0, none⟩, cap, by omega, by rw [hl9]; go_num, INV, INB, INZ⟩
       case measure => simp [intOf]; omega
      | false =>
       have hno : NoBnd (up) x y := by
        rcases hres with ⟨h, -⟩ | ⟨-, h⟩
        ·cases h
        ·exact h
       have FIN := Lib.hid (BdOut.zero (w0 := w0) (b := w.heap.size + 1 + 1) HI2.out.below (by omega) (no_part HKK.out.2 HXA.out HYA.out (by rw [HIFE.out]; exact hno)))
       have X7 : wy.heap[w.heap.size + 1 + 1]? = some (.cells #[.int .i64 0, .string ⟨#[]⟩, .int .i64 0, .string ⟨#[]⟩, .string ⟨#[]⟩, .slice none 0 0, .slice none 0 0] 25 (0, 0)) := (HB3y.out.block _ (by rw [HS3.out]; omega)).trans HO2.out
       have HX7' := Lib.hid X7
       clear hXb hres hBx hno
       go_upto_region 15 with fail
       go_wp2_with (first | ((with_reducible refine wpList_putRow 25 (w.heap.size + 1 + 1) #[.int .i64 0, .string ⟨#[]⟩, .int .i64 0, .string ⟨#[]⟩, .string ⟨#[]⟩, .slice none 0 0, .slice none 0 0] _ _ X7 ?_ ?_ ?_ ?_ ?_ ?_); exact tySize; rfl; exact tyOne; (focus (first | (go_simp; done) | rfl)); (focus (first | (go_simp; done) | rfl))))
       exact ret_agg (fn := Try.f43) (vs := [.int .i64 0, .string ⟨#[]⟩, .int .i64 0, .string ⟨#[]⟩, .string ⟨#[]⟩, .slice none 0 0, .slice none 0 0]) (b := w.heap.size + 1 + 1) rfl rfl rfl Try.underlying25 (by kernel_rfl) (cell7 (setRow_heap _ (w.heap.size + 1 + 1) _ _ _ _ HX7'.out)) rfl FIN.out
    ·have ql : ((xs.length : Int) == (L : Int)) = false := by simp; omega
     have HIFE : Hid ((if xs.length + 1 = a.subs.length then up else !up) = !up) := Lib.hid (if_neg (by rw [← HN.out]; have := HL.out; omega))
     clear hla
     have CT := Lib.hid (fun (w' : World) (hb' : Below wo.heap.size wo w') => HIG.out x y HXX.out HYY.out _ _ w' HX7.out HY7.out (below_over HW0.out (below_over HI.out.below hb')))
     go_upto_region 13 with fail
     go_cut [14, 15] (fun s14 s15 wx => ∃ (b0 : Nat) (l1 : List Value) (q : Bool), s14 = .pointer (some ⟨b0, 0, none⟩) ∧ s15 = .bool q ∧ PwR w0 wo (!up) x y b0 l1 q wx)
     case first =>
      have hH0 := KEEP.out wo.drew (Below.drew (Below.refl _ _))
      refine AnyX.start (fun wx => (wx.cell? ⟨w.heap.size, 6, none⟩ = some (.slice (some ⟨g1, o1, none⟩) n cS) ∧ wx.cell? ⟨w.heap.size + 1, 6, none⟩ = some (.slice (some ⟨g2, o2, none⟩) n cD)) ∧ (wx.cell? ⟨g1, o1 + xs.length * 7, none⟩ = some (.int .i64 x.kind) ∧ wx.cell? ⟨g1, o1 + xs.length * 7 + 1, none⟩ = some (.string x.pkg) ∧ wx.cell? ⟨g1, o1 + xs.length * 7 + 2, none⟩ = some (.int .i64 x.major) ∧ wx.cell? ⟨g1, o1 + xs.length * 7 + 3, none⟩ = some (.string x.mod) ∧ wx.cell? ⟨g1, o1 + xs.length * 7 + 4, none⟩ = some (.string x.name) ∧ wx.cell? ⟨g1, o1 + xs.length * 7 + 5, none⟩ = some (.slice Fn x.names.length cF) ∧ wx.cell? ⟨g1, o1 + xs.length * 7 + 6, none⟩ = some (.slice Fs x.subs.length dF)) ∧ wx.cell? ⟨g2, o2 + xs.length * 7, none⟩ = some (.int .i64 y.kind) ∧ wx.cell? ⟨g2, o2 + xs.length * 7 + 1, none⟩ = some (.string y.pkg) ∧ wx.cell? ⟨g2, o2 + xs.length * 7 + 2, none⟩ = some (.int .i64 y.major) ∧ wx.cell? ⟨g2, o2 + xs.length * 7 + 3, none⟩ = some (.string y.mod) ∧ wx.cell? ⟨g2, o2 + xs.length * 7 + 4, none⟩ = some (.string y.name) ∧ wx.cell? ⟨g2, o2 + xs.length * 7 + 5, none⟩ = some (.slice Gn y.names.length cG) ∧ wx.cell? ⟨g2, o2 + xs.length * 7 + 6, none⟩ = some (.slice Gs y.subs.length dG)) (fun _ => false) (by kernel_rfl) ?_
      refine AnyX.move (i := 0) (v := ?_) rfl (by kernel_rfl) (by kernel_rfl) (by kernel_rfl) (by kernel_rfl) (fun _ _ _ h => h) (Or.inl ⟨by rfl, ?_⟩) ?_
      rotate_left
      ·(intro wS _; go_simp; try with_reducible rfl)
      simp only [List.getElem_toArray, List.getElem_cons_succ, List.getElem_cons_zero]
      simp only [Act.put, List.setIfInBounds_toArray]
      simp only [List.set_cons_zero, List.set_cons_succ]
      refine AnyX.move (i := 1) (v := ?_) rfl (by kernel_rfl) (by kernel_rfl) (by kernel_rfl) (by kernel_rfl) (fun _ _ _ h => h) (Or.inl ⟨by rfl, ?_⟩) ?_
      rotate_left
      ·(intro wS _; go_simp; try with_reducible rfl)
      simp only [List.getElem_toArray, List.getElem_cons_succ, List.getElem_cons_zero]
      simp only [Act.put, List.setIfInBounds_toArray]
      simp only [List.set_cons_zero, List.set_cons_succ]
      refine AnyX.take (i := 2) (v := ?_) rfl (by kernel_rfl) (by kernel_rfl) (by kernel_rfl) (by kernel_rfl) (by kernel_rfl) (fun _ _ _ h => h) hH0 (Or.inl ⟨by rfl, ?_⟩) ?_
      rotate_left
      ·(intro wS hS; (try obtain ⟨⟨m0, m1⟩, ⟨c0, c1, c2, c3, c4, c5, c6'⟩, d0, d1, d2, d3, d4, d5, d6⟩ := hS); go_simp; try with_reducible rfl)
      simp only [List.getElem_toArray, List.getElem_cons_succ, List.getElem_cons_zero]
      simp only [Act.put, List.setIfInBounds_toArray]
      simp only [List.set_cons_zero, List.set_cons_succ]
      refine AnyX.move (i := 3) (v := ?_) rfl (by kernel_rfl) (by kernel_rfl) (by kernel_rfl) (by kernel_rfl) (fun _ _ _ h => h) (Or.inl ⟨by rfl, ?_⟩) ?_
      rotate_left
      ·(intro wS _; go_simp; try with_reducible rfl)
      simp only [List.getElem_toArray, List.getElem_cons_succ, List.getElem_cons_zero]
      simp only [Act.put, List.setIfInBounds_toArray]
      simp only [List.set_cons_zero, List.set_cons_succ]
      refine AnyX.move (i := 4) (v := ?_) rfl (by kernel_rfl) (by kernel_rfl) (by kernel_rfl) (by kernel_rfl) (fun _ _ _ h => h) (Or.inl ⟨by rfl, ?_⟩) ?_
      rotate_left
      ·(intro wS _; go_simp; try with_reducible rfl)
      simp only [List.getElem_toArray, List.getElem_cons_succ, List.getElem_cons_zero]
      simp only [Act.put, List.setIfInBounds_toArray]
      simp only [List.set_cons_zero, List.set_cons_succ]
      refine AnyX.take (i := 5) (v := ?_) rfl (by kernel_rfl) (by kernel_rfl) (by kernel_rfl) (by kernel_rfl) (by kernel_rfl) (fun _ _ _ h => h) hH0 (Or.inl ⟨by rfl, ?_⟩) ?_
      rotate_left
      ·(intro wS hS; (try obtain ⟨⟨m0, m1⟩, ⟨c0, c1, c2, c3, c4, c5, c6'⟩, d0, d1, d2, d3, d4, d5, d6⟩ := hS); go_simp; try with_reducible rfl)
      simp only [List.getElem_toArray, List.getElem_cons_succ, List.getElem_cons_zero]
      simp only [Act.put, List.setIfInBounds_toArray]
      simp only [List.set_cons_zero, List.set_cons_succ]
      refine AnyX.move (i := 6) (v := ?_) rfl (by kernel_rfl) (by kernel_rfl) (by kernel_rfl) (by kernel_rfl) (fun _ _ _ h => h) (Or.inl ⟨by rfl, ?_⟩) ?_
      rotate_left
      ·(intro wS _; go_simp; try with_reducible rfl)
      simp only [List.getElem_toArray, List.getElem_cons_succ, List.getElem_cons_zero]
      simp only [Act.put, List.setIfInBounds_toArray]
      simp only [List.set_cons_zero, List.set_cons_succ]
      refine AnyX.take (i := 7) (v := ?_) rfl (by kernel_rfl) (by kernel_rfl) (by kernel_rfl) (by kernel_rfl) (by kernel_rfl) (fun _ _ _ h => h) hH0 (Or.inl ⟨by rfl, ?_⟩) ?_
      rotate_left
      ·(intro wS hS; (try obtain ⟨⟨m0, m1⟩, ⟨c0, c1, c2, c3, c4, c5, c6'⟩, d0, d1, d2, d3, d4, d5, d6⟩ := hS); go_simp; try with_reducible rfl)
      simp only [List.getElem_toArray, List.getElem_cons_succ, List.getElem_cons_zero]
      simp only [Act.put, List.setIfInBounds_toArray]
      simp only [List.set_cons_zero, List.set_cons_succ]
      refine AnyX.move (i := 8) (v := ?_) rfl (by kernel_rfl) (by kernel_rfl) (by kernel_rfl) (by kernel_rfl) (fun _ _ _ h => h) (Or.inl ⟨by rfl, ?_⟩) ?_
      rotate_left
      ·(intro wS _; go_simp; try with_reducible rfl)
      simp only [List.getElem_toArray, List.getElem_cons_succ, List.getElem_cons_zero]
      simp only [Act.put, List.setIfInBounds_toArray]
      simp only [List.set_cons_zero, List.set_cons_succ]
      refine AnyX.move (i := 9) (v := ?_) rfl (by kernel_rfl) (by kernel_rfl) (by kernel_rfl) (by kernel_rfl) (fun _ _ _ h => h) (Or.inl ⟨by rfl, ?_⟩) ?_
      rotate_left
      ·(intro wS _; go_simp; try with_reducible rfl)
      simp only [List.getElem_toArray, List.getElem_cons_succ, List.getElem_cons_zero]
      simp only [Act.put, List.setIfInBounds_toArray]
      simp only [List.set_cons_zero, List.set_cons_succ]
      refine AnyX.take (i := 10) (v := ?_) rfl (by kernel_rfl) (by kernel_rfl) (by kernel_rfl) (by kernel_rfl) (by kernel_rfl) (fun _ _ _ h => h) hH0 (Or.inl ⟨by rfl, ?_⟩) ?_
      rotate_left
      ·(intro wS hS; (try obtain ⟨⟨m0, m1⟩, ⟨c0, c1, c2, c3, c4, c5, c6'⟩, d0, d1, d2, d3, d4, d5, d6⟩ := hS); go_simp; try with_reducible rfl)
      simp only [List.getElem_toArray, List.getElem_cons_succ, List.getElem_cons_zero]
      simp only [Act.put, List.setIfInBounds_toArray]
      simp only [List.set_cons_zero, List.set_cons_succ]
      refine AnyX.go2 11 15 (by kernel_rfl) rfl rfl rfl rfl (fun K hK => ?_) (fun K hK => ?_)
      ·simp only [List.getElem_toArray, List.getElem_cons_succ, List.getElem_cons_zero]
       go_simp
       rw [HGF.out, Oper.upon_enter]
       refine (CT.out wo.drew (Below.drew (Below.refl _ _))).mono ?_
       rintro e w2 ⟨l1, q1, rfl, hb2, hres⟩
       have hB2 : Below wo.heap.size wo w2 := Below.trans (Below.drew (Below.refl wo.heap.size wo)) hb2
       have hsh := bd_shape hres
       obtain ⟨v, Hn, cH, Hs, dH, rfl⟩ := hsh
       simp only []
       refine hK.out _ _ (fun hoff _ => KEEP.out w2 hB2) ?_
       clear hK
       try simp only [Act.put, List.setIfInBounds_toArray]
       try simp only [List.set_cons_zero, List.set_cons_succ]
       refine AnyX.move (i := 12) (v := ?_) rfl (by kernel_rfl) (by kernel_rfl) (by kernel_rfl) (by kernel_rfl) (fun _ _ _ h => h) (Or.inl ⟨by rfl, ?_⟩) ?_
       rotate_left
       ·(intro wS _; go_simp; try with_reducible rfl)
       simp only [List.getElem_toArray, List.getElem_cons_succ, List.getElem_cons_zero]
       simp only [Act.put, List.setIfInBounds_toArray]
       simp only [List.set_cons_zero, List.set_cons_succ]
       refine AnyX.move (i := 13) (v := ?_) rfl (by kernel_rfl) (by kernel_rfl) (by kernel_rfl) (by kernel_rfl) (fun _ _ _ h => h) (Or.inl ⟨by rfl, ?_⟩) ?_
       rotate_left
       ·(intro wS _; go_simp; try with_reducible rfl)
       simp only [List.getElem_toArray, List.getElem_cons_succ, List.getElem_cons_zero]
       simp only [Act.put, List.setIfInBounds_toArray]
       simp only [List.set_cons_zero, List.set_cons_succ]
       refine AnyX.move (i := 14) (v := ?_) rfl (by kernel_rfl) (by kernel_rfl) (by kernel_rfl) (by kernel_rfl) (fun _ _ _ h => h) (Or.inl ⟨by rfl, ?_⟩) ?_
       rotate_left
       ·(intro wS _; go_simp; try with_reducible rfl)
       simp only [List.getElem_toArray, List.getElem_cons_succ, List.getElem_cons_zero]
       simp only [Act.put, List.setIfInBounds_toArray]
       simp only [List.set_cons_zero, List.set_cons_succ]
       refine AnyX.go 15 (by kernel_rfl) rfl rfl (fun K hK => ?_)
       simp only [List.getElem_toArray, List.getElem_cons_succ, List.getElem_cons_zero]
       go_simp
       refine hK.out _ _ (fun hoff _ => KEEP.out _ (below_new hB2 _)) ?_
       clear hK
       try simp only [Act.put, List.setIfInBounds_toArray]
       try simp only [List.set_cons_zero, List.set_cons_succ]
       refine AnyX.go 16 (by kernel_rfl) rfl rfl (fun K hK => ?_)
       simp only [List.getElem_toArray, List.getElem_cons_succ, List.getElem_cons_zero]
       refine wp_store_row 25 (.tmp 14) (.tmp 64) rfl w2.heap.size #[.int .i64 v.kind, .string v.pkg, .int .i64 v.major, .string v.mod, .string v.name, .slice Hn v.names.length cH, .slice Hs v.subs.length dH] rfl rfl _ _ (heap_alloc_new w2 _) tySize rfl tyOne ?_
       refine hK.out _ _ (fun hoff _ => KEEP.out _ (setRow_below (below_new hB2 _) hB2.size _)) ?_
       clear hK
       try simp only [Act.put, List.setIfInBounds_toArray]
       try simp only [List.set_cons_zero, List.set_cons_succ]
       refine AnyX.move (i := 17) (v := ?_) rfl (by kernel_rfl) (by kernel_rfl) (by kernel_rfl) (by kernel_rfl) (fun _ _ _ h => h) (Or.inl ⟨by rfl, ?_⟩) ?_
       rotate_left
       ·(intro wS _; go_simp; try with_reducible rfl)
       simp only [List.getElem_toArray, List.getElem_cons_succ, List.getElem_cons_zero]
       simp only [Act.put, List.setIfInBounds_toArray]
       simp only [List.set_cons_zero, List.set_cons_succ]
       refine AnyX.done (by kernel_rfl) ?_ _
       go_wp2_with fail
       go_meet
       exact ⟨_, _, _, rfl, rfl, PwR.made (wa := wo.drew) hb2 hres ⟨v, Hn, cH, Hs, dH, rfl⟩ (below_over HW0.out HI.out.below).size (Nat.le_refl _) hB2.size (.inr (Nat.le_refl _)) (setRow_heap _ _ _ _ _ _ (heap_alloc_new w2 _)) (setRow_below (below_new hB2 _) hB2.size _) (fun y hy hne => (setRow_other _ _ _ _ hne).trans (Lib.alloc_old _ _ _ hy)) (by rw [size_setRow]; simp)⟩
      ·simp only [List.getElem_toArray, List.getElem_cons_succ, List.getElem_cons_zero]
       go_simp
       obtain ⟨wa, hwa⟩ : ∃ wa, wa = (wo.alloc (.cells #[.int .i64 0, .string ⟨#[]⟩, .int .i64 0, .string ⟨#[]⟩, .string ⟨#[]⟩, .slice none 0 0, .slice none 0 0] 25)).drew := ⟨_, rfl⟩
       have Ba : Below wo.heap.size wo wa := by rw [hwa]; exact Below.drew (below_new (Below.refl _ _) _)
       have Xa : wa.heap[wo.heap.size]? = some (.cells #[.int .i64 0, .string ⟨#[]⟩, .int .i64 0, .string ⟨#[]⟩, .string ⟨#[]⟩, .slice none 0 0, .slice none 0 0] 25 (0, 0)) := by rw [hwa]; exact heap_alloc_new wo _
       have sa : wo.heap.size < wa.heap.size := by rw [hwa]; simp
       have hHa := KEEP.out wa Ba
       refine hK.out _ _ (fun _ _ => by rw [hwa] at hHa; exact hHa) ?_
       clear hK
       try simp only [Act.put, List.setIfInBounds_toArray]
       try simp only [List.set_cons_zero, List.set_cons_succ]
       rw [← hwa]
       clear hwa
       refine AnyX.go 11 (by kernel_rfl) rfl rfl (fun K hK => ?_)
       simp only [List.getElem_toArray, List.getElem_cons_succ, List.getElem_cons_zero]
       go_simp
       rw [HGF.out, Oper.upon_enter]
       refine (CT.out wa Ba).mono ?_
       rintro e w2 ⟨l1, q1, rfl, hb2, hres⟩
       have hB2 : Below wo.heap.size wo w2 := below_over Ba hb2
       have hsh := bd_shape hres
       obtain ⟨v, Hn, cH, Hs, dH, rfl⟩ := hsh
       have X2 := (hb2.block _ sa).trans Xa
       simp only []
       refine hK.out _ _ (fun hoff _ => KEEP.out w2 hB2) ?_
       clear hK
       try simp only [Act.put, List.setIfInBounds_toArray]
       try simp only [List.set_cons_zero, List.set_cons_succ]
       refine AnyX.move (i := 12) (v := ?_) rfl (by kernel_rfl) (by kernel_rfl) (by kernel_rfl) (by kernel_rfl) (fun _ _ _ h => h) (Or.inl ⟨by rfl, ?_⟩) ?_
       rotate_left
       ·(intro wS _; go_simp; try with_reducible rfl)
       simp only [List.getElem_toArray, List.getElem_cons_succ, List.getElem_cons_zero]
       simp only [Act.put, List.setIfInBounds_toArray]
       simp only [List.set_cons_zero, List.set_cons_succ]
       refine AnyX.move (i := 13) (v := ?_) rfl (by kernel_rfl) (by kernel_rfl) (by kernel_rfl) (by kernel_rfl) (fun _ _ _ h => h) (Or.inl ⟨by rfl, ?_⟩) ?_
       rotate_left
       ·(intro wS _; go_simp; try with_reducible rfl)
       simp only [List.getElem_toArray, List.getElem_cons_succ, List.getElem_cons_zero]
       simp only [Act.put, List.setIfInBounds_toArray]
       simp only [List.set_cons_zero, List.set_cons_succ]
       refine AnyX.move (i := 14) (v := ?_) rfl (by kernel_rfl) (by kernel_rfl) (by kernel_rfl) (by kernel_rfl) (fun _ _ _ h => h) (Or.inl ⟨by rfl, ?_⟩) ?_
       rotate_left
       ·(intro wS _; go_simp; try with_reducible rfl)
       simp only [List.getElem_toArray, List.getElem_cons_succ, List.getElem_cons_zero]
       simp only [Act.put, List.setIfInBounds_toArray]
       simp only [List.set_cons_zero, List.set_cons_succ]
       refine AnyX.go 16 (by kernel_rfl) rfl rfl (fun K hK => ?_)
       simp only [List.getElem_toArray, List.getElem_cons_succ, List.getElem_cons_zero]
       refine wp_store_row 25 (.tmp 14) (.tmp 64) rfl wo.heap.size #[.int .i64 v.kind, .string v.pkg, .int .i64 v.major, .string v.mod, .string v.name, .slice Hn v.names.length cH, .slice Hs v.subs.length dH] rfl rfl _ _ X2 tySize rfl tyOne ?_
       refine hK.out _ _ (fun hoff _ => KEEP.out _ (setRow_below hB2 (Nat.le_refl _) _)) ?_
       clear hK
       try simp only [Act.put, List.setIfInBounds_toArray]
       try simp only [List.set_cons_zero, List.set_cons_succ]
       refine AnyX.move (i := 17) (v := ?_) rfl (by kernel_rfl) (by kernel_rfl) (by kernel_rfl) (by kernel_rfl) (fun _ _ _ h => h) (Or.inl ⟨by rfl, ?_⟩) ?_
       rotate_left
       ·(intro wS _; go_simp; try with_reducible rfl)
       simp only [List.getElem_toArray, List.getElem_cons_succ, List.getElem_cons_zero]
       simp only [Act.put, List.setIfInBounds_toArray]
       simp only [List.set_cons_zero, List.set_cons_succ]
       refine AnyX.done (by kernel_rfl) ?_ _
       go_wp2_with fail
       go_meet
       exact ⟨_, _, _, rfl, rfl, PwR.made hb2 hres ⟨v, Hn, cH, Hs, dH, rfl⟩ (below_over HW0.out HI.out.below).size Ba.size (Nat.le_refl _) (.inl sa) (setRow_heap _ _ _ _ _ _ X2) (setRow_below hB2 (Nat.le_refl _) _) (fun y hy hne => setRow_other _ _ _ _ hne) (by rw [size_setRow]; exact Nat.le_refl _)⟩
     case rest =>
      obtain ⟨b0, l1, q, rfl, rfl, hXb, hbb, hBx, ⟨v, Hn, cH, Hs, dH, rfl⟩, hres⟩ := hcut
      obtain ⟨wy, rfl⟩ : ∃ wy : World, wy = wc := ⟨_, rfl⟩
      have HBy := Lib.hid hBx
      have hwo4 := HSZ.out
      have HI2 := Lib.hid (HI.out.keep hwo4 hBx)
      have HB3y : Hid (Below W3.heap.size W3 wy) := Lib.hid (below_over HB3O.out hBx)
      clear CT KEEP
      cases q with
      | true =>
       obtain ⟨z, hbz, hTz⟩ : ∃ z, IsBnd (!up) x y z ∧ TyAt (strike (fun k => w0.heap.size ≤ k ∧ k < wo.heap.size) wy) [.int .i64 v.kind, .string v.pkg, .int .i64 v.major, .string v.mod, .string v.name, .slice Hn v.names.length cH, .slice Hs v.subs.length dH] z := by
        rcases hres with ⟨-, z, h1, h2⟩ | ⟨h, -⟩
        ·exact ⟨z, h1, h2⟩
        ·cases h
       have HTZ := Lib.hid hTz
       have HBZ := Lib.hid hbz
       have y6 := Lib.cell_of_heap HI2.out.box 6
       have z0 := Lib.cell_of_heap hXb 0
       have z1 := Lib.cell_of_heap hXb 1
       have z2 := Lib.cell_of_heap hXb 2
       have z3 := Lib.cell_of_heap hXb 3
       have z4 := Lib.cell_of_heap hXb 4
       have z5 := Lib.cell_of_heap hXb 5
       have z6 := Lib.cell_of_heap hXb 6
       simp at y6 z0 z1 z2 z3 z4 z5 z6
       obtain ⟨C, hC1, hown, hC4⟩ := HI2.out.rows.cells
       have hown : wy.ownsRow (w.heap.size + 1 + 1 + 1 + 1) 25 7 (.slice A6 xs.length c6) xs.length C.flatten := hown
       obtain ⟨inf, hi1, hy0, hy1, hy2⟩ := info_parts typ_info
       have hMX : xs.length + 1 ≤ maxLen := by unfold maxLen; omega
       have hys := HBy.out.size
       have hAL : ∀ oo, w.heap.size + 1 + 1 + 1 + 1 ≤ (wy.alloc oo).heap.size := fun oo => by have e1 : (wy.alloc oo).heap.size = wy.heap.size + 1 := (by simp); omega
       have hwo2 : ∀ c, (Value.slice A6 xs.length c6).ownBlock = some c → w.heap.size + 1 + 1 + 1 + 1 ≤ c ∧ c < wo.heap.size := fun c e => HI.out.rows.lt e
       have hw00 : w0.heap.size ≤ w.heap.size := HW0.out.size
       clear hXb hbz hTz hres hBx
       go_wp2_with (first | (refine wpList_append_lies _ rfl (.tmp 70) (.tmp 72) 23 rfl (w.heap.size + 1 + 1 + 1 + 1) 25 inf _ 7 112 Try.underlying23 hi1 hy0 hy1 hy2 (by rfl) (Nat.zero_lt_succ 6) (.slice A6 xs.length c6) xs.length _ rfl (hown.alloc _) ⟨wy.heap.size, 0, none⟩ 1 1 [.int .i64 v.kind, .string v.pkg, .int .i64 v.major, .string v.mod, .string v.name, .slice Hn v.names.length cH, .slice Hs v.subs.length dH] rfl rfl (fun q u hq => by rw [WideShapes.add_plain, Nat.zero_add, Lib.cell_of_heap (heap_alloc_new wy _), ← hq, ← List.getElem?_toArray]) (fun u hu => by simp at hu; rcases hu with rfl | rfl | rfl | rfl | rfl | rfl | rfl <;> rfl) Nat.one_pos hMX (by omega) (hAL _) _ rfl ?_; intro gb cap w5 hown5 hgrow hat hlt5; obtain ⟨ROW9, Y9, old9, bel9, z9, e9, hs9⟩ := rowB_more (R := tR) (x := z) (k := 6) (S' := fun k => w0.heap.size ≤ k ∧ k < wo.heap.size) HI2.out.rows (fun b hb => by rcases hb with hb | hb; exact ⟨hb.1, by omega⟩; exact ⟨by have := (hwo2 b hb).1; omega, (hwo2 b hb).2⟩) (fun b hb => by omega) hC1 hC4 HTZ.out hown5 hgrow hat (Nat.lt_succ_self _) ⟨by omega, Nat.lt_succ_self _⟩ HI2.out.box rfl; clear hown5 hgrow hat hlt5))
       have hl9 : (xs ++ [z]).length = xs.length + 1 := by simp
       have INV : Hid (PwI w0 w up a b (xs ++ [z]) (some ⟨gb, 0, none⟩) cap (w5.setCell ⟨w.heap.size + 1 + 1 + 1, 6, none⟩ (.slice (some ⟨gb, 0, none⟩) (xs.length + 1) cap))) := Lib.hid
        ⟨HI2.out.below.trans (bel9 _ (by omega)), by rw [hl9]; exact Y9, ROW9, bnd_snoc HI2.out.bnd HXA.out HYA.out (by rw [HIFE.out]; exact HBZ.out)⟩
       have INB : Hid (Below W3.heap.size W3 (w5.setCell ⟨w.heap.size + 1 + 1 + 1, 6, none⟩ (.slice (some ⟨gb, 0, none⟩) (xs.length + 1) cap))) := Lib.hid (HB3y.out.trans (bel9 _ (by rw [HS3.out]; exact Nat.le_refl _)))
       have INZ : Hid (w.heap.size + 1 + 1 + 1 + 1 ≤ (w5.setCell ⟨w.heap.size + 1 + 1 + 1, 6, none⟩ (.slice (some ⟨gb, 0, none⟩) (xs.length + 1) cap)).heap.size) := Lib.hid (Nat.le_trans (show w.heap.size + 1 + 1 + 1 + 1 ≤ wy.heap.size by omega) hs9)
       clear ROW9 Y9 old9 bel9 hs9 hC1 hown hC4 hi1 hy0 hy1 hy2 hMX hwo2 hAL
       go_wp2_with fail
       go_roundw
       case rel => exact ⟨xs ++ [z], some ⟨gb, 0, none⟩, cap, by omega, by rw [hl9]; go_num, INV, INB, INZ⟩
       case measure => simp [intOf]; omega
      | false =>
       have hno : NoBnd (!up) x y := by
        rcases hres with ⟨h, -⟩ | ⟨-, h⟩
        ·cases h
        ·exact h
       have FIN := Lib.hid (BdOut.zero (w0 := w0) (b := w.heap.size + 1 + 1) HI2.out.below (by omega) (no_part HKK.out.2 HXA.out HYA.out (by rw [HIFE.out]; exact hno)))
       have X7 : wy.heap[w.heap.size + 1 + 1]? = some (.cells #[.int .i64 0, .string ⟨#[]⟩, .int .i64 0, .string ⟨#[]⟩, .string ⟨#[]⟩, .slice none 0 0, .slice none 0 0] 25 (0, 0)) := (HB3y.out.block _ (by rw [HS3.out]; omega)).trans HO2.out
       have HX7' := Lib.hid X7
       clear hXb hres hBx hno
       go_upto_region 15 with fail
       go_wp2_with (first | ((with_reducible refine wpList_putRow 25 (w.heap.size + 1 + 1) #[.int .i64 0, .string ⟨#[]⟩, .int .i64 0, .string ⟨#[]⟩, .string ⟨#[]⟩, .slice none 0 0, .slice none 0 0] _ _ X7 ?_ ?_ ?_ ?_ ?_ ?_); exact tySize; rfl; exact tyOne; (focus (first | (go_simp; done) | rfl)); (focus (first | (go_simp; done) | rfl))))
       exact ret_agg (fn := Try.f43) (vs := [.int .i64 0, .string ⟨#[]⟩, .int .i64 0, .string ⟨#[]⟩, .string ⟨#[]⟩, .slice none 0 0, .slice none 0 0]) (b := w.heap.size + 1 + 1) rfl rfl rfl Try.underlying25 (by kernel_rfl) (cell7 (setRow_heap _ (w.heap.size + 1 + 1) _ _ _ _ HX7'.out)) rfl FIN.out
   ·have FIN := Lib.hid (HI.out.done GA.out HKK.out.1 HKK.out.2 (by rw [← HN.out]; omega) (by rw [← HN.out, ← HM.out]) (by omega) HW0.out.size)
    have X7 : wo.heap[w.heap.size + 1 + 1]? = some (.cells #[.int .i64 0, .string ⟨#[]⟩, .int .i64 0, .string ⟨#[]⟩, .string ⟨#[]⟩, .slice none 0 0, .slice none 0 0] 25 (0, 0)) := (HB3O.out.block _ (by rw [HS3.out]; omega)).trans HO2.out
    have HX7' := Lib.hid X7
    have z0 := Lib.cell_of_heap HI.out.box 0
    have z1 := Lib.cell_of_heap HI.out.box 1
    have z2 := Lib.cell_of_heap HI.out.box 2
    have z3 := Lib.cell_of_heap HI.out.box 3
    have z4 := Lib.cell_of_heap HI.out.box 4
    have z5 := Lib.cell_of_heap HI.out.box 5
    have z6 := Lib.cell_of_heap HI.out.box 6
    simp at z0 z1 z2 z3 z4 z5 z6
    clear x6 y6
    go_upto_region 18 with fail
    go_wp2_with (first | ((with_reducible refine wpList_putRow 25 (w.heap.size + 1 + 1) #[.int .i64 a.kind, .string ⟨#[]⟩, .int .i64 0, .string ⟨#[]⟩, .string ⟨#[]⟩, .slice none 0 0, .slice A6 xs.length c6] _ _ X7 ?_ ?_ ?_ ?_ ?_ ?_); exact tySize; rfl; exact tyOne; (focus (first | (go_simp; done) | rfl)); (focus (first | (go_simp; done) | rfl))))
    exact ret_agg (fn := Try.f43) (vs := [.int .i64 a.kind, .string ⟨#[]⟩, .int .i64 0, .string ⟨#[]⟩, .string ⟨#[]⟩, .slice none 0 0, .slice A6 xs.length c6]) (b := w.heap.size + 1 + 1) rfl rfl rfl Try.underlying25 (by kernel_rfl) (cell7 (setRow_heap _ (w.heap.size + 1 + 1) _ _ _ _ HX7'.out)) rfl FIN.out
 ·have FIN := Lib.hid (BdOut.zero (w0 := w0) (b := w.heap.size + 1 + 1) HB3.out (by omega) (no_len (up := up) (a := a) (b := b) HKK.out.2 (by rw [← HN.out, ← HM.out]; exact hnm)))
  have e1 : ((n : Int) != (m : Int)) = true := by simp; omega
  have e2 : ((n : Int) == (m : Int)) = false := by simp; omega
  have X7 := HO2.out
  go_upto_region 4 with fail
  go_wp2_with (first | ((with_reducible refine wpList_putRow 25 (w.heap.size + 1 + 1) #[.int .i64 0, .string ⟨#[]⟩, .int .i64 0, .string ⟨#[]⟩, .string ⟨#[]⟩, .slice none 0 0, .slice none 0 0] _ _ X7 ?_ ?_ ?_ ?_ ?_ ?_); exact tySize; rfl; exact tyOne; (focus (first | (go_simp; done) | rfl)); (focus (first | (go_simp; done) | rfl))))
  exact ret_agg (fn := Try.f43) (vs := [.int .i64 0, .string ⟨#[]⟩, .int .i64 0, .string ⟨#[]⟩, .string ⟨#[]⟩, .slice none 0 0, .slice none 0 0]) (b := w.heap.size + 1 + 1) rfl rfl rfl Try.underlying25 (by kernel_rfl) (cell7 (setRow_heap _ (w.heap.size + 1 + 1) _ _ _ _ HO2.out)) rfl FIN.out
end Go.Proofs.Ytcdmgcgjonndpaa
