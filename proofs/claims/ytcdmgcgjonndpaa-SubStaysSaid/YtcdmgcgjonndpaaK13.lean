/-
  Several texts in one:  ·  ·  ·  · 
-/
import Derived.Test.YtcdmgcgjonndpaaK12
import Derived.Test.YtcdmgcgjonndpaaK03
import Derived.Deep.DeepCutAuto
import Derived.Test.YtcdmgcgjonndpaaK11
import Derived.Lib.SlicesCompact
/-  -/
namespace Go.Proofs.Ytcdmgcgjonndpaa
open Go Go.RowKit Go.Shelf
open Go.Sort
open M
def PtOut0 (w0 : World) (t : Ty) (s : ByteArray) (w : World) (e : Ending) (w' : World) : Prop :=
  ∃ (l : List Value) (b : Bool), e = .returned (.tuple #[.agg l.toArray, .bool b]) ∧ Below w.heap.size w w' ∧ ((b = true ∧ ∃ x, AtN t s x ∧ TyAt w0 l x) ∨ (b = false ∧ l = [.int .i64 0, .string ⟨#[]⟩, .int .i64 0, .string ⟨#[]⟩, .string ⟨#[]⟩, .slice none 0 0, .slice none 0 0] ∧ ∀ y, ¬ AtN t s y))
def BdOut (w0 : World) (up : Bool) (x y : Ty) (w : World) (e : Ending) (w' : World) : Prop :=
  ∃ (l : List Value) (b : Bool), e = .returned (.tuple #[.agg l.toArray, .bool b]) ∧ Below w.heap.size w w' ∧
    ((b = true ∧ ∃ t, IsBnd up x y t ∧ TyAt (strike (fun k => w0.heap.size ≤ k ∧ k < w.heap.size) w') l t) ∨ (b = false ∧ l = [.int .i64 0, .string ⟨#[]⟩, .int .i64 0, .string ⟨#[]⟩, .string ⟨#[]⟩, .slice none 0 0, .slice none 0 0] ∧ NoBnd up x y))
theorem BdOut.zero {w0 w wk : World} {up : Bool} {x y : Ty} {b : Nat} (hb : Below w.heap.size w wk) (hle : w.heap.size ≤ b) (h : NoBnd up x y) : BdOut w0 up x y w (.returned (.tuple #[.agg #[.int .i64 0, .string ⟨#[]⟩, .int .i64 0, .string ⟨#[]⟩, .string ⟨#[]⟩, .slice none 0 0, .slice none 0 0], .bool false])) (wk.setRow b #[.int .i64 0, .string ⟨#[]⟩, .int .i64 0, .string ⟨#[]⟩, .string ⟨#[]⟩, .slice none 0 0, .slice none 0 0]) :=
  ⟨[.int .i64 0, .string ⟨#[]⟩, .int .i64 0, .string ⟨#[]⟩, .string ⟨#[]⟩, .slice none 0 0, .slice none 0 0], false, rfl, setRow_below hb hle _, .inr ⟨rfl, rfl, h⟩⟩
theorem TyAt.base {w0 w : World} {l : List Value} {t : Ty} {S : Nat → Prop} (h : TyAt w0 l t) (hb : Below w0.heap.size w0 w) (hS : ∀ k, S k → w0.heap.size ≤ k) : TyAt (strike S w) l t :=
  (h.cells (w' := strike S w) (by rw [strike_size]; exact hb.size) fun b o x hx => by
    have hlt := World.block_lt_of_cell? _ _ hx
    exact strike_cell.2 ⟨fun e => by have := hS b e; have : b < w0.heap.size := hlt; omega, (hb.cell (p := ⟨b, o, none⟩) hlt).trans hx⟩)
set_option maxRecDepth 100000 in
set_option maxHeartbeats 8000000 in
theorem part0_any (w0 : World) (t : Ty) (lt : List Value) (s : ByteArray) (w : World) (hT : TyAt w0 lt t) (hw0 : Below w0.heap.size w0 w) (hr : Rising t.names) (hl : t.subs.length = t.names.length) (hz : t.names.length ≤ 1000000) :
    Calls Try.prog 47 #[.agg lt.toArray, .string s] w (PtOut0 w0 t s w) := by
  have HT := Lib.hid hT
  obtain ⟨An, cA, As, cS, rfl, -, -, -, -, -, hNA, hSu⟩ := hT.parts
  obtain ⟨W2, hW2, B2, O0, O1, hl2⟩ := two_boxes w #[.int .i64 t.kind, .string t.pkg, .int .i64 t.major, .string t.mod, .string t.name, .slice An t.names.length cA, .slice As t.subs.length cS] #[.int .i64 0, .string ⟨#[]⟩, .int .i64 0, .string ⟨#[]⟩, .string ⟨#[]⟩, .slice none 0 0, .slice none 0 0] 25 25
  have HB2 := Lib.hid B2
  have HX0 : Hid (∀ wx, Below W2.heap.size W2 wx → wx.heap[w.heap.size]? = some (.cells #[.int .i64 t.kind, .string t.pkg, .int .i64 t.major, .string t.mod, .string t.name, .slice An t.names.length cA, .slice As t.subs.length cS] 25 (0, 0))) := Lib.hid (fun wx hb => (hb.block _ (by omega)).trans O0)
  have HX1 : Hid (∀ wx, Below W2.heap.size W2 wx → wx.heap[w.heap.size + 1]? = some (.cells #[.int .i64 0, .string ⟨#[]⟩, .int .i64 0, .string ⟨#[]⟩, .string ⟨#[]⟩, .slice none 0 0, .slice none 0 0] 25 (0, 0))) := Lib.hid (fun wx hb => (hb.block _ (by omega)).trans O1)
  have HSU := Lib.hid hSu
  have HR := Lib.hid hr
  have HLL := Lib.hid hl
  have HW := Lib.hid hW2
  have CS := Lib.hid (search_any An t.names.length cA t.names s W2 rfl (by omega) (fun i x hx => by
    obtain ⟨g, o, hA, hg, hc, hz⟩ := hNA i x hx
    have hbb := below_over hw0 B2
    exact ⟨g, o, hA, Nat.lt_of_lt_of_le hg hbb.size, (hbb.cell (p := ⟨g, _, none⟩) hg).trans hc, hz⟩) hr)
  have HW0 := Lib.hid hw0
  have X0 := HX0.out W2 (Below.refl _ _)
  have x5 := Lib.cell_of_heap X0 5
  simp at x5
  clear hW2 B2 O0 O1 hT hNA hSu hr hl X0 hw0
  go_enter Try.func47, Try.ntmps47
  go_upto_region 1 with fail
  rw [← HW.out]
  clear HW
  go_wp2_with fail
  refine CS.out.mono ?_; rintro e w3 ⟨i, b, rfl, hb1, hb2, hb3⟩
  have HB3 := Lib.hid hb3
  have H1 := Lib.hid hb1
  have H2 := Lib.hid hb2
  have X1 := HX1.out w3 hb3
  have HX := Lib.hid X1
  clear x5 hb1 hb2 hb3 CS
  cases b with
  | false =>
    have FIN : Hid (PtOut0 w0 t s w (.returned (.tuple #[.agg #[.int .i64 0, .string ⟨#[]⟩, .int .i64 0, .string ⟨#[]⟩, .string ⟨#[]⟩, .slice none 0 0, .slice none 0 0], .bool false])) (w3.setRow (w.heap.size + 1) #[.int .i64 0, .string ⟨#[]⟩, .int .i64 0, .string ⟨#[]⟩, .string ⟨#[]⟩, .slice none 0 0, .slice none 0 0])) := Lib.hid
      ⟨[.int .i64 0, .string ⟨#[]⟩, .int .i64 0, .string ⟨#[]⟩, .string ⟨#[]⟩, .slice none 0 0, .slice none 0 0], false, rfl, setRow_below (below_over HB2.out HB3.out) (by omega) _, .inr ⟨rfl, rfl, fun y hy => by have := H1.out.2 hy.name; cases this⟩⟩
    go_upto_region 3 with fail
    go_wp2_with (first | ((with_reducible refine wpList_putRow 25 (w.heap.size + 1) #[.int .i64 0, .string ⟨#[]⟩, .int .i64 0, .string ⟨#[]⟩, .string ⟨#[]⟩, .slice none 0 0, .slice none 0 0] _ _ X1 ?_ ?_ ?_ ?_ ?_ ?_); exact tySize; rfl; exact tyOne; (focus (first | (go_simp; done) | rfl)); (focus (first | (go_simp; done) | rfl))))
    exact ret_agg (fn := Try.f47) (vs := [.int .i64 0, .string ⟨#[]⟩, .int .i64 0, .string ⟨#[]⟩, .string ⟨#[]⟩, .slice none 0 0, .slice none 0 0]) (b := w.heap.size + 1) rfl rfl rfl Try.underlying25 (by kernel_rfl) (cell7 (setRow_heap _ (w.heap.size + 1) _ _ _ _ HX.out)) rfl FIN.out
  | true =>
    have hi := H2.out rfl
    have hil := (List.getElem?_eq_some_iff.1 hi).1
    obtain ⟨x, hx⟩ : ∃ x, t.subs[i]? = some x := ⟨_, List.getElem?_eq_getElem (by rw [HLL.out]; exact hil)⟩
    obtain ⟨g, o, v0, v1, v2, v3, v4, v5, v6, rfl, hg, h0, h1, h2, h3, h4, h5, h6, hx7⟩ := HSU.out i x hx
    obtain ⟨Bn, cB, Bs, cD, rfl, rfl, rfl, rfl, rfl, rfl, rfl⟩ := hx7.seven
    have hbw := below_over HB2.out HB3.out
    have e := fun (q : Nat) (v : Value) (hv : w0.cell? ⟨g, q, none⟩ = some v) => ((below_over HW0.out hbw).cell (p := ⟨g, q, none⟩) hg).trans hv
    have k0 := e _ _ h0
    have k1 := e _ _ h1
    have k2 := e _ _ h2
    have k3 := e _ _ h3
    have k4 := e _ _ h4
    have k5 := e _ _ h5
    have k6 := e _ _ h6
    have X0 := HX0.out w3 HB3.out
    have y6 := Lib.cell_of_heap X0 6
    simp at y6
    have FIN : Hid (PtOut0 w0 t s w (.returned (.tuple #[.agg #[.int .i64 x.kind, .string x.pkg, .int .i64 x.major, .string x.mod, .string x.name, .slice Bn x.names.length cB, .slice Bs x.subs.length cD], .bool true])) (w3.setRow (w.heap.size + 1) #[.int .i64 x.kind, .string x.pkg, .int .i64 x.major, .string x.mod, .string x.name, .slice Bn x.names.length cB, .slice Bs x.subs.length cD])) := Lib.hid
      ⟨[.int .i64 x.kind, .string x.pkg, .int .i64 x.major, .string x.mod, .string x.name, .slice Bn x.names.length cB, .slice Bs x.subs.length cD], true, rfl, setRow_below hbw (by omega) _, .inl ⟨rfl, x, ⟨i, hi, hx⟩, hx7⟩⟩
    have hi0 : (0 : Int) ≤ i := by omega
    have hi1 : (i : Int) < t.subs.length := by have := HLL.out; omega
    clear hi hx hx7 h0 h1 h2 h3 h4 h5 h6 e hbw X0
    go_upto_region 4 with fail
    go_wp2_with (first | ((with_reducible refine wpList_putRow 25 (w.heap.size + 1) #[.int .i64 x.kind, .string x.pkg, .int .i64 x.major, .string x.mod, .string x.name, .slice Bn x.names.length cB, .slice Bs x.subs.length cD] _ _ X1 ?_ ?_ ?_ ?_ ?_ ?_); exact tySize; rfl; exact tyOne; (focus (first | (go_simp; done) | rfl)); (focus (first | (go_simp; done) | rfl))))
    exact ret_agg (fn := Try.f47) (vs := [.int .i64 x.kind, .string x.pkg, .int .i64 x.major, .string x.mod, .string x.name, .slice Bn x.names.length cB, .slice Bs x.subs.length cD]) (b := w.heap.size + 1) rfl rfl rfl Try.underlying25 (by kernel_rfl) (cell7 (setRow_heap _ (w.heap.size + 1) _ _ _ _ HX.out)) rfl FIN.out
set_option maxRecDepth 100000 in
set_option maxHeartbeats 8000000 in
theorem same9_any (w0 : World) (up : Bool) (a b : Ty) (la lb : List Value) (w : World) (ga : GoodT a) (gb : GoodT b) (hk : a.kind = b.kind) (h4 : a.kind ≠ 4) (h5 : a.kind ≠ 5) (h6 : a.kind ≠ 6) (h7 : a.kind ≠ 7) (hTa : TyAt w0 la a) (hTb : TyAt w0 lb b) (hw0 : Below w0.heap.size w0 w) :
    Calls Try.prog 54 #[.agg la.toArray, .agg lb.toArray] w (BdOut w0 up a b w) := by
  have HTa := Lib.hid hTa
  have HTb := Lib.hid hTb
  have HW0 := Lib.hid hw0
  obtain ⟨An, cA, As, cS, rfl, -⟩ := hTa.parts
  obtain ⟨Bn, cB, Bs, cD, rfl, -⟩ := hTb.parts
  obtain ⟨W2, hW2, B2, O0, O1, hl2⟩ := two_boxes w #[.int .i64 a.kind, .string a.pkg, .int .i64 a.major, .string a.mod, .string a.name, .slice An a.names.length cA, .slice As a.subs.length cS] #[.int .i64 b.kind, .string b.pkg, .int .i64 b.major, .string b.mod, .string b.name, .slice Bn b.names.length cB, .slice Bs b.subs.length cD] 25 25
  have s2 : W2.heap.size = w.heap.size + 1 + 1 := by rw [hW2]; simp
  obtain ⟨W3, hW3⟩ : ∃ W3, W3 = W2.alloc (.cells #[.int .i64 0, .string ⟨#[]⟩, .int .i64 0, .string ⟨#[]⟩, .string ⟨#[]⟩, .slice none 0 0, .slice none 0 0] 25) := ⟨_, rfl⟩
  have B3 : Below W2.heap.size W2 W3 := by rw [hW3]; exact below_new (Below.refl _ _) _
  have s3 : W3.heap.size = w.heap.size + 1 + 1 + 1 := by rw [hW3]; simp [s2]
  have O2 : W3.heap[w.heap.size + 1 + 1]? = some (.cells #[.int .i64 0, .string ⟨#[]⟩, .int .i64 0, .string ⟨#[]⟩, .string ⟨#[]⟩, .slice none 0 0, .slice none 0 0] 25 (0, 0)) := by rw [hW3, ← s2]; exact heap_alloc_new W2 _
  have HB3 : Hid (Below w.heap.size w W3) := Lib.hid (below_over B2 B3)
  have HX0 : Hid (∀ wx, Below W3.heap.size W3 wx → wx.heap[w.heap.size]? = some (.cells #[.int .i64 a.kind, .string a.pkg, .int .i64 a.major, .string a.mod, .string a.name, .slice An a.names.length cA, .slice As a.subs.length cS] 25 (0, 0))) := Lib.hid (fun wx hb => (hb.block _ (by omega)).trans ((B3.block _ (by omega)).trans O0))
  have HX1 : Hid (W3.heap[w.heap.size + 1]? = some (.cells #[.int .i64 b.kind, .string b.pkg, .int .i64 b.major, .string b.mod, .string b.name, .slice Bn b.names.length cB, .slice Bs b.subs.length cD] 25 (0, 0))) := Lib.hid ((B3.block _ (by omega)).trans O1)
  have HR : Hid (∀ wx, Below W3.heap.size W3 wx → wx.heap[w.heap.size + 1 + 1]? = some (.cells #[.int .i64 0, .string ⟨#[]⟩, .int .i64 0, .string ⟨#[]⟩, .string ⟨#[]⟩, .slice none 0 0, .slice none 0 0] 25 (0, 0))) := Lib.hid (fun wx hb => (hb.block _ (by omega)).trans O2)
  have HW : Hid (((w.alloc (.cells #[.int .i64 a.kind, .string a.pkg, .int .i64 a.major, .string a.mod, .string a.name, .slice An a.names.length cA, .slice As a.subs.length cS] 25)).alloc (.cells #[.int .i64 b.kind, .string b.pkg, .int .i64 b.major, .string b.mod, .string b.name, .slice Bn b.names.length cB, .slice Bs b.subs.length cD] 25)).alloc (.cells #[.int .i64 0, .string ⟨#[]⟩, .int .i64 0, .string ⟨#[]⟩, .string ⟨#[]⟩, .slice none 0 0, .slice none 0 0] 25) = W3) := Lib.hid (by rw [hW3, hW2])
  have hbl : w.heap.size ≤ w.heap.size + 1 + 1 := by omega
  have CC := sameK_any a b (.agg #[.int .i64 a.kind, .string a.pkg, .int .i64 a.major, .string a.mod, .string a.name, .slice An a.names.length cA, .slice As a.subs.length cS]) (.agg #[.int .i64 b.kind, .string b.pkg, .int .i64 b.major, .string b.mod, .string b.name, .slice Bn b.names.length cB, .slice Bs b.subs.length cD]) W3 ⟨_, rfl, HTa.out.keep (below_over hw0 HB3.out)⟩ ⟨_, rfl, HTb.out.keep (below_over hw0 HB3.out)⟩
  rw [leaf_may ga h4 h5 h6 h7, leaf_may gb (by rw [← hk]; exact h4) (by rw [← hk]; exact h5) (by rw [← hk]; exact h6) (by rw [← hk]; exact h7)] at CC
  obtain ⟨q, hq⟩ : ∃ q, q = sameT a b := ⟨_, rfl⟩
  rw [Bool.and_self, Bool.true_and, ← hq] at CC
  have HC := Lib.hid CC
  have HYES : Hid (q = true → IsBnd up a b a) := Lib.hid (fun h => bnd_leaf h4 h5 h6 h7 ga ((sameT_iff a b).1 (hq.symm.trans h)))
  have HNO : Hid (q = false → NoBnd up a b) := Lib.hid (fun h => no_leaf h4 h5 h6 h7 (fun e => by have := (sameT_iff a b).2 e; rw [← hq, h] at this; cases this))
  have X0 := HX0.out W3 (Below.refl _ _)
  have X1 := HX1.out
  have x0 := Lib.cell_of_heap X0 0
  have x1 := Lib.cell_of_heap X0 1
  have x2 := Lib.cell_of_heap X0 2
  have x3 := Lib.cell_of_heap X0 3
  have x4 := Lib.cell_of_heap X0 4
  have x5 := Lib.cell_of_heap X0 5
  have x6 := Lib.cell_of_heap X0 6
  have y0 := Lib.cell_of_heap X1 0
  have y1 := Lib.cell_of_heap X1 1
  have y2 := Lib.cell_of_heap X1 2
  have y3 := Lib.cell_of_heap X1 3
  have y4 := Lib.cell_of_heap X1 4
  have y5 := Lib.cell_of_heap X1 5
  have y6 := Lib.cell_of_heap X1 6
  simp at x0 x1 x2 x3 x4 x5 x6 y0 y1 y2 y3 y4 y5 y6
  clear hW2 hW3 B2 B3 O0 O1 O2 s2 s3 hl2 hTa hTb ga gb hk h4 h5 h6 h7 CC hq hw0 X0 X1
  go_enter Try.func54, Try.ntmps54
  go_upto_region 1 with fail
  rw [HW.out]
  clear HW
  go_wp2_with fail
  refine HC.out.mono ?_; rintro e w4 ⟨rfl, hb4⟩
  have HB4 := Lib.hid hb4
  have X7 := HR.out w4 hb4
  have HX7 := Lib.hid X7
  have X0 := HX0.out w4 hb4
  clear x0 x1 x2 x3 x4 x5 x6 y0 y1 y2 y3 y4 y5 y6 hb4 HC
  have x0 := Lib.cell_of_heap X0 0
  have x1 := Lib.cell_of_heap X0 1
  have x2 := Lib.cell_of_heap X0 2
  have x3 := Lib.cell_of_heap X0 3
  have x4 := Lib.cell_of_heap X0 4
  have x5 := Lib.cell_of_heap X0 5
  have x6 := Lib.cell_of_heap X0 6
  simp at x0 x1 x2 x3 x4 x5 x6
  clear X0
  cases q with
  | false =>
    have FIN := Lib.hid (BdOut.zero (w0 := w0) (below_over HB3.out HB4.out) hbl (HNO.out rfl))
    go_upto_region 2 with fail
    go_wp2_with (first | ((with_reducible refine wpList_putRow 25 (w.heap.size + 1 + 1) #[.int .i64 0, .string ⟨#[]⟩, .int .i64 0, .string ⟨#[]⟩, .string ⟨#[]⟩, .slice none 0 0, .slice none 0 0] _ _ X7 ?_ ?_ ?_ ?_ ?_ ?_); exact tySize; rfl; exact tyOne; (focus (first | (go_simp; done) | rfl)); (focus (first | (go_simp; done) | rfl))))
    exact ret_agg (fn := Try.f54) (vs := [.int .i64 0, .string ⟨#[]⟩, .int .i64 0, .string ⟨#[]⟩, .string ⟨#[]⟩, .slice none 0 0, .slice none 0 0]) (b := w.heap.size + 1 + 1) rfl rfl rfl Try.underlying25 (by kernel_rfl) (cell7 (setRow_heap _ (w.heap.size + 1 + 1) _ _ _ _ HX7.out)) rfl FIN.out
  | true =>
    have FIN : Hid (BdOut w0 up a b w (.returned (.tuple #[.agg #[.int .i64 a.kind, .string a.pkg, .int .i64 a.major, .string a.mod, .string a.name, .slice An a.names.length cA, .slice As a.subs.length cS], .bool true])) (w4.setRow (w.heap.size + 1 + 1) #[.int .i64 a.kind, .string a.pkg, .int .i64 a.major, .string a.mod, .string a.name, .slice An a.names.length cA, .slice As a.subs.length cS])) := Lib.hid
      ⟨[.int .i64 a.kind, .string a.pkg, .int .i64 a.major, .string a.mod, .string a.name, .slice An a.names.length cA, .slice As a.subs.length cS], true, rfl, setRow_below (below_over HB3.out HB4.out) hbl _, .inl ⟨rfl, a, HYES.out rfl, HTa.out.base (below_over HW0.out (setRow_below (below_over HB3.out HB4.out) hbl _)) (fun k hk => hk.1)⟩⟩
    go_upto_region 3 with fail
    go_wp2_with (first | ((with_reducible refine wpList_putRow 25 (w.heap.size + 1 + 1) #[.int .i64 a.kind, .string a.pkg, .int .i64 a.major, .string a.mod, .string a.name, .slice An a.names.length cA, .slice As a.subs.length cS] _ _ X7 ?_ ?_ ?_ ?_ ?_ ?_); exact tySize; rfl; exact tyOne; (focus (first | (go_simp; done) | rfl)); (focus (first | (go_simp; done) | rfl))))
    exact ret_agg (fn := Try.f54) (vs := [.int .i64 a.kind, .string a.pkg, .int .i64 a.major, .string a.mod, .string a.name, .slice An a.names.length cA, .slice As a.subs.length cS]) (b := w.heap.size + 1 + 1) rfl rfl rfl Try.underlying25 (by kernel_rfl) (cell7 (setRow_heap _ (w.heap.size + 1 + 1) _ _ _ _ HX7.out)) rfl FIN.out
end Go.Proofs.Ytcdmgcgjonndpaa

/-  -/
namespace Go.Proofs.Ytcdmgcgjonndpaa
open Go Go.RowKit Go.Shelf
open Go.Sort
open M
structure RowB {α : Type} (R : Reads α) (S : Nat → Prop) (lo : Nat) (xs : List α) (A : Option Addr) (c : Nat) (w : World) : Prop where
  cells : ∃ C : List (List Value), C.length = xs.length ∧ w.ownsRow lo R.T R.k (.slice A xs.length c) xs.length C.flatten ∧
    ∀ (i : Nat) (l : List Value) (x : α), C[i]? = some l → xs[i]? = some x → R.E (strike (fun b => S b ∨ (Value.slice A xs.length c).ownBlock = some b) w) l x
theorem RowB.start {α : Type} (R : Reads α) (S : Nat → Prop) (lo : Nat) (w : World) : RowB R S lo [] none 0 w := ⟨[], rfl, World.ownsRow_nil _ _ _ _, fun i l x h => by simp at h⟩
theorem own_block {w w' : World} {B : Nat} {e : TypeId} {z : Nat} {v : Value} {n : Nat} {xs : List Value} (h : w.ownsRow B e z v n xs) (hb : ∀ b, v.ownBlock = some b → w'.heap[b]? = w.heap[b]?) : w'.ownsRow B e z v n xs := by
  refine ⟨h.1, ?_⟩
  rcases h.2 with h | ⟨g, cap, cur, hv, hB, hg, rest⟩
  · exact .inl h
  · exact .inr ⟨g, cap, cur, hv, hB, (hb g (by rw [hv]; rfl)).trans hg, rest⟩
theorem RowB.lt {α : Type} {R : Reads α} {S : Nat → Prop} {lo : Nat} {xs : List α} {A : Option Addr} {c : Nat} {w : World} (h : RowB R S lo xs A c w) {b : Nat} (e : (Value.slice A xs.length c).ownBlock = some b) : lo ≤ b ∧ b < w.heap.size := by
  obtain ⟨C, h1, h3, h4⟩ := h.cells
  exact h3.lt b e
theorem RowB.keep {α : Type} {R : Reads α} {S S' : Nat → Prop} {lo : Nat} {xs : List α} {A : Option Addr} {c : Nat} {w w' : World} (h : RowB R S lo xs A c w) (hz : w.heap.size ≤ w'.heap.size) (ho : ∀ b, (Value.slice A xs.length c).ownBlock = some b → w'.heap[b]? = w.heap[b]?)
    (hb : ∀ b, ¬ S b → (Value.slice A xs.length c).ownBlock ≠ some b → b < w.heap.size → ¬ S' b ∧ w'.heap[b]? = w.heap[b]?) : RowB R S' lo xs A c w' := by
  obtain ⟨C, h1, h3, h4⟩ := h.cells
  refine ⟨C, h1, own_block h3 ho, fun i l x hl hx => R.move _ _ _ _ _ _ (h4 i l x hl hx) hz fun b hlt hS => ?_⟩
  obtain ⟨k1, k2⟩ := hb b (fun e => hS (.inl e)) (fun e => hS (.inr e)) hlt
  exact ⟨fun e => e.elim k1 (fun e => hS (.inr e)), k2⟩
theorem RowB.more {α : Type} {R : Reads α} {S S' : Nat → Prop} {lo g cap c : Nat} {xs : List α} {A : Option Addr} {w1 w3 : World} {o : Obj} {l : List Value} {x : α} {C : List (List Value)}
    (hS' : ∀ b, S b ∨ (Value.slice A xs.length c).ownBlock = some b → S' b) (hSs : ∀ b, S b → b < w1.heap.size)
    (hC1 : C.length = xs.length) (hC4 : ∀ (i : Nat) (l : List Value) (x : α), C[i]? = some l → xs[i]? = some x → R.E (strike (fun b => S b ∨ (Value.slice A xs.length c).ownBlock = some b) w1) l x)
    (hE : R.E (strike S' w1) l x) (hown : w3.ownsRow lo R.T R.k (.slice (some ⟨g, 0, none⟩) (xs.length + 1) cap) (xs.length + 1) (C.flatten ++ l)) (hgrow : (w1.alloc o).grownBy w3 (Value.slice A xs.length c).ownBlock)
    (hat : (Value.slice A xs.length c).ownBlock = some g ∨ g = (w1.alloc o).heap.size) :
    RowB R S lo (xs ++ [x]) (some ⟨g, 0, none⟩) cap w3 ∧ (∀ b, (Value.slice A xs.length c).ownBlock ≠ some b → b < w1.heap.size → w3.heap[b]? = w1.heap[b]?) ∧ w1.heap.size ≤ w3.heap.size := by
  have hsz : (w1.alloc o).heap.size = w1.heap.size + 1 := by simp
  have hsz3 := hgrow.size
  have hold : ∀ b, b < w1.heap.size → (Value.slice A xs.length c).ownBlock ≠ some b → w3.heap[b]? = w1.heap[b]? := fun b hb hne => by
    rw [hgrow.block b (by omega) (fun e => hne e.symm)]
    exact Lib.alloc_old w1 o b hb
  have mv : ∀ l x, R.E (strike (fun b => S b ∨ (Value.slice A xs.length c).ownBlock = some b) w1) l x → R.E (strike (fun b => S b ∨ (Value.slice (some ⟨g, 0, none⟩) (xs ++ [x]).length cap).ownBlock = some b) w3) l x := fun l x hT => by
    refine R.move _ _ _ _ _ _ hT (by omega) fun b hb hS => ⟨?_, hold b hb (fun e => hS (.inr e))⟩
    rintro (e | e)
    · exact hS (.inl e)
    · simp [Value.ownBlock] at e
      subst e
      rcases hat with e | e
      · exact hS (.inr e)
      · omega
  have hT : R.E (strike (fun b => S b ∨ (Value.slice A xs.length c).ownBlock = some b) w1) l x := R.move _ _ _ _ _ _ hE (Nat.le_refl _) fun b hlt hS => ⟨fun e => hS (hS' b e), rfl⟩
  refine ⟨⟨C ++ [l], by simp [hC1], ?_, fun i y u hy hu => ?_⟩, fun b hb hlt => hold b hlt hb, by omega⟩
  · rw [List.length_append]
    simpa using hown
  · rcases Nat.lt_or_ge i xs.length with hi | hi
    · rw [List.getElem?_append_left (by omega)] at hy hu
      have := mv y u (hC4 i y u hy hu)
      simpa [Value.ownBlock] using this
    · have hi' := (List.getElem?_eq_some_iff.1 hy).1
      have : i = xs.length := by simp [hC1] at hi'; omega
      subst this
      rw [List.getElem?_append_right (by omega)] at hy hu
      simp [hC1] at hy
      simp at hu
      rw [← hy, ← hu]
      have := mv l x hT
      simpa [Value.ownBlock] using this
theorem RowB.done {α : Type} {R : Reads α} {S S' : Nat → Prop} {lo : Nat} {xs : List α} {A : Option Addr} {c : Nat} {w : World} (h : RowB R S lo xs A c w) (hS' : ∀ b, S' b → S b ∧ b < lo) : RowIn R (strike S' w) A xs := by
  intro i x hx
  obtain ⟨C, h1, h3, h4⟩ := h.cells
  have hi := (List.getElem?_eq_some_iff.1 hx).1
  have hl : C[i]? = some C[i] := List.getElem?_eq_getElem (by omega)
  have hall : ∀ l, l ∈ C → l.length = R.k := fun l hl => by
    obtain ⟨j, hj⟩ := List.mem_iff_getElem?.1 hl
    have hj' := (List.getElem?_eq_some_iff.1 hj).1
    exact R.len _ _ _ (h4 j l xs[j] hj (List.getElem?_eq_getElem (by omega)))
  have hE := h4 i _ x hl hx
  rcases h3.2 with ⟨e, -⟩ | ⟨g, cap, cur, hv, hB, hg, -, -, hcl, htake⟩
  · cases A with
    | none => simp at e; simp [e.1] at hi
    | some a => simp at e
  · simp at hv
    obtain ⟨rfl, -⟩ := hv
    refine ⟨g, 0, C[i], rfl, ?_, fun j v hv => strike_cell.2 ⟨fun e => by have := (hS' g e).2; omega, ?_⟩, R.move _ _ _ _ _ _ hE (Nat.le_refl _) fun b hlt hS => ⟨fun e => hS (.inl (hS' b e).1), rfl⟩⟩
    · rw [strike_size]; exact (Array.getElem?_eq_some_iff.1 hg).1
    · have hj := (List.getElem?_eq_some_iff.1 hv).1
      rw [hall _ (List.getElem_mem (by omega))] at hj
      have hf := flatk_at C hall i j _ hl hj
      rw [Lib.cell_of_heap hg, ← Array.getElem?_toList]
      have e2 : (cur.toList.take (xs.length * R.k))[i * R.k + j]? = C[i][j]? := by rw [htake, hf]
      rw [List.getElem?_take] at e2
      split at e2
      · rw [show 0 + i * R.k + j = i * R.k + j by omega, e2]; exact hv
      · rename_i hn
        have : (i + 1) * R.k ≤ xs.length * R.k := Nat.mul_le_mul_right _ hi
        rw [Nat.succ_mul] at this
        omega
theorem RowB.cap {α : Type} {R : Reads α} {S : Nat → Prop} {lo : Nat} {xs : List α} {A : Option Addr} {c : Nat} {w : World} (h : RowB R S lo xs A c w) : xs.length ≤ c := by
  obtain ⟨C, -, h3, -⟩ := h.cells
  rcases h3.2 with ⟨e, h0⟩ | ⟨g, cap, cur, hv, -, -, hnc, -⟩
  · omega
  · simp at hv; omega
end Go.Proofs.Ytcdmgcgjonndpaa

/-  -/
namespace Go.Proofs.Ytcdmgcgjonndpaa
open Go Go.RowKit Go.Shelf
open Go.Sort
open M
def BdCall (w0 : World) (f : FuncId) (up : Bool) (x y : Ty) : Prop := ∀ (lx ly : List Value) (w : World), TyAt w0 lx x → TyAt w0 ly y → Below w0.heap.size w0 w → Calls Try.prog f #[.agg lx.toArray, .agg ly.toArray] w (BdOut w0 up x y w)
structure PwI (w0 w : World) (up : Bool) (a b : Ty) (xs : List Ty) (A6 : Option Addr) (c6 : Nat) (wr : World) : Prop where
  below : Below w.heap.size w wr
  box : wr.heap[w.heap.size + 1 + 1 + 1]? = some (.cells #[.int .i64 a.kind, .string ⟨#[]⟩, .int .i64 0, .string ⟨#[]⟩, .string ⟨#[]⟩, .slice none 0 0, .slice A6 xs.length c6] 25 (0, 0))
  rows : RowB tR (fun k => w0.heap.size ≤ k ∧ k < w.heap.size + 1 + 1 + 1 + 1) (w.heap.size + 1 + 1 + 1 + 1) xs A6 c6 wr
  bnd : ∀ i x y z, a.subs[i]? = some x → b.subs[i]? = some y → xs[i]? = some z → IsBnd (if i + 1 = a.subs.length then up else !up) x y z
set_option maxRecDepth 100000 in
set_option maxHeartbeats 16000000 in
theorem partwiseJ_leaf (w0 : World) (a b : Ty) (la lb : List Value) (w : World) (ga : GoodT a) (gb : GoodT b) (hk : a.kind = b.kind) (h4 : a.kind ≠ 4) (h5 : a.kind ≠ 5) (h6 : a.kind ≠ 6) (h7 : a.kind ≠ 7) (hTa : TyAt w0 la a) (hTb : TyAt w0 lb b) (hw0 : Below w0.heap.size w0 w) :
    Calls Try.prog 43 #[.agg la.toArray, .agg lb.toArray, .func (.func 27) #[] #[], .func (.func 28) #[] #[]] w (BdOut w0 true a b w) := by
  have HTa := Lib.hid hTa
  have HTb := Lib.hid hTb
  have HW0 := Lib.hid hw0
  have hlen : a.subs.length = 0 := by rw [(ga.leaf h4 h5 h6 h7).1]; rfl
  obtain ⟨An, cA, As, cS, rfl, -⟩ := hTa.parts
  obtain ⟨Bn, cB, Bs, cD, rfl, -⟩ := hTb.parts
  obtain ⟨W2, hW2, B2, O0, O1, hl2⟩ := two_boxes w #[.int .i64 a.kind, .string a.pkg, .int .i64 a.major, .string a.mod, .string a.name, .slice An a.names.length cA, .slice As a.subs.length cS] #[.int .i64 b.kind, .string b.pkg, .int .i64 b.major, .string b.mod, .string b.name, .slice Bn b.names.length cB, .slice Bs b.subs.length cD] 25 25
  have s2 : W2.heap.size = w.heap.size + 1 + 1 := by rw [hW2]; simp
  obtain ⟨W3, hW3⟩ : ∃ W3, W3 = W2.alloc (.cells #[.int .i64 0, .string ⟨#[]⟩, .int .i64 0, .string ⟨#[]⟩, .string ⟨#[]⟩, .slice none 0 0, .slice none 0 0] 25) := ⟨_, rfl⟩
  have B3 : Below W2.heap.size W2 W3 := by rw [hW3]; exact below_new (Below.refl _ _) _
  have s3 : W3.heap.size = w.heap.size + 1 + 1 + 1 := by rw [hW3]; simp [s2]
  have O2 : W3.heap[w.heap.size + 1 + 1]? = some (.cells #[.int .i64 0, .string ⟨#[]⟩, .int .i64 0, .string ⟨#[]⟩, .string ⟨#[]⟩, .slice none 0 0, .slice none 0 0] 25 (0, 0)) := by rw [hW3, ← s2]; exact heap_alloc_new W2 _
  have HB3 : Hid (Below w.heap.size w W3) := Lib.hid (below_over B2 B3)
  have X0 : W3.heap[w.heap.size]? = some (.cells #[.int .i64 a.kind, .string a.pkg, .int .i64 a.major, .string a.mod, .string a.name, .slice An a.names.length cA, .slice As a.subs.length cS] 25 (0, 0)) := (B3.block _ (by omega)).trans O0
  have X1 : W3.heap[w.heap.size + 1]? = some (.cells #[.int .i64 b.kind, .string b.pkg, .int .i64 b.major, .string b.mod, .string b.name, .slice Bn b.names.length cB, .slice Bs b.subs.length cD] 25 (0, 0)) := (B3.block _ (by omega)).trans O1
  have HR : Hid (∀ wx, Below W3.heap.size W3 wx → wx.heap[w.heap.size + 1 + 1]? = some (.cells #[.int .i64 0, .string ⟨#[]⟩, .int .i64 0, .string ⟨#[]⟩, .string ⟨#[]⟩, .slice none 0 0, .slice none 0 0] 25 (0, 0))) := Lib.hid (fun wx hb => (hb.block _ (by omega)).trans O2)
  have HW : Hid (((w.alloc (.cells #[.int .i64 a.kind, .string a.pkg, .int .i64 a.major, .string a.mod, .string a.name, .slice An a.names.length cA, .slice As a.subs.length cS] 25)).alloc (.cells #[.int .i64 b.kind, .string b.pkg, .int .i64 b.major, .string b.mod, .string b.name, .slice Bn b.names.length cB, .slice Bs b.subs.length cD] 25)).alloc (.cells #[.int .i64 0, .string ⟨#[]⟩, .int .i64 0, .string ⟨#[]⟩, .string ⟨#[]⟩, .slice none 0 0, .slice none 0 0] 25) = W3) := Lib.hid (by rw [hW3, hW2])
  have HS3 := Lib.hid s3
  have CC := Lib.hid (same9_any w0 true a b _ _ W3 ga gb hk h4 h5 h6 h7 HTa.out HTb.out (below_over hw0 HB3.out))
  have x0 := Lib.cell_of_heap X0 0
  have x1 := Lib.cell_of_heap X0 1
  have x2 := Lib.cell_of_heap X0 2
  have x3 := Lib.cell_of_heap X0 3
  have x4 := Lib.cell_of_heap X0 4
  have x5 := Lib.cell_of_heap X0 5
  have x6 := Lib.cell_of_heap X0 6
  have y0 := Lib.cell_of_heap X1 0
  have y1 := Lib.cell_of_heap X1 1
  have y2 := Lib.cell_of_heap X1 2
  have y3 := Lib.cell_of_heap X1 3
  have y4 := Lib.cell_of_heap X1 4
  have y5 := Lib.cell_of_heap X1 5
  have y6 := Lib.cell_of_heap X1 6
  simp at x0 x1 x2 x3 x4 x5 x6 y0 y1 y2 y3 y4 y5 y6
  have HLEN := Lib.hid hlen
  have z6 : W3.cell? ⟨w.heap.size, 6, none⟩ = some (.slice As 0 cS) := by rw [← hlen]; exact x6
  rw [hlen] at CC
  rw [hlen]
  clear hW2 hW3 B2 B3 O0 O1 O2 s2 s3 hl2 hTa hTb ga gb hk h4 h5 h6 h7 hw0 X0 X1 x6 hlen
  go_enter Try.func43, Try.ntmps43
  go_upto_region 1 with fail
  have HWW := HW.out
  rw [HLEN.out] at HWW
  rw [HWW]
  clear HW HWW
  go_wp2_with fail
  refine CC.out.mono ?_; rintro e w4 ⟨l, q, rfl, hb4, hcase⟩
  have hsh : ∃ v, ShL l v := by
    rcases hcase with ⟨-, t, -, hT⟩ | ⟨-, rfl, -⟩
    · obtain ⟨Fn, cF, Fs, dF, rfl, -⟩ := hT.parts
      exact ⟨t, Fn, cF, Fs, dF, rfl⟩
    · exact ⟨zTy, none, 0, none, 0, rfl⟩
  obtain ⟨v, Fn, cF, Fs, dF, rfl⟩ := hsh
  have X7 := HR.out w4 hb4
  have HX7 := Lib.hid X7
  have FIN : Hid (BdOut w0 true a b w (.returned (.tuple #[.agg #[.int .i64 v.kind, .string v.pkg, .int .i64 v.major, .string v.mod, .string v.name, .slice Fn v.names.length cF, .slice Fs v.subs.length dF], .bool q])) (w4.setRow (w.heap.size + 1 + 1) #[.int .i64 v.kind, .string v.pkg, .int .i64 v.major, .string v.mod, .string v.name, .slice Fn v.names.length cF, .slice Fs v.subs.length dF])) := Lib.hid (by
    have hs3 := HS3.out
    refine ⟨_, q, rfl, setRow_below (below_over HB3.out hb4) (by omega) _, ?_⟩
    rcases hcase with ⟨h1, t, h2, hT⟩ | h
    · refine .inl ⟨h1, t, h2, hT.move (by rw [size_setRow]; exact Nat.le_refl _) fun k hk hS => ⟨fun e => hS ⟨e.1, by omega⟩, setRow_other _ _ _ _ (fun e => hS ⟨by have := HW0.out.size; omega, by omega⟩)⟩⟩
    · exact .inr h)
  clear x0 x1 x2 x3 x4 x5 z6 y0 y1 y2 y3 y4 y5 y6 hb4 hcase CC
  go_wp2_with (first | ((with_reducible refine wpList_putRow 25 (w.heap.size + 1 + 1) #[.int .i64 v.kind, .string v.pkg, .int .i64 v.major, .string v.mod, .string v.name, .slice Fn v.names.length cF, .slice Fs v.subs.length dF] _ _ X7 ?_ ?_ ?_ ?_ ?_ ?_); exact tySize; rfl; exact tyOne; (focus (first | (go_simp; done) | rfl)); (focus (first | (go_simp; done) | rfl))))
  exact ret_agg (fn := Try.f43) (vs := [.int .i64 v.kind, .string v.pkg, .int .i64 v.major, .string v.mod, .string v.name, .slice Fn v.names.length cF, .slice Fs v.subs.length dF]) (b := w.heap.size + 1 + 1) rfl rfl rfl Try.underlying25 (by kernel_rfl) (cell7 (setRow_heap _ (w.heap.size + 1 + 1) _ _ _ _ HX7.out)) rfl FIN.out
set_option maxRecDepth 100000 in
set_option maxHeartbeats 16000000 in
theorem partwiseM_leaf (w0 : World) (a b : Ty) (la lb : List Value) (w : World) (ga : GoodT a) (gb : GoodT b) (hk : a.kind = b.kind) (h4 : a.kind ≠ 4) (h5 : a.kind ≠ 5) (h6 : a.kind ≠ 6) (h7 : a.kind ≠ 7) (hTa : TyAt w0 la a) (hTb : TyAt w0 lb b) (hw0 : Below w0.heap.size w0 w) :
    Calls Try.prog 43 #[.agg la.toArray, .agg lb.toArray, .func (.func 28) #[] #[], .func (.func 27) #[] #[]] w (BdOut w0 false a b w) := by
  have HTa := Lib.hid hTa
  have HTb := Lib.hid hTb
  have HW0 := Lib.hid hw0
  have hlen : a.subs.length = 0 := by rw [(ga.leaf h4 h5 h6 h7).1]; rfl
  obtain ⟨An, cA, As, cS, rfl, -⟩ := hTa.parts
  obtain ⟨Bn, cB, Bs, cD, rfl, -⟩ := hTb.parts
  obtain ⟨W2, hW2, B2, O0, O1, hl2⟩ := two_boxes w #[.int .i64 a.kind, .string a.pkg, .int .i64 a.major, .string a.mod, .string a.name, .slice An a.names.length cA, .slice As a.subs.length cS] #[.int .i64 b.kind, .string b.pkg, .int .i64 b.major, .string b.mod, .string b.name, .slice Bn b.names.length cB, .slice Bs b.subs.length cD] 25 25
  have s2 : W2.heap.size = w.heap.size + 1 + 1 := by rw [hW2]; simp
  obtain ⟨W3, hW3⟩ : ∃ W3, W3 = W2.alloc (.cells #[.int .i64 0, .string ⟨#[]⟩, .int .i64 0, .string ⟨#[]⟩, .string ⟨#[]⟩, .slice none 0 0, .slice none 0 0] 25) := ⟨_, rfl⟩
  have B3 : Below W2.heap.size W2 W3 := by rw [hW3]; exact below_new (Below.refl _ _) _
  have s3 : W3.heap.size = w.heap.size + 1 + 1 + 1 := by rw [hW3]; simp [s2]
  have O2 : W3.heap[w.heap.size + 1 + 1]? = some (.cells #[.int .i64 0, .string ⟨#[]⟩, .int .i64 0, .string ⟨#[]⟩, .string ⟨#[]⟩, .slice none 0 0, .slice none 0 0] 25 (0, 0)) := by rw [hW3, ← s2]; exact heap_alloc_new W2 _
  have HB3 : Hid (Below w.heap.size w W3) := Lib.hid (below_over B2 B3)
  have X0 : W3.heap[w.heap.size]? = some (.cells #[.int .i64 a.kind, .string a.pkg, .int .i64 a.major, .string a.mod, .string a.name, .slice An a.names.length cA, .slice As a.subs.length cS] 25 (0, 0)) := (B3.block _ (by omega)).trans O0
  have X1 : W3.heap[w.heap.size + 1]? = some (.cells #[.int .i64 b.kind, .string b.pkg, .int .i64 b.major, .string b.mod, .string b.name, .slice Bn b.names.length cB, .slice Bs b.subs.length cD] 25 (0, 0)) := (B3.block _ (by omega)).trans O1
  have HR : Hid (∀ wx, Below W3.heap.size W3 wx → wx.heap[w.heap.size + 1 + 1]? = some (.cells #[.int .i64 0, .string ⟨#[]⟩, .int .i64 0, .string ⟨#[]⟩, .string ⟨#[]⟩, .slice none 0 0, .slice none 0 0] 25 (0, 0))) := Lib.hid (fun wx hb => (hb.block _ (by omega)).trans O2)
  have HW : Hid (((w.alloc (.cells #[.int .i64 a.kind, .string a.pkg, .int .i64 a.major, .string a.mod, .string a.name, .slice An a.names.length cA, .slice As a.subs.length cS] 25)).alloc (.cells #[.int .i64 b.kind, .string b.pkg, .int .i64 b.major, .string b.mod, .string b.name, .slice Bn b.names.length cB, .slice Bs b.subs.length cD] 25)).alloc (.cells #[.int .i64 0, .string ⟨#[]⟩, .int .i64 0, .string ⟨#[]⟩, .string ⟨#[]⟩, .slice none 0 0, .slice none 0 0] 25) = W3) := Lib.hid (by rw [hW3, hW2])
  have HS3 := Lib.hid s3
  have CC := Lib.hid (same9_any w0 false a b _ _ W3 ga gb hk h4 h5 h6 h7 HTa.out HTb.out (below_over hw0 HB3.out))
  have x0 := Lib.cell_of_heap X0 0
  have x1 := Lib.cell_of_heap X0 1
  have x2 := Lib.cell_of_heap X0 2
  have x3 := Lib.cell_of_heap X0 3
  have x4 := Lib.cell_of_heap X0 4
  have x5 := Lib.cell_of_heap X0 5
  have x6 := Lib.cell_of_heap X0 6
  have y0 := Lib.cell_of_heap X1 0
  have y1 := Lib.cell_of_heap X1 1
  have y2 := Lib.cell_of_heap X1 2
  have y3 := Lib.cell_of_heap X1 3
  have y4 := Lib.cell_of_heap X1 4
  have y5 := Lib.cell_of_heap X1 5
  have y6 := Lib.cell_of_heap X1 6
  simp at x0 x1 x2 x3 x4 x5 x6 y0 y1 y2 y3 y4 y5 y6
  have HLEN := Lib.hid hlen
  have z6 : W3.cell? ⟨w.heap.size, 6, none⟩ = some (.slice As 0 cS) := by rw [← hlen]; exact x6
  rw [hlen] at CC
  rw [hlen]
  clear hW2 hW3 B2 B3 O0 O1 O2 s2 s3 hl2 hTa hTb ga gb hk h4 h5 h6 h7 hw0 X0 X1 x6 hlen
  go_enter Try.func43, Try.ntmps43
  go_upto_region 1 with fail
  have HWW := HW.out
  rw [HLEN.out] at HWW
  rw [HWW]
  clear HW HWW
  go_wp2_with fail
  refine CC.out.mono ?_; rintro e w4 ⟨l, q, rfl, hb4, hcase⟩
  have hsh : ∃ v, ShL l v := by
    rcases hcase with ⟨-, t, -, hT⟩ | ⟨-, rfl, -⟩
    · obtain ⟨Fn, cF, Fs, dF, rfl, -⟩ := hT.parts
      exact ⟨t, Fn, cF, Fs, dF, rfl⟩
    · exact ⟨zTy, none, 0, none, 0, rfl⟩
  obtain ⟨v, Fn, cF, Fs, dF, rfl⟩ := hsh
  have X7 := HR.out w4 hb4
  have HX7 := Lib.hid X7
  have FIN : Hid (BdOut w0 false a b w (.returned (.tuple #[.agg #[.int .i64 v.kind, .string v.pkg, .int .i64 v.major, .string v.mod, .string v.name, .slice Fn v.names.length cF, .slice Fs v.subs.length dF], .bool q])) (w4.setRow (w.heap.size + 1 + 1) #[.int .i64 v.kind, .string v.pkg, .int .i64 v.major, .string v.mod, .string v.name, .slice Fn v.names.length cF, .slice Fs v.subs.length dF])) := Lib.hid (by
    have hs3 := HS3.out
    refine ⟨_, q, rfl, setRow_below (below_over HB3.out hb4) (by omega) _, ?_⟩
    rcases hcase with ⟨h1, t, h2, hT⟩ | h
    · refine .inl ⟨h1, t, h2, hT.move (by rw [size_setRow]; exact Nat.le_refl _) fun k hk hS => ⟨fun e => hS ⟨e.1, by omega⟩, setRow_other _ _ _ _ (fun e => hS ⟨by have := HW0.out.size; omega, by omega⟩)⟩⟩
    · exact .inr h)
  clear x0 x1 x2 x3 x4 x5 z6 y0 y1 y2 y3 y4 y5 y6 hb4 hcase CC
  go_wp2_with (first | ((with_reducible refine wpList_putRow 25 (w.heap.size + 1 + 1) #[.int .i64 v.kind, .string v.pkg, .int .i64 v.major, .string v.mod, .string v.name, .slice Fn v.names.length cF, .slice Fs v.subs.length dF] _ _ X7 ?_ ?_ ?_ ?_ ?_ ?_); exact tySize; rfl; exact tyOne; (focus (first | (go_simp; done) | rfl)); (focus (first | (go_simp; done) | rfl))))
  exact ret_agg (fn := Try.f43) (vs := [.int .i64 v.kind, .string v.pkg, .int .i64 v.major, .string v.mod, .string v.name, .slice Fn v.names.length cF, .slice Fs v.subs.length dF]) (b := w.heap.size + 1 + 1) rfl rfl rfl Try.underlying25 (by kernel_rfl) (cell7 (setRow_heap _ (w.heap.size + 1 + 1) _ _ _ _ HX7.out)) rfl FIN.out
end Go.Proofs.Ytcdmgcgjonndpaa

/-  -/
namespace Go.Proofs.Ytcdmgcgjonndpaa
open Go Go.RowKit Go.Shelf
open Go.Sort
open M
def outT (a : Ty) (xs : List Ty) : Ty := .mk a.kind ⟨#[]⟩ 0 ⟨#[]⟩ ⟨#[]⟩ [] xs
def PwR (w0 wo : World) (up : Bool) (x y : Ty) (b : Nat) (l : List Value) (q : Bool) (wx : World) : Prop :=
  wx.heap[b]? = some (.cells l.toArray 25 (0, 0)) ∧ wo.heap.size ≤ b ∧ Below wo.heap.size wo wx ∧ (∃ v, ShL l v) ∧ ((q = true ∧ ∃ t, IsBnd up x y t ∧ TyAt (strike (fun k => w0.heap.size ≤ k ∧ k < wo.heap.size) wx) l t) ∨ (q = false ∧ NoBnd up x y))
theorem PwR.made {w0 wo wa w2 w3 : World} {up q : Bool} {x y : Ty} {b : Nat} {l : List Value} (hb2 : Below wa.heap.size wa w2) (h : (q = true ∧ ∃ t, IsBnd up x y t ∧ TyAt (strike (fun k => w0.heap.size ≤ k ∧ k < wa.heap.size) w2) l t) ∨ (q = false ∧ l = [.int .i64 0, .string ⟨#[]⟩, .int .i64 0, .string ⟨#[]⟩, .string ⟨#[]⟩, .slice none 0 0, .slice none 0 0] ∧ NoBnd up x y)) (hsh : ∃ v, ShL l v) (h0 : w0.heap.size ≤ wo.heap.size) (ha : wo.heap.size ≤ wa.heap.size) (hb : wo.heap.size ≤ b) (hb' : b < wa.heap.size ∨ w2.heap.size ≤ b) (hX : w3.heap[b]? = some (.cells l.toArray 25 (0, 0))) (hB : Below wo.heap.size wo w3) (h3 : ∀ x, x < w2.heap.size → x ≠ b → w3.heap[x]? = w2.heap[x]?) (hz : w2.heap.size ≤ w3.heap.size) : PwR w0 wo up x y b l q w3 := by
  refine ⟨hX, hb, hB, hsh, ?_⟩
  rcases h with ⟨h1, t, h2, hT⟩ | ⟨h1, -, h2⟩
  · exact .inl ⟨h1, t, h2, hT.move hz fun k hk hS => ⟨fun e => hS ⟨e.1, by omega⟩, h3 k hk (fun e => hS ⟨by omega, by omega⟩)⟩⟩
  · exact .inr ⟨h1, h2⟩
theorem bd_shape {w0 wa w2 : World} {up q : Bool} {x y : Ty} {l : List Value} (h : (q = true ∧ ∃ t, IsBnd up x y t ∧ TyAt (strike (fun k => w0.heap.size ≤ k ∧ k < wa.heap.size) w2) l t) ∨ (q = false ∧ l = [.int .i64 0, .string ⟨#[]⟩, .int .i64 0, .string ⟨#[]⟩, .string ⟨#[]⟩, .slice none 0 0, .slice none 0 0] ∧ NoBnd up x y)) : ∃ v, ShL l v := by
  rcases h with ⟨-, t, -, hT⟩ | ⟨-, rfl, -⟩
  · obtain ⟨Fn, cF, Fs, dF, rfl, -⟩ := hT.parts
    exact ⟨t, Fn, cF, Fs, dF, rfl⟩
  · exact ⟨zTy, none, 0, none, 0, rfl⟩
theorem PwI.done {w0 w wr : World} {up : Bool} {a b : Ty} {xs : List Ty} {A6 : Option Addr} {c6 : Nat} (h : PwI w0 w up a b xs A6 c6 wr) (ga : GoodT a) (hk : a.kind = b.kind) (h47 : a.kind = 4 ∨ a.kind = 7) (hl : xs.length = a.subs.length) (hl2 : a.subs.length = b.subs.length) (hz : xs.length ≤ 9223372036854775807) (h0 : w0.heap.size ≤ w.heap.size) :
    BdOut w0 up a b w (.returned (.tuple #[.agg #[.int .i64 a.kind, .string ⟨#[]⟩, .int .i64 0, .string ⟨#[]⟩, .string ⟨#[]⟩, .slice none 0 0, .slice A6 xs.length c6], .bool true])) (wr.setRow (w.heap.size + 1 + 1) #[.int .i64 a.kind, .string ⟨#[]⟩, .int .i64 0, .string ⟨#[]⟩, .string ⟨#[]⟩, .slice none 0 0, .slice A6 xs.length c6]) := by
  refine ⟨[.int .i64 a.kind, .string ⟨#[]⟩, .int .i64 0, .string ⟨#[]⟩, .string ⟨#[]⟩, .slice none 0 0, .slice A6 xs.length c6], true, rfl, setRow_below h.below (by omega) _, .inl ⟨rfl, outT a xs, ?_, ?_⟩⟩
  · exact bnd_parts h47 ga hk rfl ⟨rfl, rfl, rfl, rfl⟩ rfl hl2 hl.symm fun i x y z hx hy hz => h.bnd i x y z hx hy hz
  · exact ty_made (t := outT a xs) (by show (⟨#[]⟩ : ByteArray).size ≤ 9223372036854775807; decide) (by show (⟨#[]⟩ : ByteArray).size ≤ 9223372036854775807; decide) (by show (⟨#[]⟩ : ByteArray).size ≤ 9223372036854775807; decide) (by show ([] : List ByteArray).length ≤ 9223372036854775807; decide) hz h.rows.cap (fun i s hs => by simp [outT, Ty.names] at hs) ((h.rows.done (S' := fun k => w0.heap.size ≤ k ∧ k < w.heap.size + 1 + 1 + 1 + 1) (fun k hk => ⟨hk, hk.2⟩)).move (by rw [size_setRow]; exact Nat.le_refl _) fun k hlt hS => ⟨fun e => hS ⟨e.1, by omega⟩, setRow_other _ _ _ _ (fun e => hS ⟨by omega, by omega⟩)⟩)
end Go.Proofs.Ytcdmgcgjonndpaa

/-  -/
namespace Go.Proofs.Ytcdmgcgjonndpaa
open Go
open Go.Sort
open M
def ordU (l : List ByteArray) : List (List UInt8) := (l.map (·.data.toList)).mergeSort fun x y => decide (x ≤ y)
theorem ordU_len (l : List ByteArray) : (ordU l).length = l.length := by unfold ordU; rw [List.length_mergeSort, List.length_map]
def uniS (l : List ByteArray) : List (List UInt8) := Lib.compact (ordU l)
def uniN (l : List ByteArray) : List ByteArray := (uniS l).map fun x => ⟨x.toArray⟩
theorem compact_up {zs : List (List UInt8)} (h : zs.Pairwise (· ≤ ·)) : (Lib.compact zs).Pairwise (· < ·) := by
  unfold Lib.compact Lib.compactUpTo
  rw [List.pairwise_map]
  refine (List.Pairwise.filter (Lib.keeps zs.toArray) (List.pairwise_lt_range (n := zs.length))).imp_of_mem ?_
  intro i j hi hj hij
  have hj1 := (List.mem_filter.1 hj).1
  have hj2 := (List.mem_filter.1 hj).2
  have hi1 := (List.mem_filter.1 hi).1
  simp at hj1 hi1
  have hne : zs.toArray[j]! ≠ zs.toArray[j - 1]! := by
    unfold Lib.keeps at hj2
    have := of_decide_eq_true hj2
    rcases this with e | e
    · omega
    · exact e
  have e0 : zs.toArray[i]! = zs[i] := by rw [getElem!_pos _ _ (by simpa using hi1)]; simp
  have e1 : zs.toArray[j]! = zs[j] := by rw [getElem!_pos _ _ (by simpa using hj1)]; simp
  have e2 : zs.toArray[j - 1]! = zs[j - 1]'(by omega) := by rw [getElem!_pos _ _ (by simp; omega)]; simp
  rw [e1, e2] at hne
  rw [e0, e1]
  have hle : zs[j - 1]'(by omega) ≤ zs[j] := List.pairwise_iff_getElem.1 h (j - 1) j (by omega) hj1 (by omega)
  have hlt : zs[j - 1]'(by omega) < zs[j] := by
    by_cases c : zs[j - 1]'(by omega) < zs[j]
    · exact c
    · exact absurd (List.le_antisymm (α := UInt8) c hle) hne
  by_cases e : i = j - 1
  · subst e; exact hlt
  · have := List.pairwise_iff_getElem.1 h i (j - 1) hi1 (by omega) (by omega)
    exact List.lt_of_le_of_lt this hlt
theorem compact_mem {zs : List (List UInt8)} (x : List UInt8) : x ∈ Lib.compact zs ↔ x ∈ zs := by
  unfold Lib.compact Lib.compactUpTo
  rw [List.mem_map]
  constructor
  · rintro ⟨i, hi, rfl⟩
    have := (List.mem_filter.1 hi).1
    simp at this
    rw [getElem!_pos _ _ (by simpa using this)]
    simp
  · intro hx
    obtain ⟨i, hi⟩ := List.getElem?_of_mem hx
    have key : ∀ (i : Nat), zs[i]? = some x → ∃ a, a ∈ (List.range zs.length).filter (Lib.keeps zs.toArray) ∧ zs.toArray[a]! = x := by
      intro i
      induction i with
      | zero =>
        intro h
        obtain ⟨h1, h2⟩ := List.getElem?_eq_some_iff.1 h
        exact ⟨0, List.mem_filter.2 ⟨by simpa using h1, by simp [Lib.keeps]⟩, by rw [getElem!_pos _ _ (by simpa using h1)]; simpa using h2⟩
      | succ i ih =>
        intro h
        obtain ⟨h1, h2⟩ := List.getElem?_eq_some_iff.1 h
        have e1 : zs.toArray[i + 1]! = x := by rw [getElem!_pos _ _ (by simpa using h1)]; simpa using h2
        cases hk : Lib.keeps zs.toArray (i + 1) with
        | true => exact ⟨i + 1, List.mem_filter.2 ⟨by simpa using h1, hk⟩, e1⟩
        | false =>
          unfold Lib.keeps at hk
          have hk := of_decide_eq_false hk
          simp only [not_or, Decidable.not_not, Nat.add_sub_cancel, ne_eq] at hk
          refine ih ?_
          have e2 := hk.2.symm.trans e1
          rw [getElem!_pos _ _ (by simp; omega)] at e2
          rw [List.getElem?_eq_some_iff]
          exact ⟨by omega, by simpa using e2⟩
    exact key i hi
theorem ordU_up (l : List ByteArray) : (ordU l).Pairwise (· ≤ ·) := by
  unfold ordU
  refine (List.pairwise_mergeSort (fun a b c h1 h2 => ?_) (fun a b => ?_) _).imp (fun h => of_decide_eq_true h)
  · exact decide_eq_true (List.le_trans (of_decide_eq_true h1) (of_decide_eq_true h2))
  · rcases List.le_total a b with h | h
    · simp [h]
    · simp [h]
theorem uniN_rise (l : List ByteArray) : Rising (uniN l) := by
  unfold uniN uniS
  show List.Pairwise _ _
  rw [List.pairwise_map]
  refine (compact_up (ordU_up l)).imp fun h => ?_
  show LtS _ _
  unfold LtS
  simpa using h
theorem uniN_mem (l : List ByteArray) (s : ByteArray) : s ∈ uniN l ↔ s ∈ l := by
  unfold uniN uniS
  rw [List.mem_map]
  constructor
  · rintro ⟨x, hx, rfl⟩
    rw [compact_mem] at hx
    unfold ordU at hx
    rw [List.mem_mergeSort, List.mem_map] at hx
    obtain ⟨y, hy, rfl⟩ := hx
    have : (⟨y.data.toList.toArray⟩ : ByteArray) = y := by cases y; simp
    rw [this]; exact hy
  · intro hs
    refine ⟨s.data.toList, (compact_mem _).2 ?_, by cases s; simp⟩
    unfold ordU
    rw [List.mem_mergeSort]
    exact List.mem_map_of_mem hs
theorem uniS_le (l : List ByteArray) : (uniS l).length ≤ l.length := by
  unfold uniS Lib.compact Lib.compactUpTo
  rw [List.length_map]
  refine Nat.le_trans (List.length_filter_le _ _) ?_
  simp [ordU_len]
theorem uniN_len (l : List ByteArray) : (uniN l).length = (uniS l).length := by unfold uniN; simp
end Go.Proofs.Ytcdmgcgjonndpaa
