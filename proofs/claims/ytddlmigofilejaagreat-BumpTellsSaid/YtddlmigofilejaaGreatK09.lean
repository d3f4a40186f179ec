/-
  Several texts in one.
-/
import Derived.Test.YtddlmigofilejaaGreatK08
import Derived.Lib.AppendZeros
set_option maxRecDepth 100000
set_option maxHeartbeats 8000000
namespace Go.Proofs.YtddlmigofilejaaGreat
open Go Go.RowKit Go.Shelf
open Go.Sort
open M
def PtOut (t : Ty) (s : ByteArray) (w : World) (e : Ending) (w' : World) : Prop :=
  ∃ (l : List Value) (x : Ty) (b : Bool), e = .returned (.tuple #[.agg l.toArray, .bool b]) /\ TyAt w' l x /\ Below w.heap.size w w' /\ ((b = true /\ AtN t s x) \/ (b = false /\ x = zTy /\ ∀ y, ¬ AtN t s y))
theorem zeroT_at (w : World) : TyAt w [.int .i64 0, .string ⟨#[]⟩, .int .i64 0, .string ⟨#[]⟩, .string ⟨#[]⟩, .slice none 0 0, .slice none 0 0] zTy :=
  .mk 0 ⟨#[]⟩ 0 ⟨#[]⟩ ⟨#[]⟩ [] [] none 0 none 0 (fun _ => [.int .i64 0, .string ⟨#[]⟩, .int .i64 0, .string ⟨#[]⟩, .string ⟨#[]⟩, .slice none 0 0, .slice none 0 0]) (by decide) (by decide) (by decide) (by decide) (by decide) (by decide) (fun i s h => by simp at h) (fun _ => rfl) (fun i t h => by simp at h) (fun i t h => by simp at h)
theorem part_any (t : Ty) (lt : List Value) (s : ByteArray) (w : World) (hT : TyAt w lt t) (hr : Rising t.names) (hl : t.subs.length = t.names.length) (hz : t.names.length <= 1000000) :
    Calls Tryz.prog 159 #[.agg lt.toArray, .string s] w (PtOut t s w) := by
  have HT := hZ hT;obtain ⟨An, cA, As, cS, rfl, -, -, -, -, -, hNA, hSu⟩ := hT.parts;obtain ⟨W2, hW2, B2, O0, O1, hl2⟩ := two_boxes w #[.int .i64 t.kind, .string t.pkg, .int .i64 t.major, .string t.mod, .string t.name, .slice An t.names.length cA, .slice As t.subs.length cS] #[.int .i64 0, .string ⟨#[]⟩, .int .i64 0, .string ⟨#[]⟩, .string ⟨#[]⟩, .slice none 0 0, .slice none 0 0] 50 50;have HB2 := hZ B2;have HX0 : Hid (∀ wx, Below W2.heap.size W2 wx -> wx.heap[w.heap.size]? = some (.cells #[.int .i64 t.kind, .string t.pkg, .int .i64 t.major, .string t.mod, .string t.name, .slice An t.names.length cA, .slice As t.subs.length cS] 50 (0, 0))) := hZ (fun wx hb => (hb.block _ (by omega)).trans O0);have HX1 : Hid (∀ wx, Below W2.heap.size W2 wx -> wx.heap[w.heap.size + 1]? = some (.cells #[.int .i64 0, .string ⟨#[]⟩, .int .i64 0, .string ⟨#[]⟩, .string ⟨#[]⟩, .slice none 0 0, .slice none 0 0] 50 (0, 0))) := hZ (fun wx hb => (hb.block _ (by omega)).trans O1);have HSU := hZ hSu;have HR := hZ hr;have HLL := hZ hl;have HW := hZ hW2
  have CS := hZ (search_any An t.names.length cA t.names s W2 rfl (by omega) (fun i x hx => by
    obtain ⟨g, o, hA, hg, hc, hz⟩ := hNA i x hx;exact ⟨g, o, hA, Nat.lt_of_lt_of_le hg B2.size, (B2.cell (p := ⟨g, _, none⟩) hg).trans hc, hz⟩) hr)
  have X0 := HX0.out W2 (Below.refl _ _);have x5 := cZ X0 5;simp at x5;clear hW2 B2 O0 O1 hT hNA hSu hr hl X0;go_enter Tryz.func159, Tryz.ntmps159
  go_upto_region 1 with fail
  rw [<- HW.out];clear HW;go_wp2_with fail
  refine CS.out.mono ?_; rintro e w3 ⟨i, b, rfl, hb1, hb2, hb3⟩
  have HB3 := hZ hb3;have H1 := hZ hb1;have H2 := hZ hb2;have X1 := HX1.out w3 hb3;have HX := hZ X1;clear x5 hb1 hb2 hb3 CS;cases b with
  | false =>
    have FIN : Hid (PtOut t s w (.returned (.tuple #[.agg #[.int .i64 0, .string ⟨#[]⟩, .int .i64 0, .string ⟨#[]⟩, .string ⟨#[]⟩, .slice none 0 0, .slice none 0 0], .bool false])) (w3.setRow (w.heap.size + 1) #[.int .i64 0, .string ⟨#[]⟩, .int .i64 0, .string ⟨#[]⟩, .string ⟨#[]⟩, .slice none 0 0, .slice none 0 0])) := hZ
      ⟨[.int .i64 0, .string ⟨#[]⟩, .int .i64 0, .string ⟨#[]⟩, .string ⟨#[]⟩, .slice none 0 0, .slice none 0 0], zTy, false, rfl, zeroT_at _, setRow_below (below_over HB2.out HB3.out) (by omega) _, .inr ⟨rfl, rfl, fun y hy => by have := H1.out.2 hy.name; cases this⟩⟩
    go_upto_region 3 with fail
    go_wp2_with (first | ((with_reducible refine wpList_putRow 50 (w.heap.size + 1) #[.int .i64 0, .string ⟨#[]⟩, .int .i64 0, .string ⟨#[]⟩, .string ⟨#[]⟩, .slice none 0 0, .slice none 0 0] _ _ X1 ?_ ?_ ?_ ?_ ?_ ?_); exact tySize; rfl; exact tyOne; iterate 2 (focus (first | (go_simp; done) | rfl))))
    exact ret_agg (fn := Tryz.f159) (vs := [.int .i64 0, .string ⟨#[]⟩, .int .i64 0, .string ⟨#[]⟩, .string ⟨#[]⟩, .slice none 0 0, .slice none 0 0]) (b := w.heap.size + 1) rfl rfl rfl Tryz.underlying50 (by kernel_rfl) (cell7 (setRow_heap _ (w.heap.size + 1) _ _ _ _ HX.out)) rfl FIN.out
  | true =>
    have hi := H2.out rfl;have hil := (List.getElem?_eq_some_iff.1 hi).1;obtain ⟨x, hx⟩ : ∃ x, t.subs[i]? = some x := ⟨_, List.getElem?_eq_getElem (by rw [HLL.out]; exact hil)⟩;obtain ⟨g, o, v0, v1, v2, v3, v4, v5, v6, rfl, hg, h0, h1, h2, h3, h4, h5, h6, hx7⟩ := HSU.out i x hx;obtain ⟨Bn, cB, Bs, cD, rfl, rfl, rfl, rfl, rfl, rfl, rfl⟩ := hx7.seven;have hbw := below_over HB2.out HB3.out;have e := fun (q : Nat) (v : Value) (hv : w.cell? ⟨g, q, none⟩ = some v) => (hbw.cell (p := ⟨g, q, none⟩) hg).trans hv
    have k0 := e _ _ h0;have k1 := e _ _ h1;have k2 := e _ _ h2;have k3 := e _ _ h3;have k4 := e _ _ h4;have k5 := e _ _ h5;have k6 := e _ _ h6;have X0 := HX0.out w3 HB3.out;have y6 := cZ X0 6;simp at y6
    have FIN : Hid (PtOut t s w (.returned (.tuple #[.agg #[.int .i64 x.kind, .string x.pkg, .int .i64 x.major, .string x.mod, .string x.name, .slice Bn x.names.length cB, .slice Bs x.subs.length cD], .bool true])) (w3.setRow (w.heap.size + 1) #[.int .i64 x.kind, .string x.pkg, .int .i64 x.major, .string x.mod, .string x.name, .slice Bn x.names.length cB, .slice Bs x.subs.length cD])) := hZ
      ⟨[.int .i64 x.kind, .string x.pkg, .int .i64 x.major, .string x.mod, .string x.name, .slice Bn x.names.length cB, .slice Bs x.subs.length cD], x, true, rfl, hx7.keep (setRow_below hbw (by omega) _), setRow_below hbw (by omega) _, .inl ⟨rfl, i, hi, hx⟩⟩
    have hi0 : (0 : Int) <= i := by omega
    have hi1 : (i : Int) < t.subs.length := by have := HLL.out; omega
    clear hi hx hx7 h0 h1 h2 h3 h4 h5 h6 e hbw X0;go_upto_region 4 with fail
    go_wp2_with (first | ((with_reducible refine wpList_putRow 50 (w.heap.size + 1) #[.int .i64 x.kind, .string x.pkg, .int .i64 x.major, .string x.mod, .string x.name, .slice Bn x.names.length cB, .slice Bs x.subs.length cD] _ _ X1 ?_ ?_ ?_ ?_ ?_ ?_); exact tySize; rfl; exact tyOne; iterate 2 (focus (first | (go_simp; done) | rfl))))
    exact ret_agg (fn := Tryz.f159) (vs := [.int .i64 x.kind, .string x.pkg, .int .i64 x.major, .string x.mod, .string x.name, .slice Bn x.names.length cB, .slice Bs x.subs.length cD]) (b := w.heap.size + 1) rfl rfl rfl Tryz.underlying50 (by kernel_rfl) (cell7 (setRow_heap _ (w.heap.size + 1) _ _ _ _ HX.out)) rfl FIN.out
def StCall (x y : Ty) : Prop := ∀ (lx ly : List Value) (w : World), TyAt w lx x -> TyAt w ly y ->
 Calls Tryz.prog 111 #[.agg lx.toArray, .agg ly.toArray] w fun e w' => e = .returned (.bool (subB x y)) /\ Below w.heap.size w w'
theorem row_small {t : Ty} (g : GoodT t) (hk : t.kind = 5 \/ t.kind = 6) (h9 : many t <= 9000) : t.names.length <= 9000 := by
 have h1 := (g.row hk).2.1
 have h2 := manyL_len t.subs
 have h3 := manyL_eq t
 omega
theorem recordStands_any (a b : Ty) (la lb : List Value) (w : World) (ga : GoodT a) (gb : GoodT b) (ka : a.kind = 5) (kb : b.kind = 5) (h9a : many a <= 9000) (h9b : many b <= 9000) (hTa : TyAt w la a) (hTb : TyAt w lb b)
  (IH : ∀ x y, many x + many y < many a + many b -> many x <= 9000 -> many y <= 9000 -> GoodT x -> GoodT y -> StCall x y) :
  Calls Tryz.prog 139 #[.agg la.toArray, .agg lb.toArray] w fun e w' => e = .returned (.bool (subB a b)) /\ Below w.heap.size w w' := by
 have HTa := hZ hTa
 have HTb := hZ hTb
 obtain ⟨An, cA, As, cS, rfl, -, -, -, -, -, hNa, hSa⟩ := hTa.parts
 obtain ⟨Bn, cB, Bs, cD, rfl, -, -, -, -, -, hNb, hSb⟩ := hTb.parts
 have h1 := row_small gb (.inl kb) h9b
 have h2 := row_small ga (.inl ka) h9a
 have h3 := (gb.row (.inl kb)).2.1
 have h4 := (ga.row (.inl ka)).2.1
 obtain ⟨W2, hW2, B2, O0, O1, hl2⟩ := two_boxes w #[.int .i64 a.kind, .string a.pkg, .int .i64 a.major, .string a.mod, .string a.name, .slice An a.names.length cA, .slice As a.subs.length cS] #[.int .i64 b.kind, .string b.pkg, .int .i64 b.major, .string b.mod, .string b.name, .slice Bn b.names.length cB, .slice Bs b.subs.length cD] 50 50
 have HB2 := hZ B2
 have HX0 : Hid (∀ wx, Below W2.heap.size W2 wx -> wx.heap[w.heap.size]? = some (.cells #[.int .i64 a.kind, .string a.pkg, .int .i64 a.major, .string a.mod, .string a.name, .slice An a.names.length cA, .slice As a.subs.length cS] 50 (0, 0))) := hZ (fun wx hb => (hb.block _ (by omega)).trans O0)
 have HX1 : Hid (∀ wx, Below W2.heap.size W2 wx -> wx.heap[w.heap.size + 1]? = some (.cells #[.int .i64 b.kind, .string b.pkg, .int .i64 b.major, .string b.mod, .string b.name, .slice Bn b.names.length cB, .slice Bs b.subs.length cD] 50 (0, 0))) := hZ (fun wx hb => (hb.block _ (by omega)).trans O1)
 have HTM : Hid (∀ wx, Below W2.heap.size W2 wx -> TyAt wx [.int .i64 a.kind, .string a.pkg, .int .i64 a.major, .string a.mod, .string a.name, .slice An a.names.length cA, .slice As a.subs.length cS] a) := hZ (fun wx hb => HTa.out.keep (below_over HB2.out hb))
 have HNN : Hid (∀ wx, Below W2.heap.size W2 wx -> NamesAt wx Bn b.names) := hZ (fun wx hb i x hx => by
  obtain ⟨g, o, hA, hg, hc, hz⟩ := hNb i x hx;have hb' := below_over HB2.out hb
  exact ⟨g, o, hA, Nat.lt_of_lt_of_le hg hb'.size, (hb'.cell (p := ⟨g, _, none⟩) hg).trans hc, hz⟩)
 have HSN : Hid (∀ wx, Below W2.heap.size W2 wx -> SubsAt wx Bs b.subs) := hZ (fun wx hb => hSb.below (below_over HB2.out hb))
 have gM := hZ ga
 have gN := hZ gb
 have HIH := hZ IH
 have HLL := hZ (And.intro h3 h4)
 have HLE : Hid (∀ (hf : ∀ s y, AtN b s y -> ∃ x, AtN a s x /\ SubR x y), SubR a b) := hZ (fun hf => (le_loses (up := true) (a := a) (b := b) (by rw [ka]; exact .inl ⟨rfl, rfl⟩)).2 ⟨by rw [ka, kb], hf⟩)
 have HNO : Hid (SubR a b -> ∀ s y, AtN b s y -> ∃ x, AtN a s x /\ SubR x y) := hZ (fun h => ((le_loses (up := true) (a := a) (b := b) (by rw [ka]; exact .inl ⟨rfl, rfl⟩)).1 h).2)
 have HW := hZ hW2
 have H99 := hZ (And.intro h9a h9b)
 obtain ⟨n, hn⟩ : ∃ n, n = b.names.length := ⟨_, rfl⟩
 have HN := hZ hn
 have XN := HX1.out W2 (Below.refl _ _)
 have x5 := cZ XN 5
 simp at x5
 rw [<- hn] at x5 h1
 have hns : n = b.subs.length := by rw [hn, h3]
 have HNS := hZ hns
 clear hW2 B2 O0 O1 hTa hTb hNa hSa hNb hSb ga gb ka kb IH XN h3 h4 hn hns h9a h9b
 go_enter Tryz.func139, Tryz.ntmps139
 go_upto_region 1 with fail
 rw [<- HW.out]
 clear HW
 go_wp2_with fail
 clear x5
 go_loopw [12] (fun s12 wr => ∃ k : Nat, k <= n /\ s12 = .int .i64 k /\ Hid (∀ q s y, q < k -> b.names[q]? = some s -> b.subs[q]? = some y -> ∃ x, AtN a s x /\ SubR x y) /\ Hid (Below W2.heap.size W2 wr)) (fun s12 _ => n - (intOf s12).toNat)
 case atStart => exact ⟨0, by omega, rfl, hZ (fun q s y h => by omega), hZ (Below.refl _ _)⟩
 case round =>
  obtain ⟨k, hk, rfl, HP, HB⟩ := hrel;obtain ⟨wo, rfl⟩ : ∃ wo : World, wo = wr := ⟨_, rfl⟩;by_cases hlt : k < n
  ·obtain ⟨s, hs⟩ : ∃ s, b.names[k]? = some s := ⟨_, List.getElem?_eq_getElem (by rw [<- HN.out]; exact hlt)⟩
   obtain ⟨y, hy⟩ : ∃ y, b.subs[k]? = some y := ⟨_, List.getElem?_eq_getElem (by rw [<- HNS.out]; exact hlt)⟩;obtain ⟨g1, o1, rfl, hg1, hc1, -⟩ := HNN.out wo HB.out k s hs;have hk0 : (0 : Int) <= k := by omega
   have hk1 : (k : Int) < n := by omega
   have XM := HX0.out wo HB.out;obtain ⟨m0, m1, m2, m3, m4, m5, m6⟩ := cq7 XM;simp at m0 m1 m2 m3 m4 m5 m6;have CP := hZ (part_any a [.int .i64 a.kind, .string a.pkg, .int .i64 a.major, .string a.mod, .string a.name, .slice An a.names.length cA, .slice As a.subs.length cS] s wo (HTM.out wo HB.out) gM.out.rise HLL.out.2 (by omega));have HS := hZ hs;have HYY := hZ hy;clear hs XM;go_wp2_with fail
   refine CP.out.mono ?_; rintro e w3 ⟨l1, x, bq, rfl, hTx, hb3, hcase⟩
   obtain ⟨Fn, cF, Fs, dF, rfl, -⟩ := hTx.parts;obtain ⟨w4, hw4⟩ : ∃ w4, w4 = w3.alloc (.cells #[.int .i64 x.kind, .string x.pkg, .int .i64 x.major, .string x.mod, .string x.name, .slice Fn x.names.length cF, .slice Fs x.subs.length dF] 50) := ⟨_, rfl⟩;have B4 : Below w3.heap.size w3 w4 := by rw [hw4]; exact below_new (Below.refl _ _) _
   have Y4 : w4.heap[w3.heap.size]? = some (.cells #[.int .i64 x.kind, .string x.pkg, .int .i64 x.major, .string x.mod, .string x.name, .slice Fn x.names.length cF, .slice Fs x.subs.length dF] 50 (0, 0)) := by rw [hw4]; exact heap_alloc_new w3 _
   have HB4 : Hid (Below W2.heap.size W2 w4) := hZ (below_over HB.out (below_over hb3 B4));have HX := hZ (hTx.keep B4);have HC := hZ hcase;have HW4 := hZ hw4;clear m0 m1 m2 m3 m4 m5 m6 hTx hb3 hcase hw4 B4 CP hc1;cases bq with
   | false =>
    have RES : Hid (subB a b = false) := hZ (subB_no.2 (fun h => by
     obtain ⟨x', hx', -⟩ := HNO.out h s y ⟨k, HS.out, HYY.out⟩;rcases HC.out with ⟨h, -⟩ | ⟨-, -, h⟩
     ·cases h
     ·exact h x' hx'))
    clear Y4 hy;go_upto_region 5 with fail
    rw [<- HW4.out];clear HW4;go_quiet (fail)
    go_wp2_with fail
    go_ret;exact ⟨by rw [RES.out]; try rfl, below_drewN (below_over HB2.out HB4.out) _⟩
   | true =>
    have hax : AtN a s x := by
     rcases HC.out with ⟨-, h⟩ | ⟨h, -⟩
     ·exact h
     ·cases h
    obtain ⟨g2, o2, v0, v1, v2, v3, v4, v5, v6, rfl, hg2, f0, f1, f2, f3, f4, f5, f6, hy7⟩ := HSN.out w4 HB4.out k y hy;obtain ⟨Gn, cG, Gs, dG, rfl, rfl, rfl, rfl, rfl, rfl, rfl⟩ := hy7.seven;have HY4 := hZ hy7
    have hls : many x + many y < many a + many b /\ many x <= 9000 /\ many y <= 9000 := by
     have h1 := hax.lt;have h2 := sub_lt_at hy;have h3 := H99.out;omega
    obtain ⟨q, hq⟩ : ∃ q, q = subB x y := ⟨_, rfl⟩;have HQ := hZ hq
    have cS : ∀ dd os, Calls Tryz.prog 111 #[.agg #[.int .i64 x.kind, .string x.pkg, .int .i64 x.major, .string x.mod, .string x.name, .slice Fn x.names.length cF, .slice Fs x.subs.length dF], .agg #[.int .i64 y.kind, .string y.pkg, .int .i64 y.major, .string y.mod, .string y.name, .slice Gn y.names.length cG, .slice Gs y.subs.length dG]] (Sort.grow (redrawn w4 dd) os) fun e w'' => e = .returned (.bool q) /\ ∃ pp : Regrown, w'' = Sort.grow (redrawn w4 pp.d) pp.os := fun dd os => Calls.regrown_of (by
     rw [hq]; exact HIH.out x y (by omega) (by omega) (by omega) (gM.out.sub hax.sub) (gN.out.sub (List.mem_of_getElem? hy)) _ _ _ (HX.out.keep (below_regrown w4 dd os)) (HY4.out.keep (below_regrown w4 dd os)))
    have XN := HX1.out w4 HB4.out;have z6 := cZ XN 6;simp at z6;rw [<- HNS.out] at z6;obtain ⟨z0, z1, z2, z3, z4, z5, z6⟩ := cq7 Y4;simp at z0 z1 z2 z3 z4 z5 z6;have zz := cZ XN 6;simp at zz;rw [<- HNS.out] at zz;have HAX := hZ hax;clear Y4 hy hy7 hls XN hq hax z6;have z6 := cZ (by rw [HW4.out]; exact heap_alloc_new w3 _ : w4.heap[w3.heap.size]? = some (.cells #[.int .i64 x.kind, .string x.pkg, .int .i64 x.major, .string x.mod, .string x.name, .slice Fn x.names.length cF, .slice Fs x.subs.length dF] 50 (0, 0))) 6;simp at z6;go_upto_region 5 with fail
    rw [<- HW4.out];clear HW4;have p0 := cell_regrown z0;have p1 := cell_regrown z1;have p2 := cell_regrown z2;have p3 := cell_regrown z3;have p4 := cell_regrown z4;have p5 := cell_regrown z5;have p6 := cell_regrown z6;have r0 := cell_regrown f0;have r1 := cell_regrown f1;have r2 := cell_regrown f2;have r3 := cell_regrown f3;have r4 := cell_regrown f4;have r5 := cell_regrown f5;have r6 := cell_regrown f6;have s6 := cell_regrown zz;clear z0 z1 z2 z3 z4 z5 z6 f0 f1 f2 f3 f4 f5 f6 zz;refine wp_region_quiet_below (by kernel_rfl) (by kernel_rfl) ?_;repeat (any_goals (first | go_big_quiet_step (with_reducible exact cS _ _) | quiet_step (with_reducible exact cS _ _)))
    refine wpQuiet_nil ?_;intro w5 hw'
    have HB5 : Hid (Below W2.heap.size W2 w5) := hZ (by
     obtain ⟨⟨dq, osq⟩, hw''⟩ := hw';rw [hw''];exact below_over HB4.out (below_regrown w4 dq osq))
    clear hw' cS p0 p1 p2 p3 p4 p5 p6 r0 r1 r2 r3 r4 r5 r6 s6;cases q with
    | true =>
     have NX : Hid (∀ q s y, q < k + 1 -> b.names[q]? = some s -> b.subs[q]? = some y -> ∃ x, AtN a s x /\ SubR x y) := hZ (fun q s' y' hq h1 h2 => by
      rcases Nat.lt_or_ge q k with c | c
      ·exact HP.out q s' y' c h1 h2
      ·obtain rfl : q = k := by omega
       rw [HS.out] at h1; cases h1
       rw [HYY.out] at h2; cases h2
       exact ⟨x, HAX.out, subB_iff.1 HQ.out.symm⟩)
     go_wp2_with fail
     go_roundw
     case rel => exact ⟨k + 1, by omega, by go_num, NX, HB5⟩
     case measure => simp [intOf]; omega
    | false =>
     have RES : Hid (subB a b = false) := hZ (subB_no.2 (fun h => by
      obtain ⟨x', hx', hsub⟩ := HNO.out h s y ⟨k, HS.out, HYY.out⟩;obtain rfl := gM.out.one HAX.out hx';exact subB_no.1 HQ.out.symm hsub))
     go_wp2_with fail
     go_ret;exact ⟨by rw [RES.out]; try rfl, below_over HB2.out HB5.out⟩
  ·have RES : Hid (subB a b = true) := hZ (subB_iff.2 (HLE.out (fun s y hy => by
    obtain ⟨i, h1, h2⟩ := hy;have := (List.getElem?_eq_some_iff.1 h1).1
    exact HP.out i s y (by have := HN.out; omega) h1 h2)))
   go_wp2_with fail
   go_ret;exact ⟨by rw [RES.out]; try rfl, below_over HB2.out HB.out⟩
theorem variantStands_any (a b : Ty) (la lb : List Value) (w : World) (ga : GoodT a) (gb : GoodT b) (ka : a.kind = 6) (kb : b.kind = 6) (h9a : many a <= 9000) (h9b : many b <= 9000) (hTa : TyAt w la a) (hTb : TyAt w lb b)
  (IH : ∀ x y, many x + many y < many a + many b -> many x <= 9000 -> many y <= 9000 -> GoodT x -> GoodT y -> StCall x y) :
  Calls Tryz.prog 140 #[.agg la.toArray, .agg lb.toArray] w fun e w' => e = .returned (.bool (subB a b)) /\ Below w.heap.size w w' := by
 have HTa := hZ hTa
 have HTb := hZ hTb
 obtain ⟨An, cA, As, cS, rfl, -, -, -, -, -, hNa, hSa⟩ := hTa.parts
 obtain ⟨Bn, cB, Bs, cD, rfl, -, -, -, -, -, hNb, hSb⟩ := hTb.parts
 have h1 := row_small ga (.inr ka) h9a
 have h2 := row_small gb (.inr kb) h9b
 have h3 := (ga.row (.inr ka)).2.1
 have h4 := (gb.row (.inr kb)).2.1
 obtain ⟨W2, hW2, B2, O0, O1, hl2⟩ := two_boxes w #[.int .i64 a.kind, .string a.pkg, .int .i64 a.major, .string a.mod, .string a.name, .slice An a.names.length cA, .slice As a.subs.length cS] #[.int .i64 b.kind, .string b.pkg, .int .i64 b.major, .string b.mod, .string b.name, .slice Bn b.names.length cB, .slice Bs b.subs.length cD] 50 50
 have HB2 := hZ B2
 have HX0 : Hid (∀ wx, Below W2.heap.size W2 wx -> wx.heap[w.heap.size]? = some (.cells #[.int .i64 a.kind, .string a.pkg, .int .i64 a.major, .string a.mod, .string a.name, .slice An a.names.length cA, .slice As a.subs.length cS] 50 (0, 0))) := hZ (fun wx hb => (hb.block _ (by omega)).trans O0)
 have HX1 : Hid (∀ wx, Below W2.heap.size W2 wx -> wx.heap[w.heap.size + 1]? = some (.cells #[.int .i64 b.kind, .string b.pkg, .int .i64 b.major, .string b.mod, .string b.name, .slice Bn b.names.length cB, .slice Bs b.subs.length cD] 50 (0, 0))) := hZ (fun wx hb => (hb.block _ (by omega)).trans O1)
 have HTM : Hid (∀ wx, Below W2.heap.size W2 wx -> TyAt wx [.int .i64 b.kind, .string b.pkg, .int .i64 b.major, .string b.mod, .string b.name, .slice Bn b.names.length cB, .slice Bs b.subs.length cD] b) := hZ (fun wx hb => HTb.out.keep (below_over HB2.out hb))
 have HNN : Hid (∀ wx, Below W2.heap.size W2 wx -> NamesAt wx An a.names) := hZ (fun wx hb i x hx => by
  obtain ⟨g, o, hA, hg, hc, hz⟩ := hNa i x hx;have hb' := below_over HB2.out hb
  exact ⟨g, o, hA, Nat.lt_of_lt_of_le hg hb'.size, (hb'.cell (p := ⟨g, _, none⟩) hg).trans hc, hz⟩)
 have HSN : Hid (∀ wx, Below W2.heap.size W2 wx -> SubsAt wx As a.subs) := hZ (fun wx hb => hSa.below (below_over HB2.out hb))
 have gM := hZ gb
 have gN := hZ ga
 have HIH := hZ IH
 have HLL := hZ (And.intro h3 h4)
 have HLE : Hid (∀ (hf : ∀ s y, AtN a s y -> ∃ x, AtN b s x /\ SubR y x), SubR a b) := hZ (fun hf => (le_wins (up := true) (a := a) (b := b) (by rw [ka]; exact .inl ⟨rfl, rfl⟩)).2 ⟨by rw [ka, kb], hf⟩)
 have HNO : Hid (SubR a b -> ∀ s y, AtN a s y -> ∃ x, AtN b s x /\ SubR y x) := hZ (fun h => ((le_wins (up := true) (a := a) (b := b) (by rw [ka]; exact .inl ⟨rfl, rfl⟩)).1 h).2)
 have HW := hZ hW2
 have H99 := hZ (And.intro h9a h9b)
 obtain ⟨n, hn⟩ : ∃ n, n = a.names.length := ⟨_, rfl⟩
 have HN := hZ hn
 have XN := HX0.out W2 (Below.refl _ _)
 have x5 := cZ XN 5
 simp at x5
 rw [<- hn] at x5 h1
 have hns : n = a.subs.length := by rw [hn, h3]
 have HNS := hZ hns
 clear hW2 B2 O0 O1 hTa hTb hNa hSa hNb hSb ga gb ka kb IH XN h3 h4 hn hns h9a h9b
 go_enter Tryz.func140, Tryz.ntmps140
 go_upto_region 1 with fail
 rw [<- HW.out]
 clear HW
 go_wp2_with fail
 clear x5
 go_loopw [12] (fun s12 wr => ∃ k : Nat, k <= n /\ s12 = .int .i64 k /\ Hid (∀ q s y, q < k -> a.names[q]? = some s -> a.subs[q]? = some y -> ∃ x, AtN b s x /\ SubR y x) /\ Hid (Below W2.heap.size W2 wr)) (fun s12 _ => n - (intOf s12).toNat)
 case atStart => exact ⟨0, by omega, rfl, hZ (fun q s y h => by omega), hZ (Below.refl _ _)⟩
 case round =>
  obtain ⟨k, hk, rfl, HP, HB⟩ := hrel;obtain ⟨wo, rfl⟩ : ∃ wo : World, wo = wr := ⟨_, rfl⟩;by_cases hlt : k < n
  ·obtain ⟨s, hs⟩ : ∃ s, a.names[k]? = some s := ⟨_, List.getElem?_eq_getElem (by rw [<- HN.out]; exact hlt)⟩
   obtain ⟨y, hy⟩ : ∃ y, a.subs[k]? = some y := ⟨_, List.getElem?_eq_getElem (by rw [<- HNS.out]; exact hlt)⟩;obtain ⟨g1, o1, rfl, hg1, hc1, -⟩ := HNN.out wo HB.out k s hs;have hk0 : (0 : Int) <= k := by omega
   have hk1 : (k : Int) < n := by omega
   have XM := HX1.out wo HB.out;obtain ⟨m0, m1, m2, m3, m4, m5, m6⟩ := cq7 XM;simp at m0 m1 m2 m3 m4 m5 m6;have CP := hZ (part_any b [.int .i64 b.kind, .string b.pkg, .int .i64 b.major, .string b.mod, .string b.name, .slice Bn b.names.length cB, .slice Bs b.subs.length cD] s wo (HTM.out wo HB.out) gM.out.rise HLL.out.2 (by omega));have HS := hZ hs;have HYY := hZ hy;clear hs XM;go_wp2_with fail
   refine CP.out.mono ?_; rintro e w3 ⟨l1, x, bq, rfl, hTx, hb3, hcase⟩
   obtain ⟨Fn, cF, Fs, dF, rfl, -⟩ := hTx.parts;obtain ⟨w4, hw4⟩ : ∃ w4, w4 = w3.alloc (.cells #[.int .i64 x.kind, .string x.pkg, .int .i64 x.major, .string x.mod, .string x.name, .slice Fn x.names.length cF, .slice Fs x.subs.length dF] 50) := ⟨_, rfl⟩;have B4 : Below w3.heap.size w3 w4 := by rw [hw4]; exact below_new (Below.refl _ _) _
   have Y4 : w4.heap[w3.heap.size]? = some (.cells #[.int .i64 x.kind, .string x.pkg, .int .i64 x.major, .string x.mod, .string x.name, .slice Fn x.names.length cF, .slice Fs x.subs.length dF] 50 (0, 0)) := by rw [hw4]; exact heap_alloc_new w3 _
   have HB4 : Hid (Below W2.heap.size W2 w4) := hZ (below_over HB.out (below_over hb3 B4));have HX := hZ (hTx.keep B4);have HC := hZ hcase;have HW4 := hZ hw4;clear m0 m1 m2 m3 m4 m5 m6 hTx hb3 hcase hw4 B4 CP hc1;cases bq with
   | false =>
    have RES : Hid (subB a b = false) := hZ (subB_no.2 (fun h => by
     obtain ⟨x', hx', -⟩ := HNO.out h s y ⟨k, HS.out, HYY.out⟩;rcases HC.out with ⟨h, -⟩ | ⟨-, -, h⟩
     ·cases h
     ·exact h x' hx'))
    clear Y4 hy;go_upto_region 5 with fail
    rw [<- HW4.out];clear HW4;go_quiet (fail)
    go_wp2_with fail
    go_ret;exact ⟨by rw [RES.out]; try rfl, below_drewN (below_over HB2.out HB4.out) _⟩
   | true =>
    have hax : AtN b s x := by
     rcases HC.out with ⟨-, h⟩ | ⟨h, -⟩
     ·exact h
     ·cases h
    obtain ⟨g2, o2, v0, v1, v2, v3, v4, v5, v6, rfl, hg2, f0, f1, f2, f3, f4, f5, f6, hy7⟩ := HSN.out w4 HB4.out k y hy;obtain ⟨Gn, cG, Gs, dG, rfl, rfl, rfl, rfl, rfl, rfl, rfl⟩ := hy7.seven;have HY4 := hZ hy7
    have hls : many x + many y < many a + many b /\ many x <= 9000 /\ many y <= 9000 := by
     have h1 := hax.lt;have h2 := sub_lt_at hy;have h3 := H99.out;omega
    obtain ⟨q, hq⟩ : ∃ q, q = subB y x := ⟨_, rfl⟩;have HQ := hZ hq
    have cS : ∀ dd os, Calls Tryz.prog 111 #[.agg #[.int .i64 y.kind, .string y.pkg, .int .i64 y.major, .string y.mod, .string y.name, .slice Gn y.names.length cG, .slice Gs y.subs.length dG], .agg #[.int .i64 x.kind, .string x.pkg, .int .i64 x.major, .string x.mod, .string x.name, .slice Fn x.names.length cF, .slice Fs x.subs.length dF]] (Sort.grow (redrawn w4 dd) os) fun e w'' => e = .returned (.bool q) /\ ∃ pp : Regrown, w'' = Sort.grow (redrawn w4 pp.d) pp.os := fun dd os => Calls.regrown_of (by
     rw [hq]; exact HIH.out y x (by omega) (by omega) (by omega) (gN.out.sub (List.mem_of_getElem? hy)) (gM.out.sub hax.sub) _ _ _ (HY4.out.keep (below_regrown w4 dd os)) (HX.out.keep (below_regrown w4 dd os)))
    have XN := HX0.out w4 HB4.out;have z6 := cZ XN 6;simp at z6;rw [<- HNS.out] at z6;obtain ⟨z0, z1, z2, z3, z4, z5, z6⟩ := cq7 Y4;simp at z0 z1 z2 z3 z4 z5 z6;have zz := cZ XN 6;simp at zz;rw [<- HNS.out] at zz;have HAX := hZ hax;clear Y4 hy hy7 hls XN hq hax z6;have z6 := cZ (by rw [HW4.out]; exact heap_alloc_new w3 _ : w4.heap[w3.heap.size]? = some (.cells #[.int .i64 x.kind, .string x.pkg, .int .i64 x.major, .string x.mod, .string x.name, .slice Fn x.names.length cF, .slice Fs x.subs.length dF] 50 (0, 0))) 6;simp at z6;go_upto_region 5 with fail
    rw [<- HW4.out];clear HW4;have p0 := cell_regrown z0;have p1 := cell_regrown z1;have p2 := cell_regrown z2;have p3 := cell_regrown z3;have p4 := cell_regrown z4;have p5 := cell_regrown z5;have p6 := cell_regrown z6;have r0 := cell_regrown f0;have r1 := cell_regrown f1;have r2 := cell_regrown f2;have r3 := cell_regrown f3;have r4 := cell_regrown f4;have r5 := cell_regrown f5;have r6 := cell_regrown f6;have s6 := cell_regrown zz;clear z0 z1 z2 z3 z4 z5 z6 f0 f1 f2 f3 f4 f5 f6 zz;refine wp_region_quiet_below (by kernel_rfl) (by kernel_rfl) ?_;repeat (any_goals (first | go_big_quiet_step (with_reducible exact cS _ _) | quiet_step (with_reducible exact cS _ _)))
    refine wpQuiet_nil ?_;intro w5 hw'
    have HB5 : Hid (Below W2.heap.size W2 w5) := hZ (by
     obtain ⟨⟨dq, osq⟩, hw''⟩ := hw';rw [hw''];exact below_over HB4.out (below_regrown w4 dq osq))
    clear hw' cS p0 p1 p2 p3 p4 p5 p6 r0 r1 r2 r3 r4 r5 r6 s6;cases q with
    | true =>
     have NX : Hid (∀ q s y, q < k + 1 -> a.names[q]? = some s -> a.subs[q]? = some y -> ∃ x, AtN b s x /\ SubR y x) := hZ (fun q s' y' hq h1 h2 => by
      rcases Nat.lt_or_ge q k with c | c
      ·exact HP.out q s' y' c h1 h2
      ·obtain rfl : q = k := by omega
       rw [HS.out] at h1; cases h1
       rw [HYY.out] at h2; cases h2
       exact ⟨x, HAX.out, subB_iff.1 HQ.out.symm⟩)
     go_wp2_with fail
     go_roundw
     case rel => exact ⟨k + 1, by omega, by go_num, NX, HB5⟩
     case measure => simp [intOf]; omega
    | false =>
     have RES : Hid (subB a b = false) := hZ (subB_no.2 (fun h => by
      obtain ⟨x', hx', hsub⟩ := HNO.out h s y ⟨k, HS.out, HYY.out⟩;obtain rfl := gM.out.one HAX.out hx';exact subB_no.1 HQ.out.symm hsub))
     go_wp2_with fail
     go_ret;exact ⟨by rw [RES.out]; try rfl, below_over HB2.out HB5.out⟩
  ·have RES : Hid (subB a b = true) := hZ (subB_iff.2 (HLE.out (fun s y hy => by
    obtain ⟨i, h1, h2⟩ := hy;have := (List.getElem?_eq_some_iff.1 h1).1
    exact HP.out i s y (by have := HN.out; omega) h1 h2)))
   go_wp2_with fail
   go_ret;exact ⟨by rw [RES.out]; try rfl, below_over HB2.out HB.out⟩
theorem leaf_may {t : Ty} (h : GoodT t) (h4 : t.kind ≠ 4) (h5 : t.kind ≠ 5) (h6 : t.kind ≠ 6) (h7 : t.kind ≠ 7) : mayT t = true := by
  obtain ⟨hs, hn⟩ := h.leaf h4 h5 h6 h7;have ho := h.own;unfold ownG at ho
  simp only [Bool.and_eq_true] at ho;have hm : many t = 1 := by have := manyL_eq t; rw [hs] at this; simp [manyL] at this; exact this
  have hd : deep t = 1 := by cases t with | mk k p j d n ns ss => have : ss = [] := hs
                                                                  subst this; simp [deep, deepL]
  unfold mayT
  rw [allOk_eq, hs, hm, hd];unfold ownOk
  rw [hs, hn];have h1 := ho.1.1;rw [hn] at h1;rw [h1, ho.1.2];simp [allOkL]
theorem partsStand_any (a b : Ty) (la lb : List Value) (w : World) (ga : GoodT a) (gb : GoodT b) (hk : a.kind = 4 \/ a.kind = 7) (hkk : a.kind = b.kind) (h9a : many a <= 9000) (h9b : many b <= 9000) (hTa : TyAt w la a) (hTb : TyAt w lb b)
  (IH : ∀ x y, many x + many y < many a + many b -> many x <= 9000 -> many y <= 9000 -> GoodT x -> GoodT y -> StCall x y) :
  Calls Tryz.prog 141 #[.agg la.toArray, .agg lb.toArray] w fun e w' => e = .returned (.bool (subB a b)) /\ Below w.heap.size w w' := by
 have HTa := hZ hTa
 have HTb := hZ hTb
 obtain ⟨An, cA, As, cS, rfl, -, -, -, -, -, -, hSa⟩ := hTa.parts
 obtain ⟨Bn, cB, Bs, cD, rfl, -, -, -, -, -, -, hSb⟩ := hTb.parts
 obtain ⟨W2, hW2, B2, O0, O1, hl2⟩ := two_boxes w #[.int .i64 a.kind, .string a.pkg, .int .i64 a.major, .string a.mod, .string a.name, .slice An a.names.length cA, .slice As a.subs.length cS] #[.int .i64 b.kind, .string b.pkg, .int .i64 b.major, .string b.mod, .string b.name, .slice Bn b.names.length cB, .slice Bs b.subs.length cD] 50 50
 have HB2 := hZ B2
 obtain ⟨n, hn⟩ : ∃ n, n = a.subs.length := ⟨_, rfl⟩
 obtain ⟨m, hm⟩ : ∃ m, m = b.subs.length := ⟨_, rfl⟩
 have hnp : 0 < n := by rw [hn]; exact (ga.parts hk).2.2.1
 have hn9 : n <= 9000 := by have h2 := manyL_len a.subs; have h3 := manyL_eq a; omega
 have hm9 : m <= 9000 := by have h2 := manyL_len b.subs; have h3 := manyL_eq b; omega
 have HX0 : Hid (∀ wx, Below W2.heap.size W2 wx -> wx.cell? ⟨w.heap.size, 6, none⟩ = some (.slice As n cS)) := hZ (fun wx hb => by rw [hn]; exact cZ ((hb.block _ (by omega)).trans O0) 6)
 have HX1 : Hid (∀ wx, Below W2.heap.size W2 wx -> wx.cell? ⟨w.heap.size + 1, 6, none⟩ = some (.slice Bs m cD)) := hZ (fun wx hb => by rw [hm]; exact cZ ((hb.block _ (by omega)).trans O1) 6)
 have HSA : Hid (∀ wx, Below W2.heap.size W2 wx -> SubsAt wx As a.subs) := hZ (fun wx hb => hSa.below (below_over HB2.out hb))
 have HSB : Hid (∀ wx, Below W2.heap.size W2 wx -> SubsAt wx Bs b.subs) := hZ (fun wx hb => hSb.below (below_over HB2.out hb))
 have GA := hZ ga
 have GB := hZ gb
 have HIH := hZ IH
 have HLE : Hid (SubR a b ↔ a.subs.length = b.subs.length /\ ∀ i x y, a.subs[i]? = some x -> b.subs[i]? = some y -> Le (if i + 1 = a.subs.length then true else !true) x y) := hZ
  ⟨fun h => ((le_parts (up := true) hk).1 h).2, fun h => (le_parts (up := true) hk).2 ⟨hkk, h⟩⟩
 have HW := hZ hW2
 have H99 := hZ (And.intro h9a h9b)
 have HN := hZ hn
 have HM := hZ hm
 have x6 := HX0.out W2 (Below.refl _ _)
 have y6 := HX1.out W2 (Below.refl _ _)
 clear hW2 B2 O0 O1 hTa hTb hSa hSb ga gb hk hkk IH hn hm h9a h9b
 go_enter Tryz.func141, Tryz.ntmps141
 go_upto_region 1 with fail
 rw [<- HW.out]
 clear HW
 by_cases hnm : n = m
 ·have HNM := hZ hnm
  have e1 : ((n : Int) != (m : Int)) = false := by rw [hnm]; simp
  have e2 : ((n : Int) == (m : Int)) = true := by rw [hnm]; simp
  have wl : IntKind.i64.wrap ((n : Int) - 1) = ((n - 1 : Nat) : Int) := by rw [IntKind.wrap_i64]; omega
  obtain ⟨L, hL⟩ : ∃ L, L = n - 1 := ⟨_, rfl⟩;have HL := hZ hL;rw [<- hL] at wl;clear hnm hL;go_wp2_with fail
  clear x6 y6 e1 e2 wl;go_loopw [19] (fun s19 wr => ∃ k : Nat, k <= L /\ s19 = .int .i64 k /\ Hid (∀ i x y, i < k -> a.subs[i]? = some x -> b.subs[i]? = some y -> SubR y x) /\ Hid (Below W2.heap.size W2 wr)) (fun s19 _ => L - (intOf s19).toNat)
  case atStart => exact ⟨0, by omega, rfl, hZ (fun i x y h => by omega), hZ (Below.refl _ _)⟩
  case round =>
   obtain ⟨k, hk, rfl, HP, HB⟩ := hrel;obtain ⟨wo, rfl⟩ : ∃ wo : World, wo = wr := ⟨_, rfl⟩;have hLn : L < n := by have := HL.out; omega
   have hkn : k < n := by omega
   obtain ⟨x, hx⟩ : ∃ x, a.subs[k]? = some x := ⟨_, List.getElem?_eq_getElem (by rw [<- HN.out]; exact hkn)⟩;obtain ⟨y, hy⟩ : ∃ y, b.subs[k]? = some y := ⟨_, List.getElem?_eq_getElem (by rw [<- HM.out, <- HNM.out]; exact hkn)⟩;obtain ⟨g1, o1, v0, v1, v2, v3, v4, v5, v6, hA1, hg1, f0, f1, f2, f3, f4, f5, f6, hx7⟩ := HSA.out wo HB.out k x hx;obtain ⟨g2, o2, u0, u1, u2, u3, u4, u5, u6, hA2, hg2, d0, d1, d2, d3, d4, d5, d6, hy7⟩ := HSB.out wo HB.out k y hy;subst hA1 hA2;obtain ⟨Fn, cF, Fs, dF, rfl, rfl, rfl, rfl, rfl, rfl, rfl⟩ := hx7.seven;obtain ⟨Gn, cG, Gs, dG, rfl, rfl, rfl, rfl, rfl, rfl, rfl⟩ := hy7.seven;have HXX := hZ hx;have HYY := hZ hy;have HX7 := hZ hx7;have HY7 := hZ hy7
   have hls : many x + many y < many a + many b /\ many x <= 9000 /\ many y <= 9000 := by
    have h1 := sub_lt_at hx;have h2 := sub_lt_at hy;have h3 := H99.out;omega
   have HLS := hZ hls;have hk0 : (0 : Int) <= k := by omega
   have hk1 : (k : Int) < n := by omega
   have hk2 : (k : Int) < m := by have := HNM.out; omega
   have x6 := HX0.out wo HB.out;have y6 := HX1.out wo HB.out;clear hx hy hx7 hy7 hls;by_cases hlt : k < L
   ·have hlt' : (k : Int) < L := by omega
    obtain ⟨q, hq⟩ : ∃ q, q = subB y x := ⟨_, rfl⟩;have HQ := hZ hq
    have cS : ∀ dd os, Calls Tryz.prog 111 #[.agg #[.int .i64 y.kind, .string y.pkg, .int .i64 y.major, .string y.mod, .string y.name, .slice Gn y.names.length cG, .slice Gs y.subs.length dG], .agg #[.int .i64 x.kind, .string x.pkg, .int .i64 x.major, .string x.mod, .string x.name, .slice Fn x.names.length cF, .slice Fs x.subs.length dF]] (Sort.grow (redrawn wo dd) os) fun e w'' => e = .returned (.bool q) /\ ∃ pp : Regrown, w'' = Sort.grow (redrawn wo pp.d) pp.os := fun dd os => Calls.regrown_of (by
     have hls := HLS.out;rw [hq]; exact HIH.out y x (by omega) (by omega) (by omega) (GB.out.sub (List.mem_of_getElem? HYY.out)) (GA.out.sub (List.mem_of_getElem? HXX.out)) _ _ _ (HY7.out.keep (below_regrown wo dd os)) (HX7.out.keep (below_regrown wo dd os)))
    clear hq;go_upto_region 7 with fail
    have p0 := cell_regrown f0;have p1 := cell_regrown f1;have p2 := cell_regrown f2;have p3 := cell_regrown f3;have p4 := cell_regrown f4;have p5 := cell_regrown f5;have p6 := cell_regrown f6;have r0 := cell_regrown d0;have r1 := cell_regrown d1;have r2 := cell_regrown d2;have r3 := cell_regrown d3;have r4 := cell_regrown d4;have r5 := cell_regrown d5;have r6 := cell_regrown d6;have s6 := cell_regrown x6;have t6 := cell_regrown y6;clear f0 f1 f2 f3 f4 f5 f6 d0 d1 d2 d3 d4 d5 d6 x6 y6;refine wp_region_quiet_below (by kernel_rfl) (by kernel_rfl) ?_;repeat (any_goals (first | go_big_quiet_step (with_reducible exact cS _ _) | quiet_step (with_reducible exact cS _ _)))
    refine wpQuiet_nil ?_;intro w5 hw'
    have HB5 : Hid (Below W2.heap.size W2 w5) := hZ (by
     obtain ⟨⟨dq, osq⟩, hw''⟩ := hw';rw [hw''];exact below_over HB.out (below_regrown wo dq osq))
    clear hw' cS p0 p1 p2 p3 p4 p5 p6 r0 r1 r2 r3 r4 r5 r6 s6 t6;cases q with
    | true =>
     have NX : Hid (∀ i x y, i < k + 1 -> a.subs[i]? = some x -> b.subs[i]? = some y -> SubR y x) := hZ (fun i x' y' hi h1 h2 => by
      rcases Nat.lt_or_ge i k with c | c
      ·exact HP.out i x' y' c h1 h2
      ·obtain rfl : i = k := by omega
       rw [HXX.out] at h1; cases h1
       rw [HYY.out] at h2; cases h2
       exact subB_iff.1 HQ.out.symm)
     go_wp2_with fail
     go_roundw
     case rel => exact ⟨k + 1, by omega, by go_num, NX, HB5⟩
     case measure => simp [intOf]; omega
    | false =>
     have RES : Hid (subB a b = false) := hZ (subB_no.2 (fun h => by
      have h1 := (HLE.out.1 h).2 k x y HXX.out HYY.out;rw [if_neg (by rw [<- HN.out]; have := HL.out; omega)] at h1;exact subB_no.1 HQ.out.symm h1))
     go_wp2_with fail
     go_ret;exact ⟨by rw [RES.out]; try rfl, below_over HB2.out HB5.out⟩
   ·have hlt' : ¬ (k : Int) < L := by omega
    obtain rfl : k = L := by omega
    obtain ⟨q, hq⟩ : ∃ q, q = subB x y := ⟨_, rfl⟩;have HQ := hZ hq
    have cS : ∀ dd os, Calls Tryz.prog 111 #[.agg #[.int .i64 x.kind, .string x.pkg, .int .i64 x.major, .string x.mod, .string x.name, .slice Fn x.names.length cF, .slice Fs x.subs.length dF], .agg #[.int .i64 y.kind, .string y.pkg, .int .i64 y.major, .string y.mod, .string y.name, .slice Gn y.names.length cG, .slice Gs y.subs.length dG]] (Sort.grow (redrawn wo dd) os) fun e w'' => e = .returned (.bool q) /\ ∃ pp : Regrown, w'' = Sort.grow (redrawn wo pp.d) pp.os := fun dd os => Calls.regrown_of (by
     have hls := HLS.out;rw [hq]; exact HIH.out x y (by omega) (by omega) (by omega) (GA.out.sub (List.mem_of_getElem? HXX.out)) (GB.out.sub (List.mem_of_getElem? HYY.out)) _ _ _ (HX7.out.keep (below_regrown wo dd os)) (HY7.out.keep (below_regrown wo dd os)))
    have RES : Hid (subB a b = q) := hZ (by
     rw [hq, Bool.eq_iff_iff, subB_iff, subB_iff];constructor
     ·intro h
      have h1 := (HLE.out.1 h).2 k x y HXX.out HYY.out;rw [if_pos (by rw [<- HN.out]; have := HL.out; omega)] at h1;exact h1
     ·intro h
      refine HLE.out.2 ⟨by rw [<- HN.out, <- HM.out]; exact HNM.out, fun i x' y' h1 h2 => ?_⟩;have hi := (List.getElem?_eq_some_iff.1 h1).1;rcases Nat.lt_or_ge i k with c | c
      ·rw [if_neg (by rw [<- HN.out]; omega)]
       exact HP.out i x' y' c h1 h2
      ·obtain rfl : i = k := by have := HN.out; have := HL.out; omega
       rw [if_pos (by rw [<- HN.out]; have := HL.out; omega)];rw [HXX.out] at h1; cases h1
       rw [HYY.out] at h2; cases h2
       exact h)
    clear hq hlt;go_upto_region 10 with fail
    have p0 := cell_regrown f0;have p1 := cell_regrown f1;have p2 := cell_regrown f2;have p3 := cell_regrown f3;have p4 := cell_regrown f4;have p5 := cell_regrown f5;have p6 := cell_regrown f6;have r0 := cell_regrown d0;have r1 := cell_regrown d1;have r2 := cell_regrown d2;have r3 := cell_regrown d3;have r4 := cell_regrown d4;have r5 := cell_regrown d5;have r6 := cell_regrown d6;have s6 := cell_regrown x6;have t6 := cell_regrown y6;clear f0 f1 f2 f3 f4 f5 f6 d0 d1 d2 d3 d4 d5 d6 x6 y6;refine wp_region_quiet_below (by kernel_rfl) (by kernel_rfl) ?_;repeat (any_goals (first | go_big_quiet_step (with_reducible exact cS _ _) | quiet_step (with_reducible exact cS _ _)))
    refine wpQuiet_nil ?_;intro w5 hw'
    have HB5 : Hid (Below W2.heap.size W2 w5) := hZ (by
     obtain ⟨⟨dq, osq⟩, hw''⟩ := hw';rw [hw''];exact below_over HB.out (below_regrown wo dq osq))
    clear hw' cS p0 p1 p2 p3 p4 p5 p6 r0 r1 r2 r3 r4 r5 r6 s6 t6;go_wp2_with fail
    go_ret;exact ⟨by rw [RES.out]; try rfl, below_over HB2.out HB5.out⟩
 ·have e1 : ((n : Int) != (m : Int)) = true := by simp; omega
  have e2 : ((n : Int) == (m : Int)) = false := by simp; omega
  have RES : Hid (subB a b = false) := hZ (subB_no.2 (fun h => hnm (by rw [HN.out, HM.out]; exact (HLE.out.1 h).1)));clear hnm;go_wp2_with fail
  go_ret;exact ⟨by rw [RES.out]; try rfl, HB2.out⟩
theorem standsB_any (N : Nat) : ∀ (a b : Ty), many a + many b <= N -> many a <= 9000 -> many b <= 9000 -> GoodT a -> GoodT b -> StCall a b := by
 induction N with
 | zero => intro a b h; have := many_pos a; omega
 | succ N ih =>
  intro a b hN h9a h9b ga gb la lb w hTa hTb;have IH := hZ (show ∀ x y, many x + many y < many a + many b -> many x <= 9000 -> many y <= 9000 -> GoodT x -> GoodT y -> StCall x y from fun x y h h1 h2 g1 g2 => ih x y (by omega) h1 h2 g1 g2);have HTa := hZ hTa;have HTb := hZ hTb;have GA := hZ ga;have GB := hZ gb;obtain ⟨An, cA, As, cS, rfl, -⟩ := hTa.parts;obtain ⟨Bn, cB, Bs, cD, rfl, -⟩ := hTb.parts;obtain ⟨W2, hW2, B2, O0, O1, hl2⟩ := two_boxes w #[.int .i64 a.kind, .string a.pkg, .int .i64 a.major, .string a.mod, .string a.name, .slice An a.names.length cA, .slice As a.subs.length cS] #[.int .i64 b.kind, .string b.pkg, .int .i64 b.major, .string b.mod, .string b.name, .slice Bn b.names.length cB, .slice Bs b.subs.length cD] 50 50;have HB2 := hZ B2;have HA2 := hZ (HTa.out.keep B2);have HB22 := hZ (HTb.out.keep B2);have HW := hZ hW2;obtain ⟨x0, x1, x2, x3, x4, x5, x6⟩ := cq7 O0;obtain ⟨y0, y1, y2, y3, y4, y5, y6⟩ := cq7 O1;simp at x0 x1 x2 x3 x4 x5 x6 y0 y1 y2 y3 y4 y5 y6;clear hW2 B2 O0 O1 hTa hTb ga gb ih;go_enter Tryz.func111, Tryz.ntmps111
  go_upto_region 1 with fail
  rw [<- HW.out];clear HW;by_cases hk : a.kind = b.kind
  ·have k1 : (a.kind != b.kind) = false := by rw [hk]; simp
   have k1' : (a.kind == b.kind) = true := by rw [hk]; simp
   by_cases h5 : a.kind = 5
   ·have k5 : (a.kind == 5) = true := by rw [h5]; rfl
    have CC := hZ (recordStands_any a b _ _ W2 GA.out GB.out h5 (hk.symm.trans h5) h9a h9b HA2.out HB22.out IH.out);clear h5 hk;go_wp2_with fail
    refine CC.out.mono ?_; rintro e w3 ⟨rfl, hb3⟩
    have FIN := hZ (below_over HB2.out hb3);clear hb3 CC x0 x1 x2 x3 x4 x5 x6 y0 y1 y2 y3 y4 y5 y6;go_wp2_with fail
    go_ret;exact ⟨rfl, FIN.out⟩
   ·have k5 : (a.kind == 5) = false := by simpa using h5
    by_cases h6 : a.kind = 6
    ·have k6 : (a.kind == 6) = true := by rw [h6]; rfl
     have CC := hZ (variantStands_any a b _ _ W2 GA.out GB.out h6 (hk.symm.trans h6) h9a h9b HA2.out HB22.out IH.out);clear h5 h6 hk;go_wp2_with fail
     refine CC.out.mono ?_; rintro e w3 ⟨rfl, hb3⟩
     have FIN := hZ (below_over HB2.out hb3);clear hb3 CC x0 x1 x2 x3 x4 x5 x6 y0 y1 y2 y3 y4 y5 y6;go_wp2_with fail
     go_ret;exact ⟨rfl, FIN.out⟩
    ·have k6 : (a.kind == 6) = false := by simpa using h6
     by_cases h47 : a.kind = 4 \/ a.kind = 7
     ·have hpos := (GA.out.parts h47).2.2.1
      have z1 : ((a.subs.length : Int) == 0) = false := by simp; intro h; rw [h] at hpos; simp at hpos
      have CC := hZ (partsStand_any a b _ _ W2 GA.out GB.out h47 hk h9a h9b HA2.out HB22.out IH.out);obtain ⟨nn, hnn⟩ : ∃ nn, nn = a.subs.length := ⟨_, rfl⟩;have hz : ¬ (nn : Int) = 0 := by omega
      rw [<- hnn] at z1 x6 CC;have HNN := hZ hnn;rw [<- hnn];clear h5 h6 hk h47 hpos hnn;go_wp2_with fail
      refine CC.out.mono ?_; rintro e w3 ⟨rfl, hb3⟩
      have FIN := hZ (below_over HB2.out hb3);clear hb3 CC x0 x1 x2 x3 x4 x5 x6 y0 y1 y2 y3 y4 y5 y6;go_wp2_with fail
      go_ret;exact ⟨rfl, FIN.out⟩
     ·have h4 : a.kind ≠ 4 := fun h => h47 (.inl h)
      have h7 : a.kind ≠ 7 := fun h => h47 (.inr h)
      have hl := (GA.out.leaf h4 h5 h6 h7).1;have hlen : a.subs.length = 0 := by rw [hl]; rfl
      have CC := sameK_any a b (.agg #[.int .i64 a.kind, .string a.pkg, .int .i64 a.major, .string a.mod, .string a.name, .slice An a.names.length cA, .slice As a.subs.length cS]) (.agg #[.int .i64 b.kind, .string b.pkg, .int .i64 b.major, .string b.mod, .string b.name, .slice Bn b.names.length cB, .slice Bs b.subs.length cD]) W2 ⟨_, rfl, HA2.out⟩ ⟨_, rfl, HB22.out⟩;rw [leaf_may GA.out h4 h5 h6 h7, leaf_may GB.out (by rw [<- hk]; exact h4) (by rw [<- hk]; exact h5) (by rw [<- hk]; exact h6) (by rw [<- hk]; exact h7)] at CC
      have RES : Hid ((true && true && sameT a b) = subB a b) := hZ (by
       rw [Bool.and_self, Bool.true_and, Bool.eq_iff_iff, sameT_iff, subB_iff];exact (le_leaf (up := true) h4 h5 h6 h7).symm)
      rw [RES.out, hlen] at CC;rw [hlen] at x6 ⊢;have CCC := hZ CC;clear h4 h7 h47 hl hlen h5 h6 hk CC RES;go_wp2_with fail
      refine CCC.out.mono ?_; rintro e w3 ⟨rfl, hb3⟩
      have FIN := hZ (below_over HB2.out hb3);clear hb3 CCC x0 x1 x2 x3 x4 x5 x6 y0 y1 y2 y3 y4 y5 y6;go_wp2_with fail
      go_ret;exact ⟨rfl, FIN.out⟩
  ·have k1 : (a.kind != b.kind) = true := by simpa using hk
   have k1' : (a.kind == b.kind) = false := by simpa using hk
   have RES : Hid (subB a b = false) := hZ (subB_no.2 (fun h => hk (Le.kind (up := true) h)));clear hk;go_wp2_with fail
   go_ret;exact ⟨by rw [RES.out]; try rfl, HB2.out⟩
noncomputable def subP (a b : Ty) : Bool := (mayT a && plainT a) && (mayT b && plainT b) && subB a b
theorem subC_any9 (a b : Ty) (la lb : List Value) (w : World) (h9a : mayT a = true -> many a <= 9000) (h9b : mayT b = true -> many b <= 9000) (hTa : TyAt w la a) (hTb : TyAt w lb b) :
  Calls Tryz.prog 73 #[.agg la.toArray, .agg lb.toArray] w fun e w' => e = .returned (.bool (subP a b)) /\ Below w.heap.size w w' := by
 have HTa := hZ hTa
 have HTb := hZ hTb
 obtain ⟨An, cA, As, cS, rfl, -⟩ := hTa.parts
 obtain ⟨Bn, cB, Bs, cD, rfl, -⟩ := hTb.parts
 obtain ⟨W2, hW2, B2, O0, O1, hl2⟩ := two_boxes w #[.int .i64 a.kind, .string a.pkg, .int .i64 a.major, .string a.mod, .string a.name, .slice An a.names.length cA, .slice As a.subs.length cS] #[.int .i64 b.kind, .string b.pkg, .int .i64 b.major, .string b.mod, .string b.name, .slice Bn b.names.length cB, .slice Bs b.subs.length cD] 50 50
 have HB2 := hZ B2
 have HX0 : Hid (∀ wx, Below W2.heap.size W2 wx -> wx.heap[w.heap.size]? = some (.cells #[.int .i64 a.kind, .string a.pkg, .int .i64 a.major, .string a.mod, .string a.name, .slice An a.names.length cA, .slice As a.subs.length cS] 50 (0, 0))) := hZ (fun wx hb => (hb.block _ (by omega)).trans O0)
 have HX1 : Hid (∀ wx, Below W2.heap.size W2 wx -> wx.heap[w.heap.size + 1]? = some (.cells #[.int .i64 b.kind, .string b.pkg, .int .i64 b.major, .string b.mod, .string b.name, .slice Bn b.names.length cB, .slice Bs b.subs.length cD] 50 (0, 0))) := hZ (fun wx hb => (hb.block _ (by omega)).trans O1)
 have HAW : Hid (∀ wx, Below W2.heap.size W2 wx -> TyAt wx [.int .i64 a.kind, .string a.pkg, .int .i64 a.major, .string a.mod, .string a.name, .slice An a.names.length cA, .slice As a.subs.length cS] a) := hZ (fun wx hb => HTa.out.keep (below_over HB2.out hb))
 have HBW : Hid (∀ wx, Below W2.heap.size W2 wx -> TyAt wx [.int .i64 b.kind, .string b.pkg, .int .i64 b.major, .string b.mod, .string b.name, .slice Bn b.names.length cB, .slice Bs b.subs.length cD] b) := hZ (fun wx hb => HTb.out.keep (below_over HB2.out hb))
 have HW := hZ hW2
 have H9 := hZ (And.intro h9a h9b)
 obtain ⟨p, hp⟩ : ∃ p, p = (mayT a && plainT a) := ⟨_, rfl⟩
 obtain ⟨q, hq⟩ : ∃ q, q = (mayT b && plainT b) := ⟨_, rfl⟩
 have HP := hZ hp
 have HQ := hZ hq
 have CA := hZ (plainK_any a (.agg #[.int .i64 a.kind, .string a.pkg, .int .i64 a.major, .string a.mod, .string a.name, .slice An a.names.length cA, .slice As a.subs.length cS]) W2 ⟨_, rfl, HAW.out W2 (Below.refl _ _)⟩)
 rw [<- hp] at CA
 have HSP : Hid (subP a b = (p && q && subB a b)) := hZ (by unfold subP; rw [hp, hq])
 have X0 := HX0.out W2 (Below.refl _ _)
 obtain ⟨x0, x1, x2, x3, x4, x5, x6⟩ := cq7 X0
 simp at x0 x1 x2 x3 x4 x5 x6
 clear hW2 B2 O0 O1 hTa hTb hp hq X0 h9a h9b
 go_enter Tryz.func73, Tryz.ntmps73
 go_upto_region 1 with fail
 rw [<- HW.out]
 clear HW
 go_wp2_with fail
 refine CA.out.mono ?_; rintro e w3 ⟨rfl, hb3⟩
 have HB3 := hZ hb3
 clear x0 x1 x2 x3 x4 x5 x6 hb3 CA
 cases p with
 | false =>
  go_wp2_with fail
  go_ret;exact ⟨by rw [HSP.out]; rfl, below_over HB2.out HB3.out⟩
 | true =>
  have CB := hZ (plainK_any b (.agg #[.int .i64 b.kind, .string b.pkg, .int .i64 b.major, .string b.mod, .string b.name, .slice Bn b.names.length cB, .slice Bs b.subs.length cD]) w3 ⟨_, rfl, HBW.out w3 HB3.out⟩);rw [<- HQ.out] at CB;have X1 := HX1.out w3 HB3.out;obtain ⟨x0, x1, x2, x3, x4, x5, x6⟩ := cq7 X1;simp at x0 x1 x2 x3 x4 x5 x6;clear X1;go_wp2_with fail
  refine CB.out.mono ?_; rintro e w4 ⟨rfl, hb4⟩
  have HB4 := hZ (below_over HB3.out hb4);clear x0 x1 x2 x3 x4 x5 x6 hb4 CB;cases q with
  | false =>
   go_wp2_with fail
   go_ret;exact ⟨by rw [HSP.out]; rfl, below_over HB2.out HB4.out⟩
  | true =>
   have hpa := HP.out.symm;have hqb := HQ.out.symm;rw [Bool.and_eq_true] at hpa hqb;have CC := hZ (standsB_any _ a b (Nat.le_refl _) (H9.out.1 hpa.1) (H9.out.2 hqb.1) (good_of_may hpa.1 hpa.2) (good_of_may hqb.1 hqb.2) _ _ w4 (HAW.out w4 HB4.out) (HBW.out w4 HB4.out));have X0 := HX0.out w4 HB4.out;have X1 := HX1.out w4 HB4.out;obtain ⟨x0, x1, x2, x3, x4, x5, x6⟩ := cq7 X0;obtain ⟨y0, y1, y2, y3, y4, y5, y6⟩ := cq7 X1;simp at x0 x1 x2 x3 x4 x5 x6 y0 y1 y2 y3 y4 y5 y6;clear X0 X1 hpa hqb;go_wp2_with fail
   refine CC.out.mono ?_; rintro e w5 ⟨rfl, hb5⟩
   have FIN := hZ (below_over HB2.out (below_over HB4.out hb5));clear x0 x1 x2 x3 x4 x5 x6 y0 y1 y2 y3 y4 y5 y6 hb5 CC;go_wp2_with fail
   go_ret;exact ⟨by rw [HSP.out]; rfl, FIN.out⟩
structure RowB {α : Type} (R : Reads α) (S : Nat -> Prop) (lo : Nat) (xs : List α) (A : Option Addr) (c : Nat) (w : World) : Prop where
  cells : ∃ C : List (List Value), C.length = xs.length /\ w.ownsRow lo R.T R.k (.slice A xs.length c) xs.length C.flatten /\
    ∀ (i : Nat) (l : List Value) (x : α), C[i]? = some l -> xs[i]? = some x -> R.E (strike (fun b => S b \/ (Value.slice A xs.length c).ownBlock = some b) w) l x
structure CmI (w0 w : World) (kd : Int) (ns : List ByteArray) (xs : List Ty) (A5 : Option Addr) (c5 : Nat) (A6 : Option Addr) (c6 : Nat) (bx lo : Nat) (wr : World) : Prop where
  below : Below w.heap.size w wr
  size : lo <= wr.heap.size
  box : wr.heap[bx]? = some (.cells #[.int .i64 kd, .string ⟨#[]⟩, .int .i64 0, .string ⟨#[]⟩, .string ⟨#[]⟩, .slice A5 ns.length c5, .slice A6 xs.length c6] 50 (0, 0))
  names : RowB stR (fun k => k < lo) lo ns A5 c5 wr
  types : RowB tR (fun k => (w0.heap.size <= k /\ k < lo) \/ (Value.slice A5 ns.length c5).ownBlock = some k) lo xs A6 c6 wr
  apart : ∀ b, (Value.slice A5 ns.length c5).ownBlock = some b -> (Value.slice A6 xs.length c6).ownBlock ≠ some b
theorem str_info9 : (Tryz.prog.info? 9).map (fun i => (i.zero, i.size, i.bytes)) = some (some (.string ⟨#[]⟩), 1, 16) := by kernel_rfl
def OwnU (w : World) (lo : Nat) (v : Value) (l : List ByteArray) : Prop := w.ownsRow lo 9 1 v l.length (l.map .string)
end Go.Proofs.YtddlmigofilejaaGreat
namespace Go.Proofs.YtddlmigofilejaaGreat.M
open Go
end Go.Proofs.YtddlmigofilejaaGreat.M
namespace Go.Proofs.YtddlmigofilejaaGreat
open Go
open M
structure Ln where
  kind : Int
  mod : ByteArray
  name : ByteArray
  typ : Ty
end Go.Proofs.YtddlmigofilejaaGreat
namespace Go.Proofs.YtddlmigofilejaaGreat
open Go Go.ChangeShapes Go.WideShapes Go.ChangeAt Go.RowKit Go.Joins Go.Deep
open M
section
variable {H : Type} {enc : TypeId × Value -> H} {w : World} {base : Nat} {sp : Nat -> Bool} {held : Bool}
end
end Go.Proofs.YtddlmigofilejaaGreat
