/-
  Several texts in one.
-/
import Derived.Test.YtddlmigofilejaaGreatK12
import Derived.DeepKeys3
set_option maxRecDepth 100000
set_option maxHeartbeats 16000000
namespace Go.Proofs.YtddlmigofilejaaGreat
open Go Go.RowKit Go.Shelf
open Go.Sort Go.Maps
open M
def othM (m : Mo) (env : List If) (s n : ByteArray) : Ty × Int :=
 match impAt m s with
 | none => (zTy, 4)
 | some k => match m.imps[k]? with
  | none => (zTy, 4)
  | some x => if (mayT (gotT (gotI env x).types n) && plainT (gotT (gotI env x).types n)) = true then (gotT (gotI env x).types n, 0) else (zTy, 9)
theorem othM_no {m : Mo} {env : List If} {s n : ByteArray} (h : impAt m s = none) : othM m env s n = (zTy, 4) := by unfold othM; rw [h]
theorem othM_at {m : Mo} {env : List If} {s n : ByteArray} {k : Nat} {x : Im} (h : impAt m s = some k) (hx : m.imps[k]? = some x) : othM m env s n = if (mayT (gotT (gotI env x).types n) && plainT (gotT (gotI env x).types n)) = true then (gotT (gotI env x).types n, 0) else (zTy, 9) := by unfold othM; rw [h]; simp only []; rw [hx]
theorem impAt_idx (m : Mo) (s : ByteArray) : impAt m s = m.imps.findIdx? (isAs s) := rfl
theorem othersN_any (m : Mo) (pkg : ByteArray) (major : Int) (env : List If) (kb : Nat) (s nm : ByteArray) (l : List Value) (w0 w : World) (h : NsAt w0 l m pkg major env kb) (hw : Below w0.heap.size w0 w) :
  Calls Tryz.prog 187 #[.agg l.toArray, .agg #[.string s, .string nm]] w (MeOut w0 w (othM m env s nm).1 (othM m env s nm).2) := by
 have HB0w := hZ hw
 obtain ⟨Ai, ci, Ad, cd, Ae, ce, rfl, -, hz2, -, -, hz5, hI, -, hE⟩ := h
 obtain ⟨ni, hni⟩ : ∃ ni, ni = m.imps.length := ⟨_, rfl⟩
 obtain ⟨ne, hne⟩ : ∃ ne, ne = env.length := ⟨_, rfl⟩
 obtain ⟨W2, hW2, B2, O0, O1, hl2⟩ := two_boxes w #[.string m.name, .slice Ai ni ci, .slice Ad m.decs.length cd, .string pkg, .int .i64 major, .slice Ae ne ce, .map (some kb)] #[.string s, .string nm] 157 227
 have s2 : W2.heap.size = w.heap.size + 1 + 1 := by rw [hW2]; simp
 obtain ⟨W3, hW3⟩ : ∃ W3, W3 = W2.alloc (.cells #[.int .i64 0, .string ⟨#[]⟩, .int .i64 0, .string ⟨#[]⟩, .string ⟨#[]⟩, .slice none 0 0, .slice none 0 0, .int .i64 0] 194) := ⟨_, rfl⟩
 have B3 : Below W2.heap.size W2 W3 := by rw [hW3]; exact below_new (Below.refl _ _) _
 have s3 : W3.heap.size = w.heap.size + 1 + 1 + 1 := by rw [hW3]; simp [s2]
 have O2 : W3.heap[w.heap.size + 1 + 1]? = some (.cells #[.int .i64 0, .string ⟨#[]⟩, .int .i64 0, .string ⟨#[]⟩, .string ⟨#[]⟩, .slice none 0 0, .slice none 0 0, .int .i64 0] 194 (0, 0)) := by rw [hW3, <- s2]; exact heap_alloc_new W2 _
 have HB3 : Hid (Below w.heap.size w W3) := hZ (below_over B2 B3)
 have HM : Hid (∀ wx, Below W3.heap.size W3 wx -> wx.heap[w.heap.size]? = some (.cells #[.string m.name, .slice Ai ni ci, .slice Ad m.decs.length cd, .string pkg, .int .i64 major, .slice Ae ne ce, .map (some kb)] 157 (0, 0))) := hZ (fun wx hb => (hb.block _ (by omega)).trans ((B3.block _ (by omega)).trans O0))
 have HT : Hid (∀ wx, Below W3.heap.size W3 wx -> wx.heap[w.heap.size + 1]? = some (.cells #[.string s, .string nm] 227 (0, 0))) := hZ (fun wx hb => (hb.block _ (by omega)).trans ((B3.block _ (by omega)).trans O1))
 have HR : Hid (∀ wx, Below W3.heap.size W3 wx -> wx.heap[w.heap.size + 1 + 1]? = some (.cells #[.int .i64 0, .string ⟨#[]⟩, .int .i64 0, .string ⟨#[]⟩, .string ⟨#[]⟩, .slice none 0 0, .slice none 0 0, .int .i64 0] 194 (0, 0))) := hZ (fun wx hb => (hb.block _ (by omega)).trans O2)
 have HI0 := hZ hI
 have HI : Hid (∀ wx, Below W3.heap.size W3 wx -> RowIn imR wx Ai m.imps) := hZ (fun wx hb => hI.below (below_over HB0w.out (below_over HB3.out hb)))
 have HW : Hid (((w.alloc (.cells #[.string m.name, .slice Ai ni ci, .slice Ad m.decs.length cd, .string pkg, .int .i64 major, .slice Ae ne ce, .map (some kb)] 157)).alloc (.cells #[.string s, .string nm] 227)).alloc (.cells #[.int .i64 0, .string ⟨#[]⟩, .int .i64 0, .string ⟨#[]⟩, .string ⟨#[]⟩, .slice none 0 0, .slice none 0 0, .int .i64 0] 194) = W3) := hZ (by rw [hW3, hW2])
 have hbl : w.heap.size <= w.heap.size + 1 + 1 := by omega
 have IX := hZ (lkImport_any Ai ci m.imps s W3 W3 (HI.out W3 (Below.refl _ _)) (Below.refl _ _) hz2)
 rw [<- hni] at IX
 have HNI := hZ hni
 have HNE := hZ hne
 have HFD := hZ (fun (x : Im) (wx : World) (hh : Below w0.heap.size w0 wx) => lkIface_any Ae ce env x w0 wx hE hh hz5)
 rw [<- hne] at HFD
 have M3' := HM.out W3 (Below.refl _ _)
 have T3' := HT.out W3 (Below.refl _ _)
 have x1 := cZ M3' 1
 have t0 := cZ T3' 0
 simp at x1 t0
 rw [<- hni] at hz2 ⊢
 rw [<- hne] at hz5 ⊢
 have s33 := hZ s3
 clear hI hE hw hW2 hW3 B2 B3 O0 O1 O2 s2 hl2 hni hne M3' T3'
 go_enter Tryz.func187, Tryz.ntmps187
 go_upto_region 1 with fail
 rw [HW.out]
 clear HW
 go_wp2_with (first | fail)
 refine IX.out.mono ?_; rintro e w2 ⟨rfl, hb2⟩
 obtain ⟨x, hx⟩ : ∃ x, x = gotM m.imps s := ⟨_, rfl⟩
 obtain ⟨q, hq⟩ : ∃ q, (m.imps.findIdx? (isAs s)).isSome = q := ⟨_, rfl⟩
 rw [hq, <- hx]
 obtain ⟨wi, hwi⟩ : ∃ wi, wi = w2.alloc (.cells #[.string x.pkg, .int .i64 x.major, .string x.mod, .string x.asn] 71) := ⟨_, rfl⟩
 have Bi : Below w2.heap.size w2 wi := by rw [hwi]; exact below_new (Below.refl _ _) _
 have Oi : wi.heap[w2.heap.size]? = some (.cells #[.string x.pkg, .int .i64 x.major, .string x.mod, .string x.asn] 71 (0, 0)) := by rw [hwi]; exact heap_alloc_new w2 _
 have HBI : Hid (Below W3.heap.size W3 wi) := hZ (below_over hb2 Bi)
 have HOI := hZ Oi
 have HWI := hZ hwi
 have HXX := hZ hx
 have HQQ := hZ hq
 clear hb2 IX x1 t0 hwi Bi Oi hx hq
 go_upto_region 2 with fail
 rw [<- HWI.out]
 clear HWI
 cases hk : impAt m s with
 | none =>
  obtain rfl : q = false := by rw [<- HQQ.out, <- impAt_idx, hk]; rfl
  have X5 := HR.out wi HBI.out;have HX5 := hZ X5;have FIN : Hid (MeOut w0 w (othM m env s nm).1 (othM m env s nm).2 (.returned (.agg #[.int .i64 0, .string ⟨#[]⟩, .int .i64 0, .string ⟨#[]⟩, .string ⟨#[]⟩, .slice none 0 0, .slice none 0 0, .int .i64 4])) (wi.setRow (w.heap.size + 1 + 1) #[.int .i64 0, .string ⟨#[]⟩, .int .i64 0, .string ⟨#[]⟩, .string ⟨#[]⟩, .slice none 0 0, .slice none 0 0, .int .i64 4])) := hZ ⟨[.int .i64 0, .string ⟨#[]⟩, .int .i64 0, .string ⟨#[]⟩, .string ⟨#[]⟩, .slice none 0 0, .slice none 0 0], by rw [othM_no hk]; rfl, by rw [othM_no hk]; exact fun wz _ => zero_at _, setRow_below (below_over HB3.out HBI.out) hbl _⟩;clear hk;go_upto_region 3 with fail
  go_wp2_with (first | ((with_reducible refine wpList_putRow 194 (w.heap.size + 1 + 1) #[.int .i64 0, .string ⟨#[]⟩, .int .i64 0, .string ⟨#[]⟩, .string ⟨#[]⟩, .slice none 0 0, .slice none 0 0, .int .i64 4] _ _ X5 ?_ ?_ ?_ ?_ ?_ ?_); exact meSize; rfl; exact meOne; iterate 2 (focus (first | (go_simp; done) | rfl))))
  exact ret_agg1 (fn := Tryz.f187) (vs := [.int .i64 0, .string ⟨#[]⟩, .int .i64 0, .string ⟨#[]⟩, .string ⟨#[]⟩, .slice none 0 0, .slice none 0 0, .int .i64 4]) (b := w.heap.size + 1 + 1) rfl rfl Tryz.underlying194 (by kernel_rfl) (cell8 (setRow_heap wi (w.heap.size + 1 + 1) _ _ _ _ HX5.out)) rfl FIN.out
 | some k =>
   obtain rfl : q = true := by rw [<- HQQ.out, <- impAt_idx, hk]; rfl
   have hkl : k < m.imps.length := idx_lt hk
   have hxk : m.imps[k]? = some x := by
    obtain ⟨y, hy⟩ : ∃ y, m.imps[k]? = some y := ⟨_, List.getElem?_eq_getElem hkl⟩;rw [HXX.out, gotM_at hk hy]; exact hy
   have EQ := hZ (othM_at (env := env) (n := nm) hk hxk);obtain ⟨y, hy⟩ : ∃ y, y = gotI env x := ⟨_, rfl⟩;have HY := hZ hy;have CF := hZ (HFD.out x wi (below_over HB0w.out (below_over HB3.out HBI.out)));have m5 := cZ (HM.out wi HBI.out) 5;obtain ⟨c0, c1, c2, c3⟩ := cq4 HOI.out;simp at m5 c0 c1 c2 c3;clear hk hxk hkl hy HOI;go_wp2_with (first | fail)
   refine CF.out.mono ?_; rintro e w5 ⟨l5, rfl, hL, hb5⟩
   rw [<- HY.out] at hL;have hL0 := hL w0 (Below.refl _ _);obtain ⟨At, ct, Av, cv, rfl, -, -, hlt, -, -, -⟩ := hL0
   have hT : ∀ wz, Below w0.heap.size w0 wz -> RowIn nmR wz At y.types := fun wz hb => by
    obtain ⟨A', c', A'', c'', e', -, -, -, -, h6, -⟩ := hL wz hb;simp at e';rw [e'.1.1]; exact h6
   obtain ⟨q2, hq2⟩ : ∃ q2, (findI env x.pkg x.major x.mod).isSome = q2 := ⟨_, rfl⟩;rw [hq2];obtain ⟨wc', hwc⟩ : ∃ wc', wc' = w5.alloc (.cells #[.string y.pkg, .int .i64 y.major, .string y.mod, .slice At y.types.length ct, .slice Av y.vals.length cv] 44) := ⟨_, rfl⟩;have Bc : Below w5.heap.size w5 wc' := by rw [hwc]; exact below_new (Below.refl _ _) _
   have hbx : wc'.heap[w5.heap.size]? = some (.cells #[.string y.pkg, .int .i64 y.major, .string y.mod, .slice At y.types.length ct, .slice Av y.vals.length cv] 44 (0, 0)) := by rw [hwc]; exact heap_alloc_new w5 _
   have HBC : Hid (Below W3.heap.size W3 wc') := hZ (below_over HBI.out (below_over hb5 Bc));have i3 := cZ hbx 3;have t1 := cZ (HT.out wc' HBC.out) 1;simp at i3 t1;have OC := hZ (lkType_any At ct y.types nm w0 wc' (hT w0 (Below.refl _ _)) (below_over HB0w.out (below_over HB3.out HBC.out)) hlt);have HWC := hZ hwc;clear hbx hT hlt hb5 hL Bc hwc CF m5 c0 c1 c2 c3 hq2;go_upto_region 5 with fail
   rw [<- HWC.out];clear HWC;go_wp2_with (first | fail)
   refine OC.out.mono ?_; rintro e w6 ⟨l7, rfl, hL, hb6⟩
   obtain ⟨t, ht⟩ : ∃ t, t = gotT y.types nm := ⟨_, rfl⟩;rw [<- ht] at hL;have hL0 := hL w0 (Below.refl _ _);obtain ⟨Bn, cB, Bs, dB, rfl, -⟩ := hL0.parts;have HL := hZ hL;have HB6 : Hid (Below W3.heap.size W3 w6) := hZ (below_over HBC.out hb6);obtain ⟨q3, hq3⟩ : ∃ q3, (ofI y.types nm).isSome = q3 := ⟨_, rfl⟩;rw [hq3];clear hq3;obtain ⟨w7, hw7⟩ : ∃ w7, w7 = w6.alloc (.cells #[.int .i64 t.kind, .string t.pkg, .int .i64 t.major, .string t.mod, .string t.name, .slice Bn t.names.length cB, .slice Bs t.subs.length dB] 50) := ⟨_, rfl⟩;have B7 : Below w6.heap.size w6 w7 := by rw [hw7]; exact below_new (Below.refl _ _) _
   have O7 : w7.heap[w6.heap.size]? = some (.cells #[.int .i64 t.kind, .string t.pkg, .int .i64 t.major, .string t.mod, .string t.name, .slice Bn t.names.length cB, .slice Bs t.subs.length dB] 50 (0, 0)) := by rw [hw7]; exact heap_alloc_new w6 _
   have hl7 : w6.heap.size < w7.heap.size := by rw [hw7]; simp
   have HB7 : Hid (Below W3.heap.size W3 w7) := hZ (below_over HB6.out B7);have HO7 := hZ O7;have HW7 := hZ hw7;have EQ2 : Hid (othM m env s nm = if (mayT t && plainT t) = true then (t, 0) else (zTy, 9)) := hZ (by rw [EQ.out, ht, HY.out]);have PC := hZ (plainK_any t (.agg #[.int .i64 t.kind, .string t.pkg, .int .i64 t.major, .string t.mod, .string t.name, .slice Bn t.names.length cB, .slice Bs t.subs.length dB]) w7 ⟨_, rfl, HL.out w7 (below_over HB0w.out (below_over HB3.out HB7.out))⟩);clear hL hL0 hb6 hw7 B7 O7 i3 t1 ht OC;go_upto_region 6 with fail
   rw [<- HW7.out];have o7 := HO7.out;obtain ⟨r0, r1, r2, r3, r4, r5, r6⟩ := cq7 o7;simp at r0 r1 r2 r3 r4 r5 r6;clear o7 HW7;go_wp2_with fail
   refine PC.out.mono ?_; rintro e w8 ⟨rfl, hb8⟩
   obtain ⟨q, hq⟩ : ∃ q, q = (mayT t && plainT t) := ⟨_, rfl⟩;rw [<- hq];have HB8 : Hid (Below W3.heap.size W3 w8) := hZ (below_over HB7.out hb8);have o8 := (hb8.block _ hl7).trans HO7.out;have HQ := hZ hq;clear r0 r1 r2 r3 r4 r5 r6 hb8 hq PC;obtain ⟨r0, r1, r2, r3, r4, r5, r6⟩ := cq7 o8;simp at r0 r1 r2 r3 r4 r5 r6;clear o8;have X5 := HR.out w8 HB8.out;have HX5 := hZ X5;cases q with
   | false =>
    have FIN : Hid (MeOut w0 w (othM m env s nm).1 (othM m env s nm).2 (.returned (.agg #[.int .i64 0, .string ⟨#[]⟩, .int .i64 0, .string ⟨#[]⟩, .string ⟨#[]⟩, .slice none 0 0, .slice none 0 0, .int .i64 9])) (w8.setRow (w.heap.size + 1 + 1) #[.int .i64 0, .string ⟨#[]⟩, .int .i64 0, .string ⟨#[]⟩, .string ⟨#[]⟩, .slice none 0 0, .slice none 0 0, .int .i64 9])) := hZ ⟨[.int .i64 0, .string ⟨#[]⟩, .int .i64 0, .string ⟨#[]⟩, .string ⟨#[]⟩, .slice none 0 0, .slice none 0 0], by rw [EQ2.out, <- HQ.out]; rfl, by rw [EQ2.out, <- HQ.out]; exact fun wz _ => zero_at _, setRow_below (below_over HB3.out HB8.out) hbl _⟩;go_upto_region 7 with fail
    go_wp2_with (first | ((with_reducible refine wpList_putRow 194 (w.heap.size + 1 + 1) #[.int .i64 0, .string ⟨#[]⟩, .int .i64 0, .string ⟨#[]⟩, .string ⟨#[]⟩, .slice none 0 0, .slice none 0 0, .int .i64 9] _ _ X5 ?_ ?_ ?_ ?_ ?_ ?_); exact meSize; rfl; exact meOne; iterate 2 (focus (first | (go_simp; done) | rfl))))
    exact ret_agg1 (fn := Tryz.f187) (vs := [.int .i64 0, .string ⟨#[]⟩, .int .i64 0, .string ⟨#[]⟩, .string ⟨#[]⟩, .slice none 0 0, .slice none 0 0, .int .i64 9]) (b := w.heap.size + 1 + 1) rfl rfl Tryz.underlying194 (by kernel_rfl) (cell8 (setRow_heap w8 (w.heap.size + 1 + 1) _ _ _ _ HX5.out)) rfl FIN.out
   | true =>
    have FIN : Hid (MeOut w0 w (othM m env s nm).1 (othM m env s nm).2 (.returned (.agg #[.int .i64 t.kind, .string t.pkg, .int .i64 t.major, .string t.mod, .string t.name, .slice Bn t.names.length cB, .slice Bs t.subs.length dB, .int .i64 0])) (w8.setRow (w.heap.size + 1 + 1) #[.int .i64 t.kind, .string t.pkg, .int .i64 t.major, .string t.mod, .string t.name, .slice Bn t.names.length cB, .slice Bs t.subs.length dB, .int .i64 0])) := hZ (by
     have hb := setRow_below (below_over HB3.out HB8.out) hbl #[.int .i64 t.kind, .string t.pkg, .int .i64 t.major, .string t.mod, .string t.name, .slice Bn t.names.length cB, .slice Bs t.subs.length dB, .int .i64 0];exact ⟨[.int .i64 t.kind, .string t.pkg, .int .i64 t.major, .string t.mod, .string t.name, .slice Bn t.names.length cB, .slice Bs t.subs.length dB], by rw [EQ2.out, <- HQ.out]; rfl, by rw [EQ2.out, <- HQ.out]; exact fun wz hz => HL.out wz hz, hb⟩)
    go_upto_region 8 with fail
    go_wp2_with (first | ((with_reducible refine wpList_putRow 194 (w.heap.size + 1 + 1) #[.int .i64 t.kind, .string t.pkg, .int .i64 t.major, .string t.mod, .string t.name, .slice Bn t.names.length cB, .slice Bs t.subs.length dB, .int .i64 0] _ _ X5 ?_ ?_ ?_ ?_ ?_ ?_); exact meSize; rfl; exact meOne; iterate 2 (focus (first | (go_simp; done) | rfl))))
    exact ret_agg1 (fn := Tryz.f187) (vs := [.int .i64 t.kind, .string t.pkg, .int .i64 t.major, .string t.mod, .string t.name, .slice Bn t.names.length cB, .slice Bs t.subs.length dB, .int .i64 0]) (b := w.heap.size + 1 + 1) rfl rfl Tryz.underlying194 (by kernel_rfl) (cell8 (setRow_heap w8 (w.heap.size + 1 + 1) _ _ _ _ HX5.out)) rfl FIN.out
def lookM (m : Mo) (pkg : ByteArray) (major : Int) (env : List If) (s n : ByteArray) : Ty × Int := if s.size = 0 then ownM m pkg major n else othM m env s n
theorem lookN_any (m : Mo) (pkg : ByteArray) (major : Int) (env : List If) (kb : Nat) (s nm : ByteArray) (hnm : nm.size <= 9223372036854775807) (l : List Value) (w0 w : World) (h : NsAt w0 l m pkg major env kb) (hw : Below w0.heap.size w0 w) :
  Calls Tryz.prog 176 #[.agg l.toArray, .agg #[.string s, .string nm]] w (MeOut w0 w (lookM m pkg major env s nm).1 (lookM m pkg major env s nm).2) := by
 have HN := hZ h
 have HB0w := hZ hw
 have HCN := hZ (fun (wx : World) (hb : Below w0.heap.size w0 wx) => ownN_any m pkg major env kb nm hnm l w0 wx h hb)
 have HCO := hZ (fun (wx : World) (hb : Below w0.heap.size w0 wx) => othersN_any m pkg major env kb s nm l w0 wx h hb)
 obtain ⟨Ai, ci, Ad, cd, Ae, ce, rfl, -⟩ := h
 obtain ⟨W2, hW2, B2, O0, O1, hl2⟩ := two_boxes w #[.string m.name, .slice Ai m.imps.length ci, .slice Ad m.decs.length cd, .string pkg, .int .i64 major, .slice Ae env.length ce, .map (some kb)] #[.string s, .string nm] 157 227
 have s2 : W2.heap.size = w.heap.size + 1 + 1 := by rw [hW2]; simp
 obtain ⟨W3, hW3⟩ : ∃ W3, W3 = W2.alloc (.cells #[.int .i64 0, .string ⟨#[]⟩, .int .i64 0, .string ⟨#[]⟩, .string ⟨#[]⟩, .slice none 0 0, .slice none 0 0, .int .i64 0] 194) := ⟨_, rfl⟩
 have B3 : Below W2.heap.size W2 W3 := by rw [hW3]; exact below_new (Below.refl _ _) _
 have s3 : W3.heap.size = w.heap.size + 1 + 1 + 1 := by rw [hW3]; simp [s2]
 have O2 : W3.heap[w.heap.size + 1 + 1]? = some (.cells #[.int .i64 0, .string ⟨#[]⟩, .int .i64 0, .string ⟨#[]⟩, .string ⟨#[]⟩, .slice none 0 0, .slice none 0 0, .int .i64 0] 194 (0, 0)) := by rw [hW3, <- s2]; exact heap_alloc_new W2 _
 have HB3 : Hid (Below w.heap.size w W3) := hZ (below_over B2 B3)
 have X0 := (B3.block w.heap.size (by omega)).trans O0
 have X1 := (B3.block (w.heap.size + 1) (by omega)).trans O1
 have HO2 := hZ O2
 have HW : Hid (((w.alloc (.cells #[.string m.name, .slice Ai m.imps.length ci, .slice Ad m.decs.length cd, .string pkg, .int .i64 major, .slice Ae env.length ce, .map (some kb)] 157)).alloc (.cells #[.string s, .string nm] 227)).alloc (.cells #[.int .i64 0, .string ⟨#[]⟩, .int .i64 0, .string ⟨#[]⟩, .string ⟨#[]⟩, .slice none 0 0, .slice none 0 0, .int .i64 0] 194) = W3) := hZ (by rw [hW3, hW2])
 have hbl : w.heap.size <= w.heap.size + 1 + 1 := by omega
 obtain ⟨x0, x1, x2, x3, x4, x5, x6⟩ := cq7 X0
 obtain ⟨p0, p1⟩ := cq2 X1
 simp at x0 x1 x2 x3 x4 x5 x6 p0 p1
 have CN := hZ (HCN.out W3 (below_over HB0w.out HB3.out))
 have CO := hZ (HCO.out W3 (below_over HB0w.out HB3.out))
 obtain ⟨D, hD⟩ : ∃ D, D = lookM m pkg major env s nm := ⟨_, rfl⟩
 rw [<- hD]
 have HD := hZ hD
 clear hw hW2 hW3 B2 B3 O0 O1 O2 s2 hl2 X0 X1 hD
 by_cases hz : s.size = 0
 ·obtain ⟨z1, z2⟩ := empty_facts _ hz
  have ED : Hid (ownM m pkg major nm = D) := hZ (by rw [HD.out]; unfold lookM; rw [if_pos hz]);rw [ED.out] at CN;clear hz;go_enter Tryz.func176, Tryz.ntmps176
  go_upto_region 1 with fail
  rw [HW.out];go_wp2_with fail
  refine CN.out.mono ?_; rintro e w4 ⟨l7, rfl, hL, hb4⟩
  have X5 := (hb4.block _ (by omega : w.heap.size + 1 + 1 < W3.heap.size)).trans HO2.out;have HX5 := hZ X5;obtain ⟨Bn, cB, Bs, dB, rfl, -⟩ := (hL w0 (Below.refl _ _)).parts;have hb := setRow_below (below_over HB3.out hb4) hbl #[.int .i64 D.1.kind, .string D.1.pkg, .int .i64 D.1.major, .string D.1.mod, .string D.1.name, .slice Bn D.1.names.length cB, .slice Bs D.1.subs.length dB, .int .i64 D.2];have FIN : Hid (MeOut w0 w D.1 D.2 (.returned (.agg #[.int .i64 D.1.kind, .string D.1.pkg, .int .i64 D.1.major, .string D.1.mod, .string D.1.name, .slice Bn D.1.names.length cB, .slice Bs D.1.subs.length dB, .int .i64 D.2])) (w4.setRow (w.heap.size + 1 + 1) #[.int .i64 D.1.kind, .string D.1.pkg, .int .i64 D.1.major, .string D.1.mod, .string D.1.name, .slice Bn D.1.names.length cB, .slice Bs D.1.subs.length dB, .int .i64 D.2])) := hZ ⟨[.int .i64 D.1.kind, .string D.1.pkg, .int .i64 D.1.major, .string D.1.mod, .string D.1.name, .slice Bn D.1.names.length cB, .slice Bs D.1.subs.length dB], rfl, hL, hb⟩;clear hL hb4 x0 x1 x2 x3 x4 x5 x6 p0 p1 z1 z2 hb;go_wp2_with (first | ((with_reducible refine wpList_putRow 194 (w.heap.size + 1 + 1) #[.int .i64 D.1.kind, .string D.1.pkg, .int .i64 D.1.major, .string D.1.mod, .string D.1.name, .slice Bn D.1.names.length cB, .slice Bs D.1.subs.length dB, .int .i64 D.2] _ _ X5 ?_ ?_ ?_ ?_ ?_ ?_); exact meSize; rfl; exact meOne; iterate 2 (focus (first | (go_simp; done) | rfl))))
  exact ret_agg1 (fn := Tryz.f176) (vs := [.int .i64 D.1.kind, .string D.1.pkg, .int .i64 D.1.major, .string D.1.mod, .string D.1.name, .slice Bn D.1.names.length cB, .slice Bs D.1.subs.length dB, .int .i64 D.2]) (b := w.heap.size + 1 + 1) rfl rfl Tryz.underlying194 (by kernel_rfl) (cell8 (setRow_heap w4 (w.heap.size + 1 + 1) _ _ _ _ HX5.out)) rfl FIN.out
 ·obtain ⟨z1, z2⟩ := full_facts _ hz
  have ED : Hid (othM m env s nm = D) := hZ (by rw [HD.out]; unfold lookM; rw [if_neg hz]);rw [ED.out] at CO;clear hz;go_enter Tryz.func176, Tryz.ntmps176
  go_upto_region 1 with fail
  rw [HW.out];go_wp2_with fail
  refine CO.out.mono ?_; rintro e w4 ⟨l7, rfl, hL, hb4⟩
  have X5 := (hb4.block _ (by omega : w.heap.size + 1 + 1 < W3.heap.size)).trans HO2.out;have HX5 := hZ X5;obtain ⟨Bn, cB, Bs, dB, rfl, -⟩ := (hL w0 (Below.refl _ _)).parts;have hb := setRow_below (below_over HB3.out hb4) hbl #[.int .i64 D.1.kind, .string D.1.pkg, .int .i64 D.1.major, .string D.1.mod, .string D.1.name, .slice Bn D.1.names.length cB, .slice Bs D.1.subs.length dB, .int .i64 D.2];have FIN : Hid (MeOut w0 w D.1 D.2 (.returned (.agg #[.int .i64 D.1.kind, .string D.1.pkg, .int .i64 D.1.major, .string D.1.mod, .string D.1.name, .slice Bn D.1.names.length cB, .slice Bs D.1.subs.length dB, .int .i64 D.2])) (w4.setRow (w.heap.size + 1 + 1) #[.int .i64 D.1.kind, .string D.1.pkg, .int .i64 D.1.major, .string D.1.mod, .string D.1.name, .slice Bn D.1.names.length cB, .slice Bs D.1.subs.length dB, .int .i64 D.2])) := hZ ⟨[.int .i64 D.1.kind, .string D.1.pkg, .int .i64 D.1.major, .string D.1.mod, .string D.1.name, .slice Bn D.1.names.length cB, .slice Bs D.1.subs.length dB], rfl, hL, hb⟩;clear hL hb4 x0 x1 x2 x3 x4 x5 x6 p0 p1 z1 z2 hb;go_wp2_with (first | ((with_reducible refine wpList_putRow 194 (w.heap.size + 1 + 1) #[.int .i64 D.1.kind, .string D.1.pkg, .int .i64 D.1.major, .string D.1.mod, .string D.1.name, .slice Bn D.1.names.length cB, .slice Bs D.1.subs.length dB, .int .i64 D.2] _ _ X5 ?_ ?_ ?_ ?_ ?_ ?_); exact meSize; rfl; exact meOne; iterate 2 (focus (first | (go_simp; done) | rfl))))
  exact ret_agg1 (fn := Tryz.f176) (vs := [.int .i64 D.1.kind, .string D.1.pkg, .int .i64 D.1.major, .string D.1.mod, .string D.1.name, .slice Bn D.1.names.length cB, .slice Bs D.1.subs.length dB, .int .i64 D.2]) (b := w.heap.size + 1 + 1) rfl rfl Tryz.underlying194 (by kernel_rfl) (cell8 (setRow_heap w4 (w.heap.size + 1 + 1) _ _ _ _ HX5.out)) rfl FIN.out
theorem lawPlace : WideMaps.KeyLaw Tryz.prog 227 := deep_law (m := 2) (by omega) (by kernel_rfl) (by kernel_rfl) (by kernel_rfl)
def plV (a b : ByteArray) : Value := .agg #[.string a, .string b]
theorem keyPl (a b : ByteArray) (ha : a.size <= 9223372036854775807) (hb : b.size <= 9223372036854775807) : ∃ l, keyOf Tryz.prog 227 (plV a b) = some l := by
  have ha' : a.size <= maxLen := by unfold maxLen; omega
  have hb' : b.size <= maxLen := by unfold maxLen; omega
  have key : ∀ d, Tryz.prog.keyLits (d + 2) 227 [.string a, .string b] = some [.string a.data.toList, .string b.data.toList] := by
    intro d;unfold Program.keyLits
    rw [Tryz.underlying227];simp only [];rw [if_pos ⟨by kernel_rfl, by kernel_rfl⟩];have e1 : Tryz.prog.cellsOf 9 = 1 := tyCellsStr;simp [List.mapM_cons, Program.keyLits, Tryz.underlying9, ha', hb', e1]
  refine ⟨.string (keyBytes [.string a.data.toList, .string b.data.toList]), ?_⟩;unfold keyOf
  rw [Tryz.underlying227];simp only [];have hk : Tryz.prog.keyType 227 = true := by kernel_rfl
  have hf : (plV a b).formed Tryz.prog 227 = true := by
    unfold plV Value.formed
    rw [Tryz.underlying227];kernel_rfl
  have hs : Tryz.prog.types.size + 1 = (Tryz.prog.types.size - 1) + 2 := by
    have : 1 <= Tryz.prog.types.size := of_decide_eq_true (by kernel_rfl)
    omega
  rw [hk, hf, hs];have hc : (plV a b).cells.toList = [.string a, .string b] := rfl;rw [hc, key];rfl
def PlKeys (es : Array MapEntry) : Prop := ∀ e ∈ es.toList, ∃ x y : ByteArray, e.key = plV x y /\ x.size <= 9223372036854775807 /\ y.size <= 9223372036854775807
theorem PlKeys.keys {es : Array MapEntry} (h : PlKeys es) : ∀ e ∈ es.toList, ∃ l, keyOf Tryz.prog 227 e.key = some l := fun e he => by
  obtain ⟨x, y, hk, h1, h2⟩ := h e he;rw [hk]; exact keyPl x y h1 h2
theorem run_lookup_pl (w : World) {kb : Nat} {es : Array MapEntry} {clock : Nat} (hb : w.heap[kb]? = some (.map es clock)) (hK : PlKeys es) (a b : ByteArray) (ha : a.size <= 9223372036854775807) (hb2 : b.size <= 9223372036854775807)
    {z : Value} (hz : (zeroValue 194).run Tryz.prog w = .ok z w) :
    (Instr.lookup 155 (.map (some kb)) (plV a b) true).run Tryz.prog w = .ok (.tuple #[z, .bool false]) w \/
    ∃ e ∈ es.toList, e.key = plV a b /\ (Instr.lookup 155 (.map (some kb)) (plV a b) true).run Tryz.prog w = .ok (.tuple #[e.val, .bool true]) w := by
  obtain ⟨l, hl⟩ := keyPl a b ha hb2;have hu := Tryz.underlying155;rcases lawPlace.find w hl es.toList hK.keys with ⟨h1, -⟩ | ⟨j, e, h1, h2, h3⟩
  · exact .inl (by simp [Instr.lookup, run_underlying hu, MapKept.run_getObj_map hb, lawPlace.check w _ hl, h1, hz, Result.andThen])
  · exact .inr ⟨e, List.mem_of_getElem? h2, h3, by simp [Instr.lookup, run_underlying hu, MapKept.run_getObj_map hb, lawPlace.check w _ hl, h1, Result.andThen]⟩
theorem run_update_pl (w : World) {kb : Nat} {es : Array MapEntry} {clock : Nat} (hb : w.heap[kb]? = some (.map es clock)) (hK : PlKeys es) (a b : ByteArray) (ha : a.size <= 9223372036854775807) (hb2 : b.size <= 9223372036854775807) (v : Value) :
    ∃ es' clock', (Instr.mapUpdate 155 (.map (some kb)) (plV a b) v).run Tryz.prog w = .ok () (ChangeMaps.setBlock w kb (.map es' clock')) /\ ∀ e ∈ es'.toList, e ∈ es.toList \/ (e.key = plV a b /\ e.val = v) := by
  obtain ⟨l, hl⟩ := keyPl a b ha hb2;have hu := Tryz.underlying155;rcases lawPlace.find w hl es.toList hK.keys with ⟨h1, -⟩ | ⟨j, e0, h1, h2, h3⟩
  · refine ⟨es.push ⟨plV a b, v, clock⟩, clock + 1, ?_, fun e he => ?_⟩
    · simp [Instr.mapUpdate, run_underlying hu, MapKept.run_getObj_map hb, lawPlace.check w false hl, h1, MapKept.run_setObj_map _ hb, Result.andThen, ChangeMaps.setBlock]
    · rw [Array.toList_push] at he
      rcases List.mem_append.1 he with h | h
      · exact .inl h
      · rw [List.mem_singleton.1 h]; exact .inr ⟨rfl, rfl⟩
  · have h2' : es[j]? = some e0 := by rw [<- Array.getElem?_toList]; exact h2
    refine ⟨es.modify j fun e => { e with key := plV a b, val := v }, clock, ?_, fun e he => ?_⟩
    · simp [Instr.mapUpdate, run_underlying hu, MapKept.run_getObj_map hb, lawPlace.check w false hl, h1, h2', h3, lawPlace.stays w hl, MapKept.run_setObj_map _ hb, Result.andThen, ChangeMaps.setBlock]
    · obtain ⟨i, hi⟩ := List.mem_iff_getElem?.1 he
      rw [Array.getElem?_toList, Array.getElem?_modify] at hi;by_cases hj : j = i
      · rw [if_pos hj] at hi
        cases he2 : es[i]? with
        | none => rw [he2] at hi; cases hi
        | some y => rw [he2] at hi; simp at hi; rw [<- hi]; exact .inr ⟨rfl, rfl⟩
      · rw [if_neg hj] at hi
        exact .inl (List.mem_of_getElem? (by rw [Array.getElem?_toList]; exact hi))
section
variable {ops : Array Oper} {rest : List Oper} {o : Oper} {act : Act} {Q : Exit -> Act -> World -> Prop}
theorem wpList_lookup_pl (w : World) (hg : o.guard = none) (m x : Operand) (hop : o.op = Op.lookup 155 m x true) {kb : Nat} {es : Array MapEntry} {clock : Nat} (hb : w.heap[kb]? = some (.map es clock)) (hK : PlKeys es)
    (hm : act.eval m = .map (some kb)) (a b : ByteArray) (hx : act.eval x = plV a b) (ha : a.size <= 9223372036854775807) (hb2 : b.size <= 9223372036854775807) {z : Value} (hz : (zeroValue 194).run Tryz.prog w = .ok z w)
    (h0 : wpList Tryz.prog ops Q rest (act.put o.dst (.tuple #[z, .bool false])) w) (h1 : ∀ e ∈ es.toList, e.key = plV a b -> wpList Tryz.prog ops Q rest (act.put o.dst (.tuple #[e.val, .bool true])) w) :
    wpList Tryz.prog ops Q (o :: rest) act w := by
  refine wpList_plain hg fun K' hK' => ?_
  unfold Oper.wp
  rcases run_lookup_pl w hb hK a b ha hb2 hz with hrun | ⟨e, he, hk, hrun⟩
  · simp [execOp, hop, hm, hx, hrun, Result.andThen]
    exact hK' _ _ h0
  · simp [execOp, hop, hm, hx, hrun, Result.andThen]
    exact hK' _ _ (h1 e he hk)
theorem wpList_update_pl (w : World) (hg : o.guard = none) (m x v : Operand) (hop : o.op = Op.mapUpdate 155 m x v) {kb : Nat} {es : Array MapEntry} {clock : Nat} (hb : w.heap[kb]? = some (.map es clock)) (hK : PlKeys es)
    (hm : act.eval m = .map (some kb)) (a b : ByteArray) (val : Value) (hx : act.eval x = plV a b) (hv : act.eval v = val) (ha : a.size <= 9223372036854775807) (hb2 : b.size <= 9223372036854775807)
    (h : ∀ es' clock', (∀ e ∈ es'.toList, e ∈ es.toList \/ (e.key = plV a b /\ e.val = val)) -> wpList Tryz.prog ops Q rest (act.put o.dst undef) (ChangeMaps.setBlock w kb (.map es' clock'))) :
    wpList Tryz.prog ops Q (o :: rest) act w := by
  refine wpList_plain hg fun K' hK' => ?_
  obtain ⟨es', clock', hrun, hes⟩ := run_update_pl w hb hK a b ha hb2 val;unfold Oper.wp
  simp [execOp, hop, hm, hx, hv, hrun, Result.andThen];exact hK' _ _ (h es' clock' hes)
end
def PlMap (w0 w : World) (kb : Nat) (m : Mo) (pkg : ByteArray) (major : Int) (env : List If) : Prop :=
  ∃ (es : Array MapEntry) (clock : Nat), w.heap[kb]? = some (.map es clock) /\ ∀ e ∈ es.toList, ∃ (a b : ByteArray) (l7 : List Value), e.key = plV a b /\ a.size <= 9223372036854775807 /\ b.size <= 9223372036854775807 /\
    e.val = .agg (l7 ++ [Value.int .i64 (lookM m pkg major env a b).2]).toArray /\ ∀ wz, Below w0.heap.size w0 wz -> TyAt wz l7 (lookM m pkg major env a b).1
theorem PlMap.kept {w0 w w' : World} {kb : Nat} {m : Mo} {pkg : ByteArray} {major : Int} {env : List If} (h : PlMap w0 w kb m pkg major env) (e : w'.heap[kb]? = w.heap[kb]?) : PlMap w0 w' kb m pkg major env := by
  obtain ⟨es, clock, hb, hk⟩ := h;exact ⟨es, clock, e.trans hb, hk⟩
theorem PlMap.made (w0 w : World) (m : Mo) (pkg : ByteArray) (major : Int) (env : List If) : PlMap w0 (w.alloc (.map #[] 0)) w.heap.size m pkg major env :=
  ⟨#[], 0, heap_alloc_new w _, fun e he => by simp at he⟩
theorem plV_inj {a b c d : ByteArray} (h : plV a b = plV c d) : a = c /\ b = d := by
  unfold plV at h
  simpa using h
def MnsOut (w0 w : World) (kb : Nat) (m : Mo) (pkg : ByteArray) (major : Int) (env : List If) (D : Ty × Int) (e : Ending) (w' : World) : Prop :=
  ∃ l7 : List Value, e = .returned (.agg (l7 ++ [Value.int .i64 D.2]).toArray) /\ (∀ wz, Below w0.heap.size w0 wz -> TyAt wz l7 D.1) /\ PlMap w0 w' kb m pkg major env /\ w.grownBy w' (some kb)
theorem set_other {w : World} {kb b : Nat} {o : Obj} (h : b ≠ kb) : (ChangeMaps.setBlock w kb o).heap[b]? = w.heap[b]? := by
  unfold ChangeMaps.setBlock
  simp [Array.getElem?_setIfInBounds, Ne.symm h]
theorem set_same {w : World} {kb : Nat} {o : Obj} (h : kb < w.heap.size) : (ChangeMaps.setBlock w kb o).heap[kb]? = some o := by
  unfold ChangeMaps.setBlock
  simp [h]
theorem set_grown (w : World) (kb : Nat) (o : Obj) : w.grownBy (ChangeMaps.setBlock w kb o) (some kb) :=
  ⟨rfl, rfl, rfl, by unfold ChangeMaps.setBlock; simp, fun k _ hne => set_other (fun e => hne (by rw [e]))⟩
section
variable {ops : Array Oper} {rest : List Oper} {o : Oper} {act : Act} {Q : Exit -> Act -> World -> Prop}
theorem wpList_lookup_ns (w0 w : World) (hg : o.guard = none) (x y : Operand) (hop : o.op = Op.lookup 155 x y true) {kb : Nat} {m : Mo} {pkg : ByteArray} {major : Int} {env : List If} (h : PlMap w0 w kb m pkg major env)
    (hm : act.eval x = .map (some kb)) (a b : ByteArray) (hx : act.eval y = plV a b) (ha : a.size <= 9223372036854775807) (hb2 : b.size <= 9223372036854775807) {z : Value} (hz : (zeroValue 194).run Tryz.prog w = .ok z w) (D : Ty × Int) (hD : D = lookM m pkg major env a b)
    (h0 : wpList Tryz.prog ops Q rest (act.put o.dst (.tuple #[z, .bool false])) w)
    (h1 : ∀ (Dn : Option Addr) (dn : Nat) (Ds : Option Addr) (ds : Nat), (∀ wz, Below w0.heap.size w0 wz -> TyAt wz [.int .i64 D.1.kind, .string D.1.pkg, .int .i64 D.1.major, .string D.1.mod, .string D.1.name, .slice Dn D.1.names.length dn, .slice Ds D.1.subs.length ds] D.1) -> wpList Tryz.prog ops Q rest (act.put o.dst (.tuple #[.agg #[.int .i64 D.1.kind, .string D.1.pkg, .int .i64 D.1.major, .string D.1.mod, .string D.1.name, .slice Dn D.1.names.length dn, .slice Ds D.1.subs.length ds, .int .i64 D.2], .bool true])) w) :
    wpList Tryz.prog ops Q (o :: rest) act w := by
  obtain ⟨es, clock, hb, hes⟩ := h;refine wpList_lookup_pl w hg x y hop hb (fun e he => ?_) hm a b hx ha hb2 hz h0 (fun e he hk => ?_)
  · obtain ⟨a, b, l7, q1, q2, q3, -⟩ := hes e he
    exact ⟨a, b, q1, q2, q3⟩
  · obtain ⟨a', b', l7, q1, -, -, q4, q5⟩ := hes e he
    obtain ⟨rfl, rfl⟩ := plV_inj (q1.symm.trans hk);rw [<- hD] at q4 q5;obtain ⟨Dn, dn, Ds, ds, rfl, -⟩ := (q5 w0 (Below.refl _ _)).parts;rw [q4];exact h1 Dn dn Ds ds q5
end
theorem row_grown {w w' : World} {r : Option Nat} (h : w.grownBy w' r) {b : Nat} (hb : w.heap.size <= b) (vs : Array Value) : w.grownBy (w'.setRow b vs) r :=
  ⟨h.os, h.tape, h.output, by rw [size_setRow]; exact h.size, fun k hk hne => (setRow_other _ _ _ _ (by omega)).trans (h.block k hk hne)⟩
theorem zeroMe (w : World) : (zeroValue 194).run Tryz.prog w = .ok (.agg #[.int .i64 0, .string ⟨#[]⟩, .int .i64 0, .string ⟨#[]⟩, .string ⟨#[]⟩, .slice none 0 0, .slice none 0 0, .int .i64 0]) w := by kernel_rfl
theorem meansN_any (m : Mo) (pkg : ByteArray) (major : Int) (env : List If) (kb : Nat) (t : Ty) (l : List Value) (w0 w : World) (h : NsAt w0 l m pkg major env kb) (hw0 : w0.heap.size <= kb) (hwk : ∀ b, b < w0.heap.size -> w.heap[b]? = w0.heap[b]?)
    (hw : Below w0.heap.size w0 w) (hkm : PlMap w0 w kb m pkg major env) (lt : List Value) (ht : TyAt w lt t) :
    Calls Tryz.prog 152 #[.agg l.toArray, .agg lt.toArray] w (MnsOut w0 w kb m pkg major env (lookM m pkg major env t.mod t.name)) := by
  have HB0w := hZ hw;obtain ⟨Bn, cB, Bs, dB, rfl, -, hzm, hzn, -⟩ := ht.parts;have HCL := hZ (fun (wx : World) (hb : Below w0.heap.size w0 wx) => lookN_any m pkg major env kb t.mod t.name hzn l w0 wx h hb);obtain ⟨Ai, ci, Ad, cd, Ae, ce, rfl, -⟩ := h;obtain ⟨es, clock, hkb, hes⟩ := hkm;have hkl : kb < w.heap.size := (Array.getElem?_eq_some_iff.1 hkb).1
  have HPK : Hid (PlKeys es) := hZ (fun e he => by
    obtain ⟨a, b, l7, h1, h2, h3, -⟩ := hes e he;exact ⟨a, b, h1, h2, h3⟩)
  have HES := hZ hes;obtain ⟨D, hD⟩ : ∃ D, D = lookM m pkg major env t.mod t.name := ⟨_, rfl⟩;rw [<- hD];have HD := hZ hD;have HKM0 : Hid (PlMap w0 w kb m pkg major env) := hZ ⟨es, clock, hkb, hes⟩;obtain ⟨W2, hW2, B2, O0, O1, hl2⟩ := two_boxes w #[.string m.name, .slice Ai m.imps.length ci, .slice Ad m.decs.length cd, .string pkg, .int .i64 major, .slice Ae env.length ce, .map (some kb)] #[.int .i64 t.kind, .string t.pkg, .int .i64 t.major, .string t.mod, .string t.name, .slice Bn t.names.length cB, .slice Bs t.subs.length dB] 157 50;have s2 : W2.heap.size = w.heap.size + 1 + 1 := by rw [hW2]; simp
  obtain ⟨W3, hW3⟩ : ∃ W3, W3 = W2.alloc (.cells #[.int .i64 0, .string ⟨#[]⟩, .int .i64 0, .string ⟨#[]⟩, .string ⟨#[]⟩, .slice none 0 0, .slice none 0 0, .int .i64 0] 194) := ⟨_, rfl⟩;have B3 : Below W2.heap.size W2 W3 := by rw [hW3]; exact below_new (Below.refl _ _) _
  have s3 : W3.heap.size = w.heap.size + 1 + 1 + 1 := by rw [hW3]; simp [s2]
  have O2 : W3.heap[w.heap.size + 1 + 1]? = some (.cells #[.int .i64 0, .string ⟨#[]⟩, .int .i64 0, .string ⟨#[]⟩, .string ⟨#[]⟩, .slice none 0 0, .slice none 0 0, .int .i64 0] 194 (0, 0)) := by rw [hW3, <- s2]; exact heap_alloc_new W2 _
  obtain ⟨W4, hW4⟩ : ∃ W4, W4 = W3.alloc (.cells #[.string t.mod, .string t.name] 227) := ⟨_, rfl⟩;have B4 : Below W3.heap.size W3 W4 := by rw [hW4]; exact below_new (Below.refl _ _) _
  have s4 : W4.heap.size = w.heap.size + 1 + 1 + 1 + 1 := by rw [hW4]; simp [s3]
  have O3 : W4.heap[w.heap.size + 1 + 1 + 1]? = some (.cells #[.string t.mod, .string t.name] 227 (0, 0)) := by rw [hW4, <- s3]; exact heap_alloc_new W3 _
  obtain ⟨W5, hW5⟩ : ∃ W5, W5 = W4.alloc (.cells #[.int .i64 0, .string ⟨#[]⟩, .int .i64 0, .string ⟨#[]⟩, .string ⟨#[]⟩, .slice none 0 0, .slice none 0 0, .int .i64 0] 194) := ⟨_, rfl⟩;have B5 : Below W4.heap.size W4 W5 := by rw [hW5]; exact below_new (Below.refl _ _) _
  have s5 : W5.heap.size = w.heap.size + 1 + 1 + 1 + 1 + 1 := by rw [hW5]; simp [s4]
  have O4 : W5.heap[w.heap.size + 1 + 1 + 1 + 1]? = some (.cells #[.int .i64 0, .string ⟨#[]⟩, .int .i64 0, .string ⟨#[]⟩, .string ⟨#[]⟩, .slice none 0 0, .slice none 0 0, .int .i64 0] 194 (0, 0)) := by rw [hW5, <- s4]; exact heap_alloc_new W4 _
  have HBX3 := below_over B2 B3;have HBX4 : Hid (Below w.heap.size w W4) := hZ (below_over HBX3 B4);have HBX5 : Hid (Below w.heap.size w W5) := hZ (below_over HBX4.out B5);have K4 : W4.heap[kb]? = some (.map es clock) := (HBX4.out.block _ hkl).trans hkb;have X0 : W4.heap[w.heap.size]? = some (.cells #[.string m.name, .slice Ai m.imps.length ci, .slice Ad m.decs.length cd, .string pkg, .int .i64 major, .slice Ae env.length ce, .map (some kb)] 157 (0, 0)) := (B4.block _ (by omega)).trans ((B3.block _ (by omega)).trans O0);have X1 : W2.heap[w.heap.size + 1]? = some (.cells #[.int .i64 t.kind, .string t.pkg, .int .i64 t.major, .string t.mod, .string t.name, .slice Bn t.names.length cB, .slice Bs t.subs.length dB] 50 (0, 0)) := O1;have HX0 : Hid (W5.heap[w.heap.size]? = some (.cells #[.string m.name, .slice Ai m.imps.length ci, .slice Ad m.decs.length cd, .string pkg, .int .i64 major, .slice Ae env.length ce, .map (some kb)] 157 (0, 0))) := hZ ((B5.block _ (by omega)).trans X0);have HX2 : Hid (W5.heap[w.heap.size + 1 + 1]? = some (.cells #[.int .i64 0, .string ⟨#[]⟩, .int .i64 0, .string ⟨#[]⟩, .string ⟨#[]⟩, .slice none 0 0, .slice none 0 0, .int .i64 0] 194 (0, 0))) := hZ ((B5.block _ (by omega)).trans ((B4.block _ (by omega)).trans O2));have HX2' : Hid (W4.heap[w.heap.size + 1 + 1]? = some (.cells #[.int .i64 0, .string ⟨#[]⟩, .int .i64 0, .string ⟨#[]⟩, .string ⟨#[]⟩, .slice none 0 0, .slice none 0 0, .int .i64 0] 194 (0, 0))) := hZ ((B4.block _ (by omega)).trans O2)
  have HX3 : Hid (W5.heap[w.heap.size + 1 + 1 + 1]? = some (.cells #[.string t.mod, .string t.name] 227 (0, 0))) := hZ ((B5.block _ (by omega)).trans O3);have HX4 := hZ O4;have HK5 : Hid (W5.heap[kb]? = some (.map es clock)) := hZ ((B5.block _ (by omega)).trans K4);have HW4 : Hid ((((w.alloc (.cells #[.string m.name, .slice Ai m.imps.length ci, .slice Ad m.decs.length cd, .string pkg, .int .i64 major, .slice Ae env.length ce, .map (some kb)] 157)).alloc (.cells #[.int .i64 t.kind, .string t.pkg, .int .i64 t.major, .string t.mod, .string t.name, .slice Bn t.names.length cB, .slice Bs t.subs.length dB] 50)).alloc (.cells #[.int .i64 0, .string ⟨#[]⟩, .int .i64 0, .string ⟨#[]⟩, .string ⟨#[]⟩, .slice none 0 0, .slice none 0 0, .int .i64 0] 194)).alloc (.cells #[.string t.mod, .string t.name] 227) = W4) := hZ (by rw [hW4, hW3, hW2]);have HW5 := hZ hW5;have HW3 : Hid (((w.alloc (.cells #[.string m.name, .slice Ai m.imps.length ci, .slice Ad m.decs.length cd, .string pkg, .int .i64 major, .slice Ae env.length ce, .map (some kb)] 157)).alloc (.cells #[.int .i64 t.kind, .string t.pkg, .int .i64 t.major, .string t.mod, .string t.name, .slice Bn t.names.length cB, .slice Bs t.subs.length dB] 50)).alloc (.cells #[.int .i64 0, .string ⟨#[]⟩, .int .i64 0, .string ⟨#[]⟩, .string ⟨#[]⟩, .slice none 0 0, .slice none 0 0, .int .i64 0] 194) = W3) := hZ (by rw [hW3, hW2]);have HWW : Hid (W3.alloc (.cells #[.string t.mod, .string t.name] 227) = W4) := hZ hW4.symm;have T1 : W3.heap[w.heap.size + 1]? = some (.cells #[.int .i64 t.kind, .string t.pkg, .int .i64 t.major, .string t.mod, .string t.name, .slice Bn t.names.length cB, .slice Bs t.subs.length dB] 50 (0, 0)) := (B3.block _ (by omega)).trans O1;have t3 := cZ T1 3;have t4 := cZ T1 4;have n6 := cZ X0 6;obtain ⟨q0, q1⟩ := cq2 O3;simp at t3 t4 n6 q0 q1;have hbl : w.heap.size <= w.heap.size + 1 + 1 := by omega
  have HK4 := hZ K4;clear hw hW2 hW3 hW4 hW5 B2 B3 B4 B5 O0 O1 O2 O3 O4 X0 X1 T1 K4 hes hD ht HBX3 hl2;go_enter Tryz.func152, Tryz.ntmps152
  go_upto_region 1 with fail
  rw [HW3.out];go_upto_region 2 with fail
  rw [HWW.out];clear t3 t4;go_upto_region 3 with (first | (at_lookup; refine wpList_lookup_ns w0 _ rfl _ _ rfl (HKM0.out.kept (HBX4.out.block _ hkl)) rfl t.mod t.name rfl hzm hzn (zeroMe _) D HD.out ?_ ?_) | (intro Dn dn Ds ds hTD; have HTD := hZ hTD; clear hTD))
  · rw [<- HW5.out]
    have CL := hZ (HCL.out W5 (below_over HB0w.out HBX5.out));rw [<- HD.out] at CL;have X0 := HX0.out;have X3 := HX3.out;obtain ⟨x0, x1, x2, x3, x4, x5, x6⟩ := cq7 X0;obtain ⟨p0, p1⟩ := cq2 X3;simp at x0 x1 x2 x3 x4 x5 x6 p0 p1;clear X0 X3 n6 q0 q1;go_upto_region 4 with fail
    go_upto_block 1 with fail
    go_wp2_with fail
    refine CL.out.mono ?_; rintro e w6 ⟨l7, rfl, hL, hb6⟩
    obtain ⟨Dn, dn, Ds, ds, rfl, -⟩ := (hL w0 (Below.refl _ _)).parts;have HTD := hZ hL;have HB6 := hZ hb6;have X6 := (hb6.block _ (by omega : w.heap.size + 1 + 1 + 1 + 1 < W5.heap.size)).trans HX4.out;have HX6 := hZ X6;clear hL hb6 CL x0 x1 x2 x3 x4 x5 x6 p0 p1;go_upto_region 5 with (first | ((with_reducible refine wpList_putRow 194 (w.heap.size + 1 + 1 + 1 + 1) #[.int .i64 D.1.kind, .string D.1.pkg, .int .i64 D.1.major, .string D.1.mod, .string D.1.name, .slice Dn D.1.names.length dn, .slice Ds D.1.subs.length ds, .int .i64 D.2] _ _ X6 ?_ ?_ ?_ ?_ ?_ ?_); exact meSize; rfl; exact meOne; iterate 2 (focus (first | (go_simp; done) | rfl))))
    clear X6;obtain ⟨w7, hw7⟩ : ∃ w7, w7 = w6.setRow (w.heap.size + 1 + 1 + 1 + 1) #[.int .i64 D.1.kind, .string D.1.pkg, .int .i64 D.1.major, .string D.1.mod, .string D.1.name, .slice Dn D.1.names.length dn, .slice Ds D.1.subs.length ds, .int .i64 D.2] := ⟨_, rfl⟩;have s6 : W5.heap.size <= w6.heap.size := HB6.out.size;have B7 : Below w.heap.size w w7 := by rw [hw7]; exact setRow_below (below_over HBX5.out HB6.out) (by omega) _
    have O7 : w7.heap[w.heap.size + 1 + 1 + 1 + 1]? = some (.cells #[.int .i64 D.1.kind, .string D.1.pkg, .int .i64 D.1.major, .string D.1.mod, .string D.1.name, .slice Dn D.1.names.length dn, .slice Ds D.1.subs.length ds, .int .i64 D.2] 194 (0, 0)) := by rw [hw7]; exact setRow_heap w6 _ _ _ _ _ HX6.out
    have ot : ∀ b, b ≠ w.heap.size + 1 + 1 + 1 + 1 -> w7.heap[b]? = w6.heap[b]? := fun b hb => by rw [hw7]; exact setRow_other _ _ _ _ hb
    have K7 : w7.heap[kb]? = some (.map es clock) := (ot kb (by omega)).trans ((HB6.out.block _ (by omega)).trans HK5.out);have N7 : w7.heap[w.heap.size]? = some (.cells #[.string m.name, .slice Ai m.imps.length ci, .slice Ad m.decs.length cd, .string pkg, .int .i64 major, .slice Ae env.length ce, .map (some kb)] 157 (0, 0)) := (ot _ (by omega)).trans ((HB6.out.block _ (by omega)).trans HX0.out);have P7 : w7.heap[w.heap.size + 1 + 1 + 1]? = some (.cells #[.string t.mod, .string t.name] 227 (0, 0)) := (ot _ (by omega)).trans ((HB6.out.block _ (by omega)).trans HX3.out);have R7 : w7.heap[w.heap.size + 1 + 1]? = some (.cells #[.int .i64 0, .string ⟨#[]⟩, .int .i64 0, .string ⟨#[]⟩, .string ⟨#[]⟩, .slice none 0 0, .slice none 0 0, .int .i64 0] 194 (0, 0)) := (ot _ (by omega)).trans ((HB6.out.block _ (by omega)).trans HX2.out);have HO7 := hZ O7;have HR7 := hZ R7;have HK7 := hZ K7;have HB7 := hZ B7;have HW7 := hZ hw7;rw [<- HW7.out];have n6 := cZ N7 6;obtain ⟨p0, p1⟩ := cq2 P7;obtain ⟨d0, d1, d2, d3, d4, d5, d6, d7⟩ := cq8 O7;simp at n6 p0 p1 d0 d1 d2 d3 d4 d5 d6 d7;clear hw7 B7 O7 ot K7 N7 P7 R7 HW7;go_upto_region 6 with (first | (at_mapUpdate; refine wpList_update_pl _ rfl _ _ _ rfl HK7.out HPK.out rfl t.mod t.name _ rfl rfl hzm hzn ?_; intro es' clock' hes'))
    obtain ⟨w8, hw8⟩ : ∃ w8, w8 = ChangeMaps.setBlock w7 kb (.map es' clock') := ⟨_, rfl⟩;have K7l : kb < w7.heap.size := (Array.getElem?_eq_some_iff.1 HK7.out).1;have O8 : w8.heap[w.heap.size + 1 + 1 + 1 + 1]? = some (.cells #[.int .i64 D.1.kind, .string D.1.pkg, .int .i64 D.1.major, .string D.1.mod, .string D.1.name, .slice Dn D.1.names.length dn, .slice Ds D.1.subs.length ds, .int .i64 D.2] 194 (0, 0)) := by rw [hw8, set_other (by omega)]; exact HO7.out
    have R8 : w8.heap[w.heap.size + 1 + 1]? = some (.cells #[.int .i64 0, .string ⟨#[]⟩, .int .i64 0, .string ⟨#[]⟩, .string ⟨#[]⟩, .slice none 0 0, .slice none 0 0, .int .i64 0] 194 (0, 0)) := by rw [hw8, set_other (by omega)]; exact HR7.out
    have HX8 := hZ R8;have GR8 : w.grownBy w8 (some kb) := grown_over (grown_of HB7.out) (by rw [hw8]; exact set_grown w7 kb _)
    have PL8 : PlMap w0 w8 kb m pkg major env := by
      refine ⟨es', clock', by rw [hw8]; exact set_same K7l, fun e he => ?_⟩;rcases hes' e he with h | ⟨h1, h2⟩
      · exact HES.out e h
      · exact ⟨t.mod, t.name, [.int .i64 D.1.kind, .string D.1.pkg, .int .i64 D.1.major, .string D.1.mod, .string D.1.name, .slice Dn D.1.names.length dn, .slice Ds D.1.subs.length ds], h1, hzm, hzn, by rw [h2, <- HD.out]; rfl, by rw [<- HD.out]; exact HTD.out⟩
    have FIN : Hid (MnsOut w0 w kb m pkg major env D (.returned (.agg #[.int .i64 D.1.kind, .string D.1.pkg, .int .i64 D.1.major, .string D.1.mod, .string D.1.name, .slice Dn D.1.names.length dn, .slice Ds D.1.subs.length ds, .int .i64 D.2])) (w8.setRow (w.heap.size + 1 + 1) #[.int .i64 D.1.kind, .string D.1.pkg, .int .i64 D.1.major, .string D.1.mod, .string D.1.name, .slice Dn D.1.names.length dn, .slice Ds D.1.subs.length ds, .int .i64 D.2])) := hZ
      ⟨[.int .i64 D.1.kind, .string D.1.pkg, .int .i64 D.1.major, .string D.1.mod, .string D.1.name, .slice Dn D.1.names.length dn, .slice Ds D.1.subs.length ds], rfl, HTD.out, PL8.kept (setRow_other _ _ _ _ (by omega)), row_grown GR8 (by omega) _⟩
    have HW8 := hZ hw8;rw [<- HW8.out];clear n6 p0 p1 d0 d1 d2 d3 d4 d5 d6 d7;obtain ⟨d0, d1, d2, d3, d4, d5, d6, d7⟩ := cq8 O8;simp at d0 d1 d2 d3 d4 d5 d6 d7;clear hw8 O8 GR8 PL8 hes' HW8;go_wp2_with (first | ((with_reducible refine wpList_putRow 194 (w.heap.size + 1 + 1) #[.int .i64 D.1.kind, .string D.1.pkg, .int .i64 D.1.major, .string D.1.mod, .string D.1.name, .slice Dn D.1.names.length dn, .slice Ds D.1.subs.length ds, .int .i64 D.2] _ _ R8 ?_ ?_ ?_ ?_ ?_ ?_); exact meSize; rfl; exact meOne; iterate 2 (focus (first | (go_simp; done) | rfl))))
    exact ret_agg1 (fn := Tryz.f152) (vs := [.int .i64 D.1.kind, .string D.1.pkg, .int .i64 D.1.major, .string D.1.mod, .string D.1.name, .slice Dn D.1.names.length dn, .slice Ds D.1.subs.length ds, .int .i64 D.2]) (b := w.heap.size + 1 + 1) rfl rfl Tryz.underlying194 (by kernel_rfl) (cell8 (setRow_heap w8 (w.heap.size + 1 + 1) _ _ _ _ HX8.out)) rfl FIN.out
  · obtain ⟨w5, hw5⟩ : ∃ w5, w5 = W4.alloc (.cells #[.int .i64 D.1.kind, .string D.1.pkg, .int .i64 D.1.major, .string D.1.mod, .string D.1.name, .slice Dn D.1.names.length dn, .slice Ds D.1.subs.length ds, .int .i64 D.2] 194) := ⟨_, rfl⟩
    have B5 : Below W4.heap.size W4 w5 := by rw [hw5]; exact below_new (Below.refl _ _) _
    have O5 : w5.heap[w.heap.size + 1 + 1 + 1 + 1]? = some (.cells #[.int .i64 D.1.kind, .string D.1.pkg, .int .i64 D.1.major, .string D.1.mod, .string D.1.name, .slice Dn D.1.names.length dn, .slice Ds D.1.subs.length ds, .int .i64 D.2] 194 (0, 0)) := by rw [hw5, <- s4]; exact heap_alloc_new W4 _
    have R5 : w5.heap[w.heap.size + 1 + 1]? = some (.cells #[.int .i64 0, .string ⟨#[]⟩, .int .i64 0, .string ⟨#[]⟩, .string ⟨#[]⟩, .slice none 0 0, .slice none 0 0, .int .i64 0] 194 (0, 0)) := (B5.block _ (by omega)).trans HX2'.out;have BB := below_over HBX4.out B5;have HX8 := hZ R5
    have FIN : Hid (MnsOut w0 w kb m pkg major env D (.returned (.agg #[.int .i64 D.1.kind, .string D.1.pkg, .int .i64 D.1.major, .string D.1.mod, .string D.1.name, .slice Dn D.1.names.length dn, .slice Ds D.1.subs.length ds, .int .i64 D.2])) (w5.setRow (w.heap.size + 1 + 1) #[.int .i64 D.1.kind, .string D.1.pkg, .int .i64 D.1.major, .string D.1.mod, .string D.1.name, .slice Dn D.1.names.length dn, .slice Ds D.1.subs.length ds, .int .i64 D.2])) := hZ
      ⟨[.int .i64 D.1.kind, .string D.1.pkg, .int .i64 D.1.major, .string D.1.mod, .string D.1.name, .slice Dn D.1.names.length dn, .slice Ds D.1.subs.length ds], rfl, HTD.out, (HKM0.out.kept (BB.block _ hkl)).kept (setRow_other _ _ _ _ (by omega)), grown_of (setRow_below BB hbl _)⟩
    have HW5' := hZ hw5
    rw [<- HW5'.out];clear n6 q0 q1;obtain ⟨d0, d1, d2, d3, d4, d5, d6, d7⟩ := cq8 O5;simp at d0 d1 d2 d3 d4 d5 d6 d7;clear hw5 O5 B5 BB HW5';go_wp2_with (first | ((with_reducible refine wpList_putRow 194 (w.heap.size + 1 + 1) #[.int .i64 D.1.kind, .string D.1.pkg, .int .i64 D.1.major, .string D.1.mod, .string D.1.name, .slice Dn D.1.names.length dn, .slice Ds D.1.subs.length ds, .int .i64 D.2] _ _ R5 ?_ ?_ ?_ ?_ ?_ ?_); exact meSize; rfl; exact meOne; iterate 2 (focus (first | (go_simp; done) | rfl))))
    exact ret_agg1 (fn := Tryz.f152) (vs := [.int .i64 D.1.kind, .string D.1.pkg, .int .i64 D.1.major, .string D.1.mod, .string D.1.name, .slice Dn D.1.names.length dn, .slice Ds D.1.subs.length ds, .int .i64 D.2]) (b := w.heap.size + 1 + 1) rfl rfl Tryz.underlying194 (by kernel_rfl) (cell8 (setRow_heap w5 (w.heap.size + 1 + 1) _ _ _ _ HX8.out)) rfl FIN.out
end Go.Proofs.YtddlmigofilejaaGreat
