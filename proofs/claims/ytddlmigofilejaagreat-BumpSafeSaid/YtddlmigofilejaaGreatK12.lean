/-
  Several texts in one.
-/
import Derived.Test.YtddlmigofilejaaGreatK11
set_option maxRecDepth 100000
set_option maxHeartbeats 8000000
namespace Go.Proofs.YtddlmigofilejaaGreat
open Go Go.RowKit Go.Shelf
open Go.Sort Go.Maps
open M
def NsAt (w : World) (l : List Value) (m : Mo) (pkg : ByteArray) (major : Int) (env : List If) (kb : Nat) : Prop :=
  ∃ (Ai : Option Addr) (ci : Nat) (Ad : Option Addr) (cd : Nat) (Ae : Option Addr) (ce : Nat), l = [.string m.name, .slice Ai m.imps.length ci, .slice Ad m.decs.length cd, .string pkg, .int .i64 major, .slice Ae env.length ce, .map (some kb)] /\
    m.name.size <= 9223372036854775807 /\ m.imps.length <= 9223372036854775807 /\ m.decs.length <= 9223372036854775807 /\ pkg.size <= 9223372036854775807 /\ env.length <= 9223372036854775807 /\ RowIn imR w Ai m.imps /\ RowIn deR w Ad m.decs /\ RowIn ifR w Ae env
theorem NsAt.below {w w' : World} {l : List Value} {m : Mo} {pkg : ByteArray} {major : Int} {env : List If} {kb : Nat} (h : NsAt w l m pkg major env kb) (hb : Below w.heap.size w w') : NsAt w' l m pkg major env kb := by
  obtain ⟨Ai, ci, Ad, cd, Ae, ce, e, h1, h2, h3, h4, h5, h6, h7, h8⟩ := h;exact ⟨Ai, ci, Ad, cd, Ae, ce, e, h1, h2, h3, h4, h5, h6.below hb, h7.below hb, h8.below hb⟩
theorem open_at {m : Mo} {pkg : ByteArray} {major : Int} {name : ByteArray} (w : World) (h1 : pkg.size <= 9223372036854775807) (h2 : m.name.size <= 9223372036854775807) (h3 : name.size <= 9223372036854775807) : TyAt w [.int .i64 9, .string pkg, .int .i64 major, .string m.name, .string name, .slice none 0 0, .slice none 0 0] (openT m pkg major name) :=
  .mk 9 pkg major m.name name [] [] none 0 none 0 (fun _ => [.int .i64 0, .string ⟨#[]⟩, .int .i64 0, .string ⟨#[]⟩, .string ⟨#[]⟩, .slice none 0 0, .slice none 0 0]) h1 h2 h3 (by decide) (by decide) (by decide) (fun i s h => by simp at h) (fun _ => rfl) (fun i t h => by simp at h) (fun i t h => by simp at h)
theorem meSize : (Tryz.prog.info? 194).map (·.size) = some 8 := by kernel_rfl
theorem meOne {k m e : Int} {p d n : ByteArray} {A5 A6 : Option Addr} {n5 c5 n6 c6 : Nat} : (#[.int .i64 k, .string p, .int .i64 m, .string d, .string n, .slice A5 n5 c5, .slice A6 n6 c6, .int .i64 e] : Array Value).all (·.oneCell') = true := Array.all_eq_true_iff_forall_mem.2 (fun v hv => by simp at hv; rcases hv with rfl | rfl | rfl | rfl | rfl | rfl | rfl | rfl <;> rfl)
def MeOut (w0 w : World) (s : Ty) (c : Int) (e : Ending) (w' : World) : Prop :=
  ∃ l7 : List Value, e = .returned (.agg (l7 ++ [Value.int .i64 c]).toArray) /\ (∀ wz, Below w0.heap.size w0 wz -> TyAt wz l7 s) /\ Below w.heap.size w w'
def ownM (m : Mo) (pkg : ByteArray) (major : Int) (name : ByteArray) : Ty × Int :=
  match m.decs.findIdx? (isDe name) with
  | none => (zTy, 4)
  | some k => match m.decs[k]? with
    | none => (zTy, 4)
    | some d => if d.kind = 3 then (d.typ, 0) else (openT m pkg major name, 0)
theorem ownM_no {m : Mo} {pkg : ByteArray} {major : Int} {name : ByteArray} (h : m.decs.findIdx? (isDe name) = none) : ownM m pkg major name = (zTy, 4) := by unfold ownM; rw [h]
theorem ownM_at {m : Mo} {pkg : ByteArray} {major : Int} {name : ByteArray} {k : Nat} {d : De} (h : m.decs.findIdx? (isDe name) = some k) (hd : m.decs[k]? = some d) : ownM m pkg major name = if d.kind = 3 then (d.typ, 0) else (openT m pkg major name, 0) := by unfold ownM; rw [h]; simp only []; rw [hd]
theorem idx_lt {α : Type} {p : α -> Bool} {l : List α} {k : Nat} (h : l.findIdx? p = some k) : k < l.length := by
  rw [List.findIdx?_eq_some_iff_getElem] at h;exact h.1
theorem openN_any (m : Mo) (pkg : ByteArray) (major : Int) (env : List If) (kb : Nat) (name : ByteArray) (l : List Value) (w : World) (h : NsAt w l m pkg major env kb) :
    Calls Tryz.prog 149 #[.agg l.toArray, .string name] w fun e w' => e = .returned (.agg #[.int .i64 9, .string pkg, .int .i64 major, .string m.name, .string name, .slice none 0 0, .slice none 0 0]) /\ Below w.heap.size w w' := by
  obtain ⟨Ai, ci, Ad, cd, Ae, ce, rfl, -, -, -, -, -, -, -, -⟩ := h;obtain ⟨W2, hW2, B2, O0, O1, hl2⟩ := two_boxes w #[.string m.name, .slice Ai m.imps.length ci, .slice Ad m.decs.length cd, .string pkg, .int .i64 major, .slice Ae env.length ce, .map (some kb)] #[.int .i64 0, .string ⟨#[]⟩, .int .i64 0, .string ⟨#[]⟩, .string ⟨#[]⟩, .slice none 0 0, .slice none 0 0] 157 50;have HB2 := hZ B2;have HO1 := hZ O1;have HW := hZ hW2;have x0 := cZ O0 0;have x3 := cZ O0 3;have x4 := cZ O0 4;simp at x0 x3 x4;have X5 := HO1.out;have FIN := hZ (setRow_below HB2.out (b := w.heap.size + 1) (by omega) #[.int .i64 9, .string pkg, .int .i64 major, .string m.name, .string name, .slice none 0 0, .slice none 0 0]);clear hW2 B2 O0 O1;go_enter Tryz.func149, Tryz.ntmps149
  go_upto_region 1 with fail
  rw [<- HW.out];clear HW;go_wp2_with (first | (((with_reducible refine wpList_putRow 50 (w.heap.size + 1) #[.int .i64 9, .string pkg, .int .i64 major, .string m.name, .string name, .slice none 0 0, .slice none 0 0] _ _ X5 ?_ ?_ ?_ ?_ ?_ ?_); exact tySize; rfl; exact tyOne; iterate 2 (focus (first | (go_simp; done) | rfl)))))
  exact ret_agg1 (fn := Tryz.f149) (vs := [.int .i64 9, .string pkg, .int .i64 major, .string m.name, .string name, .slice none 0 0, .slice none 0 0]) (b := w.heap.size + 1) rfl rfl Tryz.underlying50 (by kernel_rfl) (cell7 (setRow_heap W2 (w.heap.size + 1) _ _ _ _ HO1.out)) rfl ⟨rfl, FIN.out⟩
theorem ownN_any (m : Mo) (pkg : ByteArray) (major : Int) (env : List If) (kb : Nat) (name : ByteArray) (hnm : name.size <= 9223372036854775807) (l : List Value) (w0 w : World) (h : NsAt w0 l m pkg major env kb) (hw : Below w0.heap.size w0 w) :
    Calls Tryz.prog 186 #[.agg l.toArray, .string name] w (MeOut w0 w (ownM m pkg major name).1 (ownM m pkg major name).2) := by
  have HN := hZ h;have HB0w := hZ hw;obtain ⟨Ai, ci, Ad, cd, Ae, ce, rfl, hz1, -, hz3, hz4, -, -, hD, -⟩ := h;obtain ⟨n, hn⟩ : ∃ n, n = m.decs.length := ⟨_, rfl⟩;obtain ⟨W2, hW2, B2, O0, O1, hl2⟩ := two_boxes w #[.string m.name, .slice Ai m.imps.length ci, .slice Ad m.decs.length cd, .string pkg, .int .i64 major, .slice Ae env.length ce, .map (some kb)] #[.string name] 157 9;have s2 : W2.heap.size = w.heap.size + 1 + 1 := by rw [hW2]; simp
  obtain ⟨W3, hW3⟩ : ∃ W3, W3 = W2.alloc (.cells #[.int .i64 0, .string ⟨#[]⟩, .int .i64 0, .string ⟨#[]⟩, .string ⟨#[]⟩, .slice none 0 0, .slice none 0 0, .int .i64 0] 194) := ⟨_, rfl⟩;have B3 : Below W2.heap.size W2 W3 := by rw [hW3]; exact below_new (Below.refl _ _) _
  have s3 : W3.heap.size = w.heap.size + 1 + 1 + 1 := by rw [hW3]; simp [s2]
  have O2 : W3.heap[w.heap.size + 1 + 1]? = some (.cells #[.int .i64 0, .string ⟨#[]⟩, .int .i64 0, .string ⟨#[]⟩, .string ⟨#[]⟩, .slice none 0 0, .slice none 0 0, .int .i64 0] 194 (0, 0)) := by rw [hW3, <- s2]; exact heap_alloc_new W2 _
  have HB3 : Hid (Below w.heap.size w W3) := hZ (below_over B2 B3);have HM : Hid (∀ wx, Below W3.heap.size W3 wx -> wx.heap[w.heap.size]? = some (.cells #[.string m.name, .slice Ai m.imps.length ci, .slice Ad m.decs.length cd, .string pkg, .int .i64 major, .slice Ae env.length ce, .map (some kb)] 157 (0, 0))) := hZ (fun wx hb => (hb.block _ (by omega)).trans ((B3.block _ (by omega)).trans O0));have HT : Hid (∀ wx, Below W3.heap.size W3 wx -> wx.heap[w.heap.size + 1]? = some (.cells #[.string name] 9 (0, 0))) := hZ (fun wx hb => (hb.block _ (by omega)).trans ((B3.block _ (by omega)).trans O1));have HR : Hid (∀ wx, Below W3.heap.size W3 wx -> wx.heap[w.heap.size + 1 + 1]? = some (.cells #[.int .i64 0, .string ⟨#[]⟩, .int .i64 0, .string ⟨#[]⟩, .string ⟨#[]⟩, .slice none 0 0, .slice none 0 0, .int .i64 0] 194 (0, 0))) := hZ (fun wx hb => (hb.block _ (by omega)).trans O2);have HD0 := hZ hD;have HD : Hid (∀ wx, Below W3.heap.size W3 wx -> RowIn deR wx Ad m.decs) := hZ (fun wx hb => hD.below (below_over HB0w.out (below_over HB3.out hb)));have HW : Hid (((w.alloc (.cells #[.string m.name, .slice Ai m.imps.length ci, .slice Ad n cd, .string pkg, .int .i64 major, .slice Ae env.length ce, .map (some kb)] 157)).alloc (.cells #[.string name] 9)).alloc (.cells #[.int .i64 0, .string ⟨#[]⟩, .int .i64 0, .string ⟨#[]⟩, .string ⟨#[]⟩, .slice none 0 0, .slice none 0 0, .int .i64 0] 194) = W3) := hZ (by rw [hn, hW3, hW2]);have hbl : w.heap.size <= w.heap.size + 1 + 1 := by omega
  obtain ⟨J, hJ⟩ : ∃ J, J = optN (m.decs.findIdx? (isDe name)) := ⟨_, rfl⟩;have HJ := hZ hJ;have IX := hZ (pDe_index Ad cd m.decs name (w.heap.size + 1) W3 (HD.out W3 (Below.refl _ _)) hz3 (HT.out W3 (Below.refl _ _)));rw [<- hJ, <- hn] at IX;have HNN := hZ hn;have x2 := cZ (HM.out W3 (Below.refl _ _)) 2;simp at x2;rw [<- hn] at x2 hz3 ⊢;clear hD hw hW2 hW3 B2 B3 O0 O1 O2 s2 hl2 hJ hn;go_enter Tryz.func186, Tryz.ntmps186
  go_upto_region 1 with fail
  rw [HW.out];clear HW;go_wp2_with fail
  refine IX.out.mono ?_; rintro e w2 ⟨rfl, hb2⟩
  have HB2 := hZ hb2;clear hb2 IX x2;cases hk : m.decs.findIdx? (isDe name) with
  | none =>
    obtain rfl : J = -1 := by rw [HJ.out, hk]; rfl
    have X5 := HR.out w2 HB2.out;have HX5 := hZ X5;have FIN : Hid (MeOut w0 w (ownM m pkg major name).1 (ownM m pkg major name).2 (.returned (.agg #[.int .i64 0, .string ⟨#[]⟩, .int .i64 0, .string ⟨#[]⟩, .string ⟨#[]⟩, .slice none 0 0, .slice none 0 0, .int .i64 4])) (w2.setRow (w.heap.size + 1 + 1) #[.int .i64 0, .string ⟨#[]⟩, .int .i64 0, .string ⟨#[]⟩, .string ⟨#[]⟩, .slice none 0 0, .slice none 0 0, .int .i64 4])) := hZ ⟨[.int .i64 0, .string ⟨#[]⟩, .int .i64 0, .string ⟨#[]⟩, .string ⟨#[]⟩, .slice none 0 0, .slice none 0 0], by rw [ownM_no hk]; rfl, by rw [ownM_no hk]; exact fun wz _ => zero_at _, setRow_below (below_over HB3.out HB2.out) hbl _⟩;clear hk;go_upto_region 3 with fail
    go_wp2_with (first | ((with_reducible refine wpList_putRow 194 (w.heap.size + 1 + 1) #[.int .i64 0, .string ⟨#[]⟩, .int .i64 0, .string ⟨#[]⟩, .string ⟨#[]⟩, .slice none 0 0, .slice none 0 0, .int .i64 4] _ _ X5 ?_ ?_ ?_ ?_ ?_ ?_); exact meSize; rfl; exact meOne; iterate 2 (focus (first | (go_simp; done) | rfl))))
    exact ret_agg1 (fn := Tryz.f186) (vs := [.int .i64 0, .string ⟨#[]⟩, .int .i64 0, .string ⟨#[]⟩, .string ⟨#[]⟩, .slice none 0 0, .slice none 0 0, .int .i64 4]) (b := w.heap.size + 1 + 1) rfl rfl Tryz.underlying194 (by kernel_rfl) (cell8 (setRow_heap w2 (w.heap.size + 1 + 1) _ _ _ _ HX5.out)) rfl FIN.out
  | some k =>
    obtain rfl : J = (k : Int) := by rw [HJ.out, hk]; rfl
    have hkl := idx_lt hk;obtain ⟨d, hd⟩ : ∃ d, m.decs[k]? = some d := ⟨_, List.getElem?_eq_getElem hkl⟩;obtain ⟨g, o, v0, v1, v2, v3, v4, v5, v6, rfl, hg, b0, b1, b2, b3, b4, b5, b6, b7, b8, us, zs⟩ := HD0.out.de hd;obtain ⟨Bn, cB, Bs, dB, ev, -⟩ := us.parts;simp only [List.cons.injEq, and_true] at ev;obtain ⟨rfl, rfl, rfl, rfl, rfl, rfl, rfl⟩ := ev;have EQ := hZ (ownM_at (pkg := pkg) (major := major) hk hd);have HUS := hZ us;have B02 := below_over HB0w.out (below_over HB3.out HB2.out);have q := fun o v (hv : w0.cell? ⟨g, o, none⟩ = some v) => (B02.cell (p := ⟨g, o, none⟩) hg).trans hv
    have a0 := q _ _ b0;have a1 := q _ _ b1;have a2 := q _ _ b2;have a3 := q _ _ b3;have a4 := q _ _ b4;have a5 := q _ _ b5;have a6 := q _ _ b6;have a7 := q _ _ b7;have a8 := q _ _ b8;have x2 := cZ (HM.out w2 HB2.out) 2;simp at x2;rw [<- HNN.out] at x2 hkl;obtain ⟨w4, hw4⟩ : ∃ w4, w4 = w2.alloc (.cells #[.int .i64 d.kind, .string d.name, .int .i64 d.typ.kind, .string d.typ.pkg, .int .i64 d.typ.major, .string d.typ.mod, .string d.typ.name, .slice Bn d.typ.names.length cB, .slice Bs d.typ.subs.length dB] 191) := ⟨_, rfl⟩;have B4 : Below w2.heap.size w2 w4 := by rw [hw4]; exact below_new (Below.refl _ _) _
    have O4 : w4.heap[w2.heap.size]? = some (.cells #[.int .i64 d.kind, .string d.name, .int .i64 d.typ.kind, .string d.typ.pkg, .int .i64 d.typ.major, .string d.typ.mod, .string d.typ.name, .slice Bn d.typ.names.length cB, .slice Bs d.typ.subs.length dB] 191 (0, 0)) := by rw [hw4]; exact heap_alloc_new w2 _
    have HB4 : Hid (Below W3.heap.size W3 w4) := hZ (below_over HB2.out B4);have HW4 := hZ hw4;have HO4 := hZ O4;have HL4 : Hid (w2.heap.size < w4.heap.size) := hZ (by rw [hw4]; simp);have hk0 : (0 : Int) <= k := by omega
    have hk1 : (k : Int) < n := by omega
    have hk2 : ¬ (k : Int) < 0 := by omega
    clear hk hd us zs hw4 B4 O4 hg B02 q b0 b1 b2 b3 b4 b5 b6 b7 b8;go_upto_region 4 with fail
    go_upto_region 5 with fail
    rw [<- HW4.out];clear HW4 a0 a1 a2 a3 a4 a5 a6 a7 a8 x2;have y0 := cZ HO4.out 0;simp at y0;by_cases h3 : d.kind = 3
    · have q3 : (d.kind == 3) = true := by rw [h3]; rfl
      have y2 := cZ HO4.out 2;have y3 := cZ HO4.out 3;have y4 := cZ HO4.out 4;have y5 := cZ HO4.out 5;have y6 := cZ HO4.out 6;have y7 := cZ HO4.out 7;have y8 := cZ HO4.out 8;simp at y2 y3 y4 y5 y6 y7 y8;have X5 := HR.out w4 HB4.out;have HX5 := hZ X5
      have FIN : Hid (MeOut w0 w (ownM m pkg major name).1 (ownM m pkg major name).2 (.returned (.agg #[.int .i64 d.typ.kind, .string d.typ.pkg, .int .i64 d.typ.major, .string d.typ.mod, .string d.typ.name, .slice Bn d.typ.names.length cB, .slice Bs d.typ.subs.length dB, .int .i64 0])) (w4.setRow (w.heap.size + 1 + 1) #[.int .i64 d.typ.kind, .string d.typ.pkg, .int .i64 d.typ.major, .string d.typ.mod, .string d.typ.name, .slice Bn d.typ.names.length cB, .slice Bs d.typ.subs.length dB, .int .i64 0])) := hZ (by
        have hb := setRow_below (below_over HB3.out HB4.out) hbl #[.int .i64 d.typ.kind, .string d.typ.pkg, .int .i64 d.typ.major, .string d.typ.mod, .string d.typ.name, .slice Bn d.typ.names.length cB, .slice Bs d.typ.subs.length dB, .int .i64 0];exact ⟨[.int .i64 d.typ.kind, .string d.typ.pkg, .int .i64 d.typ.major, .string d.typ.mod, .string d.typ.name, .slice Bn d.typ.names.length cB, .slice Bs d.typ.subs.length dB], by rw [EQ.out, if_pos h3]; rfl, by rw [EQ.out, if_pos h3]; exact fun wz hz => HUS.out.keep hz, hb⟩)
      clear h3;go_upto_region 6 with fail
      clear q3 y0;go_wp2_with (first | ((with_reducible refine wpList_putRow 194 (w.heap.size + 1 + 1) #[.int .i64 d.typ.kind, .string d.typ.pkg, .int .i64 d.typ.major, .string d.typ.mod, .string d.typ.name, .slice Bn d.typ.names.length cB, .slice Bs d.typ.subs.length dB, .int .i64 0] _ _ X5 ?_ ?_ ?_ ?_ ?_ ?_); exact meSize; rfl; exact meOne; iterate 2 (focus (first | (go_simp; done) | rfl))))
      exact ret_agg1 (fn := Tryz.f186) (vs := [.int .i64 d.typ.kind, .string d.typ.pkg, .int .i64 d.typ.major, .string d.typ.mod, .string d.typ.name, .slice Bn d.typ.names.length cB, .slice Bs d.typ.subs.length dB, .int .i64 0]) (b := w.heap.size + 1 + 1) rfl rfl Tryz.underlying194 (by kernel_rfl) (cell8 (setRow_heap w4 (w.heap.size + 1 + 1) _ _ _ _ HX5.out)) rfl FIN.out
    · have q3 : (d.kind == 3) = false := by simpa using h3
      have EQ2 : Hid (ownM m pkg major name = (openT m pkg major name, 0)) := hZ (by rw [EQ.out, if_neg h3]);have X0 := HM.out w4 HB4.out;obtain ⟨x0, x1, x2, x3, x4, x5, x6⟩ := cq7 X0;have T1 := cZ (HT.out w4 HB4.out) 0;simp at x0 x1 x2 x3 x4 x5 x6 T1;rw [<- HNN.out] at x2;have OC := hZ (openN_any m pkg major env kb name _ w4 (HN.out.below (below_over HB0w.out (below_over HB3.out HB4.out))));rw [<- HNN.out] at OC;clear h3 X0;go_upto_region 7 with fail
      clear q3 y0;go_wp2_with fail
      refine OC.out.mono ?_; rintro e w5 ⟨rfl, hb5⟩
      have HB5 : Hid (Below W3.heap.size W3 w5) := hZ (below_over HB4.out hb5);clear hb5 x0 x1 x2 x3 x4 x5 x6 T1 OC;have X5 := HR.out w5 HB5.out;have HX5 := hZ X5
      have FIN : Hid (MeOut w0 w (ownM m pkg major name).1 (ownM m pkg major name).2 (.returned (.agg #[.int .i64 9, .string pkg, .int .i64 major, .string m.name, .string name, .slice none 0 0, .slice none 0 0, .int .i64 0])) (w5.setRow (w.heap.size + 1 + 1) #[.int .i64 9, .string pkg, .int .i64 major, .string m.name, .string name, .slice none 0 0, .slice none 0 0, .int .i64 0])) := hZ (by
        have hb := setRow_below (below_over HB3.out HB5.out) hbl #[.int .i64 9, .string pkg, .int .i64 major, .string m.name, .string name, .slice none 0 0, .slice none 0 0, .int .i64 0];exact ⟨[.int .i64 9, .string pkg, .int .i64 major, .string m.name, .string name, .slice none 0 0, .slice none 0 0], by rw [EQ2.out]; rfl, by rw [EQ2.out]; exact fun wz _ => open_at _ hz4 hz1 hnm, hb⟩)
      go_wp2_with (first | ((with_reducible refine wpList_putRow 194 (w.heap.size + 1 + 1) #[.int .i64 9, .string pkg, .int .i64 major, .string m.name, .string name, .slice none 0 0, .slice none 0 0, .int .i64 0] _ _ X5 ?_ ?_ ?_ ?_ ?_ ?_); exact meSize; rfl; exact meOne; iterate 2 (focus (first | (go_simp; done) | rfl))))
      exact ret_agg1 (fn := Tryz.f186) (vs := [.int .i64 9, .string pkg, .int .i64 major, .string m.name, .string name, .slice none 0 0, .slice none 0 0, .int .i64 0]) (b := w.heap.size + 1 + 1) rfl rfl Tryz.underlying194 (by kernel_rfl) (cell8 (setRow_heap w5 (w.heap.size + 1 + 1) _ _ _ _ HX5.out)) rfl FIN.out
def lacksN (m : Mo) (env : List If) (L : List Ty) : Bool := L.any fun x => !(decide (x.mod.size = 0)) && !(thereT m env x).isSome
end Go.Proofs.YtddlmigofilejaaGreat
namespace Go.Proofs.YtddlmigofilejaaGreat
open Go.RowKit
open M
theorem index_local (As : Option Addr) (cs n : Nat) (ss : List Ty) (w : World) (hn : ss.length = n) (hz : n <= 9223372036854775807) (hS : SubsAt w As ss)
    (IH : ∀ s, s ∈ ss -> ∀ (v : Value) (w : World), TyV w v s -> Calls Tryz.prog 113 #[v] w fun e w' => e = .returned (.bool (!plainT s)) /\ Below w.heap.size w w') :
    Calls Tryz.prog 154 #[.slice As n cs, .func (.func 113) #[] #[]] w fun e w' => ∃ r : Int, e = .returned (.int .i64 r) /\ decide (0 <= r) = !plainL ss /\ Below w.heap.size w w' := by
  have HS := hZ hS;have HN := hZ hn;have HIH := hZ IH;clear hS hn IH;go_enter Tryz.func154, Tryz.ntmps154
  go_wp2_with fail
  go_loopw [8] (fun i wr => ∃ k : Nat, k <= n /\ i = .int .i64 k /\ Hid (∀ j s, j < k -> ss[j]? = some s -> plainT s = true) /\ Below w.heap.size w wr) (fun i _ => n - (intOf i).toNat)
  case atStart => exact ⟨0, by omega, rfl, hZ (fun j s h => by omega), Below.refl _ _⟩
  case round =>
    obtain ⟨k, hk, rfl, HP, hb⟩ := hrel;obtain ⟨wo, rfl⟩ : ∃ wo : World, wo = wr := ⟨_, rfl⟩;by_cases hlt : k < n
    · obtain ⟨s, hs⟩ : ∃ s, ss[k]? = some s := ⟨_, List.getElem?_eq_getElem (by rw [HN.out]; exact hlt)⟩
      obtain ⟨g, o, v0, v1, v2, v3, v4, v5, v6, rfl, -, h0, h1, h2, h3, h4, h5, h6, hs7⟩ := HS.out.below hb k s hs;have IHs := hZ (HIH.out s (List.mem_of_getElem? hs) (.agg #[v0, v1, v2, v3, v4, v5, v6]) wo ⟨_, rfl, hs7⟩);have HSS := hZ hs;clear hs7 hs;rcases hid_or (plainT s) with hp | hp
      · have R : Hid (decide (0 <= (k : Int)) = !plainL ss) := hZ (by
          rw [show plainL ss = false by
            rw [Bool.eq_false_iff, ne_eq, plainL_mem];intro h;have := h s (List.mem_of_getElem? HSS.out)
            rw [hp.out] at this; cases this]
          simp)
        go_wp2_with fail
        refine IHs.out.mono ?_; rintro e w2 ⟨rfl, hb2⟩; rw [hp.out]
        have hb3 := below_over hb hb2;clear h0 h1 h2 h3 h4 h5 h6 hb hb2;go_wp2_with fail
        go_ret;exact ⟨_, rfl, R.out, hb3⟩
      · go_wp2_with fail
        refine IHs.out.mono ?_; rintro e w2 ⟨rfl, hb2⟩; rw [hp.out]
        have hb3 := below_over hb hb2;clear h0 h1 h2 h3 h4 h5 h6 hb hb2;go_wp2_with fail
        go_roundw
        case rel => exact ⟨k + 1, by omega, by go_num, hZ (fun j q hj hq => by
          rcases Nat.lt_or_ge j k with a | a
          · exact HP.out j q a hq
          · rw [show j = k by omega, HSS.out] at hq
            obtain rfl := Option.some.inj hq;exact hp.out), hb3⟩
        case measure => simp [intOf]; omega
    · have R : Hid (decide (0 <= (-1 : Int)) = !plainL ss) := hZ (by
        rw [(plainL_mem ss).2 (fun s hs => ?_)]
        · rfl
        · obtain ⟨j, hj⟩ := List.getElem?_of_mem hs
          have hjl := (List.getElem?_eq_some_iff.1 hj).1;exact HP.out j s (by rw [HN.out] at hjl; omega) hj)
      go_wp2_with fail
      go_ret;exact ⟨_, rfl, R.out, hb⟩
theorem contains_local (As : Option Addr) (cs n : Nat) (ss : List Ty) (w : World) (hn : ss.length = n) (hz : n <= 9223372036854775807) (hS : SubsAt w As ss)
    (IH : ∀ s, s ∈ ss -> ∀ (v : Value) (w : World), TyV w v s -> Calls Tryz.prog 113 #[v] w fun e w' => e = .returned (.bool (!plainT s)) /\ Below w.heap.size w w') :
    Calls Tryz.prog 126 #[.slice As n cs, .func (.func 113) #[] #[]] w fun e w' => e = .returned (.bool (!plainL ss)) /\ Below w.heap.size w w' := by
  have HC := hZ (index_local As cs n ss w hn hz hS IH);clear hn hS IH;go_enter Tryz.func126, Tryz.ntmps126
  go_wp2_with fail
  refine HC.out.mono ?_; rintro e w2 ⟨r, rfl, hr, hb2⟩
  have HR := hZ hr;clear hr HC;go_wp2_with fail
  go_ret;exact ⟨ret_bool HR.out.symm, hb2⟩
theorem local_any (N : Nat) : ∀ (t : Ty), many t <= N -> ∀ (v : Value) (w : World), TyV w v t ->
    Calls Tryz.prog 113 #[v] w fun e w' => e = .returned (.bool (!plainT t)) /\ Below w.heap.size w w' := by
  induction N with
  | zero => intro t h; have := many_pos t; omega
  | succ N ih =>
    intro t hN v w hv;obtain ⟨l, rfl, hT⟩ := hv;obtain ⟨An, cn, As, cs, rfl, -, -, -, hzn, hz, -, hS⟩ := hT.parts;have HS := hZ hS;clear hT hS;have HE := hZ (plain_eq t)
    have IH : Hid (∀ s, s ∈ t.subs -> ∀ (v : Value) (w : World), TyV w v s -> Calls Tryz.prog 113 #[v] w fun e w' => e = .returned (.bool (!plainT s)) /\ Below w.heap.size w w') :=
      hZ (fun s hs v w hv => ih s (by have := manyL_mem t.subs s hs; have := manyL_eq t; omega) v w hv)
    clear ih hN;generalize hn : t.subs.length = n at hz
    have HN := hZ hn;clear hn;rcases hid_or (t.kind == 8) with h8 | h8
    · have h8' := h8.out
      have R : Hid ((!plainT t) = !plainL t.subs) := hZ (by rw [HE.out, h8']; rfl);rw [R.out];clear R;go_enter Tryz.func113, Tryz.ntmps113
      go_wp2_with fail
      refine (contains_local As cs n t.subs _ HN.out hz (HS.out.below (below_new (Below.refl _ _) _)) IH.out).mono ?_; rintro e w2 ⟨rfl, hb2⟩
      go_wp2_with fail
      go_ret;exact ⟨rfl, (below_new (Below.refl _ _) _).trans (hb2.mono (by simp))⟩
    · have h8' := h8.out
      have R : Hid ((!plainT t) = true) := hZ (by rw [HE.out, h8']; rfl);rw [R.out];clear R;go_enter Tryz.func113, Tryz.ntmps113
      go_wp2_with fail
      go_ret;exact ⟨rfl, below_new (Below.refl _ _) _⟩
end Go.Proofs.YtddlmigofilejaaGreat
namespace Go.Proofs.YtddlmigofilejaaGreat
open Go.RowKit
open Go.Sort
open M
theorem sameL_no {a b : List Ty} (h : a ≠ b) : sameL a b = false := by
 rw [Bool.eq_false_iff, ne_eq, sameL_iff]; exact h
theorem equal_names (A : Option Addr) (c n : Nat) (l : List ByteArray) (A' : Option Addr) (c' n' : Nat) (l' : List ByteArray) (w : World) (hn : l.length = n) (hn' : l'.length = n') (hz : n <= 9223372036854775807) (hz' : n' <= 9223372036854775807) (hN : NamesAt w A l) (hN' : NamesAt w A' l') :
  Calls Tryz.prog 137 #[.slice A n c, .slice A' n' c'] w fun e w' => e = .returned (.bool (decide (l = l'))) /\ Below w.heap.size w w' := by
 have HN := hZ hN
 have HN' := hZ hN'
 have HQ := hZ hn
 have HQ' := hZ hn'
 clear hN hN' hn hn'
 by_cases hqq : n = n'
 rotate_left
 ·have R : Hid (decide (l = l') = false) := hZ (by
   have h1 := HQ.out;have h2 := HQ'.out;simp;intro e; subst e; omega)
  have f1 : (((n : Nat) : Int) == ((n' : Nat) : Int)) = false := by simp; omega
  have f2 : (((n : Nat) : Int) != ((n' : Nat) : Int)) = true := by simp; omega
  rw [R.out];clear hqq;as_aux_lemma =>
  go_enter Tryz.func137, Tryz.ntmps137
  go_wp2_with fail
  go_ret;exact ⟨rfl, Below.refl _ _⟩
 subst hqq
 go_enter Tryz.func137, Tryz.ntmps137
 go_wp2_with fail
 go_loopw [13] (fun i wr => ∃ k : Nat, k <= n /\ i = .int .i64 k /\ Hid (∀ j x y, j < k -> l[j]? = some x -> l'[j]? = some y -> x = y) /\ Below w.heap.size w wr) (fun i _ => n - (intOf i).toNat)
 case atStart => exact ⟨0, by omega, rfl, hZ (fun j x y h => by omega), Below.refl _ _⟩
 case round =>
  obtain ⟨k, hk, rfl, HP, hb⟩ := hrel;obtain ⟨wo, rfl⟩ : ∃ wo : World, wo = wr := ⟨_, rfl⟩;by_cases hlt : k < n
  ·obtain ⟨x, hx⟩ : ∃ x, l[k]? = some x := ⟨_, List.getElem?_eq_getElem (by rw [HQ.out]; exact hlt)⟩
   obtain ⟨y, hy⟩ : ∃ y, l'[k]? = some y := ⟨_, List.getElem?_eq_getElem (by rw [HQ'.out]; exact hlt)⟩;obtain ⟨g, o, rfl, hg, hc, -⟩ := HN.out.below hb k x hx;obtain ⟨g', o', rfl, hg', hc', -⟩ := HN'.out.below hb k y hy;have HX := hZ hx;have HY := hZ hy;clear hx hy;by_cases hxy : x = y
   ·have f1 : (x.toList == y.toList) = true := by rw [hxy]; simp
    have f2 : (!(x.toList == y.toList)) = false := by rw [f1]; rfl
    have HXY := hZ hxy;clear hxy;go_wp2_with fail
    go_quiet (fail)
    go_wp2_with fail
    go_roundw
    case rel => exact ⟨k + 1, by omega, by go_num, hZ (fun j a b hj ha hb => by
     rcases Nat.lt_or_ge j k with e | e
     ·exact HP.out j a b e ha hb
     ·rw [show j = k by omega, HX.out] at ha
      rw [show j = k by omega, HY.out] at hb;obtain rfl := Option.some.inj ha;obtain rfl := Option.some.inj hb;exact HXY.out), below_drewN hb _⟩
    case measure => simp [intOf]; omega
   ·have f1 : (x.toList == y.toList) = false := by
     rw [beq_eq_false_iff_ne, ne_eq, Lib.toList_data, Lib.toList_data, bytes_list];exact hxy
    have f2 : (!(x.toList == y.toList)) = true := by rw [f1]; rfl
    have f3 : ¬ x.toList = y.toList := by simpa using f1
    have R : Hid (decide (l = l') = false) := hZ (by
     simp;intro e; subst e
     have a := HX.out;rw [HY.out] at a;exact hxy (Option.some.inj a).symm)
    clear hxy;go_wp2_with fail
    go_quiet (fail)
    go_wp2_with fail
    go_ret;exact ⟨ret_bool R.out, below_drewN hb _⟩
  ·have R : Hid (decide (l = l') = true) := hZ (by
    simp
    exact list_ext' (by rw [HQ.out, HQ'.out]) (fun i x y hx hy => HP.out i x y (by
     have := (List.getElem?_eq_some_iff.1 hx).1
     rw [HQ.out] at this; omega) hx hy))
   go_wp2_with fail
   go_ret;exact ⟨ret_bool R.out, hb⟩
theorem equal_alike (A : Option Addr) (c n : Nat) (l : List Ty) (A' : Option Addr) (c' n' : Nat) (l' : List Ty) (w : World) (hn : l.length = n) (hn' : l'.length = n') (hz : n <= 9223372036854775807) (hz' : n' <= 9223372036854775807) (hS : SubsAt w A l) (hS' : SubsAt w A' l')
  (IH : ∀ s, s ∈ l -> ∀ (q : Ty) (v v' : Value) (w : World), TyV w v s -> TyV w v' q -> Calls Tryz.prog 110 #[v, v'] w fun e w' => e = .returned (.bool (sameT s q)) /\ Below w.heap.size w w') :
  Calls Tryz.prog 138 #[.slice A n c, .slice A' n' c', .func (.func 110) #[] #[]] w fun e w' => e = .returned (.bool (sameL l l')) /\ Below w.heap.size w w' := by
 have HN := hZ hS
 have HN' := hZ hS'
 have HQ := hZ hn
 have HQ' := hZ hn'
 have HIH := hZ IH
 clear hS hS' hn hn' IH
 by_cases hqq : n = n'
 rotate_left
 ·have R : Hid (sameL l l' = false) := hZ (by
   have h1 := HQ.out;have h2 := HQ'.out;exact sameL_no (fun e => by subst e; omega))
  have f1 : (((n : Nat) : Int) == ((n' : Nat) : Int)) = false := by simp; omega
  have f2 : (((n : Nat) : Int) != ((n' : Nat) : Int)) = true := by simp; omega
  rw [R.out];clear hqq;as_aux_lemma =>
  go_enter Tryz.func138, Tryz.ntmps138
  go_wp2_with fail
  go_ret;exact ⟨rfl, Below.refl _ _⟩
 subst hqq
 go_enter Tryz.func138, Tryz.ntmps138
 go_wp2_with fail
 go_loopw [17] (fun i wr => ∃ k : Nat, k <= n /\ i = .int .i64 k /\ Hid (∀ j x y, j < k -> l[j]? = some x -> l'[j]? = some y -> x = y) /\ Hid (Below w.heap.size w wr)) (fun i _ => n - (intOf i).toNat)
 case atStart => exact ⟨0, by omega, rfl, hZ (fun j x y h => by omega), hZ (Below.refl _ _)⟩
 case round =>
  obtain ⟨k, hk, rfl, HP, HB⟩ := hrel;obtain ⟨wo, rfl⟩ : ∃ wo : World, wo = wr := ⟨_, rfl⟩;by_cases hlt : k < n
  ·obtain ⟨x, hx⟩ : ∃ x, l[k]? = some x := ⟨_, List.getElem?_eq_getElem (by rw [HQ.out]; exact hlt)⟩
   obtain ⟨y, hy⟩ : ∃ y, l'[k]? = some y := ⟨_, List.getElem?_eq_getElem (by rw [HQ'.out]; exact hlt)⟩;obtain ⟨g, o, v0, v1, v2, v3, v4, v5, v6, rfl, hg, h0, h1, h2, h3, h4, h5, h6, hs7⟩ := HN.out.below HB.out k x hx;obtain ⟨g', o', z0, z1, z2, z3, z4, z5, z6, rfl, hg', e0, e1, e2, e3, e4, e5, e6, ht7⟩ := HN'.out.below HB.out k y hy;obtain ⟨Am, cm, At, ct, rfl, rfl, rfl, rfl, rfl, rfl, rfl⟩ := hs7.seven;obtain ⟨Bm, dm, Bt, dt, rfl, rfl, rfl, rfl, rfl, rfl, rfl⟩ := ht7.seven;have IHs := hZ (fun w' (hw : Below wo.heap.size wo w') => HIH.out x (List.mem_of_getElem? hx) y _ _ w' (TyV.below ⟨_, rfl, hs7⟩ hw) (TyV.below ⟨_, rfl, ht7⟩ hw));have HX := hZ hx;have HY := hZ hy;clear hx hy hs7 ht7;rcases hid_or (sameT x y) with hxy | hxy
   ·have R : Hid (sameL l l' = false) := hZ (sameL_no (fun e => by
     subst e;have a := HX.out;rw [HY.out] at a;have b := hxy.out;rw [Option.some.inj a] at b;rw [(sameT_iff x x).2 rfl] at b;cases b))
    go_wp2_with fail
    refine (IHs.out _ (below_new (below_new (Below.refl _ _) _) _)).mono ?_; rintro e w5 ⟨rfl, hb5⟩; rw [hxy.out]
    have HB5 := hZ ((below_new (below_new HB.out _) _).trans (hb5.mono (by have := HB.out.size; simp; omega)));clear h0 h1 h2 h3 h4 h5 h6 e0 e1 e2 e3 e4 e5 e6 hb5 IHs;go_wp2_with fail
    go_ret;exact ⟨ret_bool R.out, HB5.out⟩
   ·go_wp2_with fail
    refine (IHs.out _ (below_new (below_new (Below.refl _ _) _) _)).mono ?_; rintro e w5 ⟨rfl, hb5⟩; rw [hxy.out]
    have HB5 := hZ ((below_new (below_new HB.out _) _).trans (hb5.mono (by have := HB.out.size; simp; omega)));clear h0 h1 h2 h3 h4 h5 h6 e0 e1 e2 e3 e4 e5 e6 hb5 IHs;go_wp2_with fail
    go_roundw
    case rel => exact ⟨k + 1, by omega, by go_num, hZ (fun j a b hj ha hb => by
     rcases Nat.lt_or_ge j k with e | e
     ·exact HP.out j a b e ha hb
     ·rw [show j = k by omega, HX.out] at ha
      rw [show j = k by omega, HY.out] at hb;obtain rfl := Option.some.inj ha;obtain rfl := Option.some.inj hb;exact (sameT_iff _ _).1 hxy.out), HB5⟩
    case measure => simp [intOf]; omega
  ·have R : Hid (sameL l l' = true) := hZ (by
    rw [sameL_iff]
    exact list_ext' (by rw [HQ.out, HQ'.out]) (fun i x y hx hy => HP.out i x y (by
     have := (List.getElem?_eq_some_iff.1 hx).1
     rw [HQ.out] at this; omega) hx hy))
   go_wp2_with fail
   go_ret;exact ⟨ret_bool R.out, HB.out⟩
theorem alike_any (N : Nat) : ∀ (a b : Ty), many a <= N -> ∀ (v v' : Value) (w : World), TyV w v a -> TyV w v' b ->
  Calls Tryz.prog 110 #[v, v'] w fun e w' => e = .returned (.bool (sameT a b)) /\ Below w.heap.size w w' := by
 induction N with
 | zero => intro a b h; have := many_pos a; omega
 | succ N ih =>
 intro a b hN v v' w hv hv'
 have HIH := hZ (fun s (hs : s ∈ a.subs) (q : Ty) (v v' : Value) (w : World) (hv : TyV w v s) (hv' : TyV w v' q) => ih s q (by have := manyL_mem a.subs s hs; have := manyL_eq a; omega) v v' w hv hv')
 clear ih hN
 obtain ⟨l, rfl, hT⟩ := hv
 obtain ⟨An, cn, As, cs, rfl, -, -, -, hzn, hz, hNA, hS⟩ := hT.parts
 obtain ⟨l', rfl, hT'⟩ := hv'
 obtain ⟨Bn, cn', Bs, cs', rfl, -, -, -, hzn', hz', hNB, hS'⟩ := hT'.parts
 clear hT hT'
 obtain ⟨k, p, m, d, n, ns, ss⟩ := a
 obtain ⟨k', p', m', d', n', ns', ss'⟩ := b
 simp only [Ty.kind, Ty.pkg, Ty.major, Ty.mod, Ty.name, Ty.names, Ty.subs] at *
 have HNA := hZ hNA
 have HNB := hZ hNB
 have HSA := hZ hS
 have HSB := hZ hS'
 clear hNA hNB hS hS'
 generalize hq : ns.length = q at hzn
 generalize hq' : ns'.length = q' at hzn'
 generalize hr : ss.length = r at hz
 generalize hr' : ss'.length = r' at hz'
 have HQ := hZ hq
 have HQ' := hZ hq'
 have HR := hZ hr
 have HR' := hZ hr'
 clear hq hq' hr hr'
 by_cases h1 : k = k'
 rotate_left
 ·have R : Hid (sameT (.mk k p m d n ns ss) (.mk k' p' m' d' n' ns' ss') = false) := hZ (sameT_no (fun e => by injection e with e1 e2 e3 e4 e5 e6 e7; exact h1 e1))
  rw [R.out];have f1 : (k == k') = false := by simpa using h1
  clear h1;as_aux_lemma =>
  go_enter Tryz.func110, Tryz.ntmps110
  go_wp2_with fail
  go_ret;exact ⟨rfl, below_new (below_new (Below.refl _ _) _) _⟩
 subst h1
 by_cases h2 : p = p'
 rotate_left
 ·have R : Hid (sameT (.mk k p m d n ns ss) (.mk k p' m' d' n' ns' ss') = false) := hZ (sameT_no (fun e => by injection e with e1 e2 e3 e4 e5 e6 e7; exact h2 e2))
  rw [R.out]
  have f1 : (p.toList == p'.toList) = false := by
   rw [beq_eq_false_iff_ne, ne_eq, Lib.toList_data, Lib.toList_data, bytes_list];exact h2
  have f3 : ¬ p.toList = p'.toList := by simpa using f1
  clear h2;as_aux_lemma =>
  go_enter Tryz.func110, Tryz.ntmps110
  go_wp2_with fail
  go_ret;exact ⟨rfl, below_new (below_new (Below.refl _ _) _) _⟩
 subst h2
 by_cases h3 : m = m'
 rotate_left
 ·have R : Hid (sameT (.mk k p m d n ns ss) (.mk k p m' d' n' ns' ss') = false) := hZ (sameT_no (fun e => by injection e with e1 e2 e3 e4 e5 e6 e7; exact h3 e3))
  rw [R.out];have f1 : (m == m') = false := by simpa using h3
  clear h3;as_aux_lemma =>
  go_enter Tryz.func110, Tryz.ntmps110
  go_wp2_with fail
  go_ret;exact ⟨rfl, below_new (below_new (Below.refl _ _) _) _⟩
 subst h3
 by_cases h4 : d = d'
 rotate_left
 ·have R : Hid (sameT (.mk k p m d n ns ss) (.mk k p m d' n' ns' ss') = false) := hZ (sameT_no (fun e => by injection e with e1 e2 e3 e4 e5 e6 e7; exact h4 e4))
  rw [R.out]
  have f1 : (d.toList == d'.toList) = false := by
   rw [beq_eq_false_iff_ne, ne_eq, Lib.toList_data, Lib.toList_data, bytes_list];exact h4
  have f3 : ¬ d.toList = d'.toList := by simpa using f1
  clear h4;as_aux_lemma =>
  go_enter Tryz.func110, Tryz.ntmps110
  go_wp2_with fail
  go_ret;exact ⟨rfl, below_new (below_new (Below.refl _ _) _) _⟩
 subst h4
 by_cases h5 : n = n'
 rotate_left
 ·have R : Hid (sameT (.mk k p m d n ns ss) (.mk k p m d n' ns' ss') = false) := hZ (sameT_no (fun e => by injection e with e1 e2 e3 e4 e5 e6 e7; exact h5 e5))
  rw [R.out]
  have f1 : (n.toList == n'.toList) = false := by
   rw [beq_eq_false_iff_ne, ne_eq, Lib.toList_data, Lib.toList_data, bytes_list];exact h5
  have f3 : ¬ n.toList = n'.toList := by simpa using f1
  clear h5;as_aux_lemma =>
  go_enter Tryz.func110, Tryz.ntmps110
  go_wp2_with fail
  go_ret;exact ⟨rfl, below_new (below_new (Below.refl _ _) _) _⟩
 subst h5
 have HBX := hZ (below_new (below_new (Below.refl _ w) (.cells #[.int .i64 k, .string p, .int .i64 m, .string d, .string n, .slice An q cn, .slice As r cs] 50)) (.cells #[.int .i64 k, .string p, .int .i64 m, .string d, .string n, .slice Bn q' cn', .slice Bs r' cs'] 50))
 rcases hid_or (decide (ns = ns')) with hnn | hnn
 ·have R : Hid (sameT (.mk k p m d n ns ss) (.mk k p m d n ns' ss') = false) := hZ (sameT_no (fun e => by injection e with e1 e2 e3 e4 e5 e6 e7; have := hnn.out; simp at this; exact this e6))
  rw [R.out];as_aux_lemma =>
  go_enter Tryz.func110, Tryz.ntmps110
  go_wp2_with fail
  refine (equal_names An cn q ns Bn cn' q' ns' _ HQ.out HQ'.out hzn hzn' (HNA.out.below HBX.out) (HNB.out.below HBX.out)).mono ?_; rintro e w5 ⟨rfl, hb5⟩; rw [hnn.out]
  go_wp2_with fail
  go_ret;exact ⟨rfl, HBX.out.trans (hb5.mono HBX.out.size)⟩
 ·have R : Hid (sameT (.mk k p m d n ns ss) (.mk k p m d n ns' ss') = sameL ss ss') := hZ (by
   have h := hnn.out;simp at h;subst h;unfold sameT; simp)
  rw [R.out];as_aux_lemma =>
  go_enter Tryz.func110, Tryz.ntmps110
  go_wp2_with fail
  refine (equal_names An cn q ns Bn cn' q' ns' _ HQ.out HQ'.out hzn hzn' (HNA.out.below HBX.out) (HNB.out.below HBX.out)).mono ?_; rintro e w5 ⟨rfl, hb5⟩; rw [hnn.out]
  have HB5 := hZ (HBX.out.trans (hb5.mono HBX.out.size));obtain ⟨hc5, hf5⟩ := bcell hb5;have hz5 : w.heap.size + 1 + 1 <= w5.heap.size := by have := hb5.size; simpa using this
  have b6 : w5.cell? ⟨w.heap.size, 6, none⟩ = some (.slice As r cs) := by rw [hc5 _ _ (by simp; omega)]; go_simp
  have d6 : w5.cell? ⟨w.heap.size + 1, 6, none⟩ = some (.slice Bs r' cs') := by rw [hc5 _ _ (by simp)]; go_simp
  clear hb5 hc5 hf5;go_wp2_with fail
  refine (equal_alike As cs r ss Bs cs' r' ss' _ HR.out HR'.out hz hz' (HSA.out.below HB5.out) (HSB.out.below HB5.out) HIH.out).mono ?_; rintro e w6 ⟨rfl, hb6⟩
  go_wp2_with fail
  go_ret;exact ⟨rfl, HB5.out.trans (hb6.mono HB5.out.size)⟩
theorem sameK_any (a b : Ty) (v v' : Value) (w : World) (hv : TyV w v a) (hv' : TyV w v' b) :
  Calls Tryz.prog 72 #[v, v'] w fun e w' => e = .returned (.bool (mayT a && mayT b && sameT a b)) /\ Below w.heap.size w w' := by
 have HV := hZ hv
 have HV' := hZ hv'
 obtain ⟨l, rfl, hT⟩ := hv
 obtain ⟨An, cn, As, cs, rfl, -, -, -, hzn, hz, -, -⟩ := hT.parts
 obtain ⟨l', rfl, hT'⟩ := hv'
 obtain ⟨Bn, cn', Bs, cs', rfl, -, -, -, hzn', hz', -, -⟩ := hT'.parts
 clear hT hT'
 have HBX := hZ (below_new (below_new (Below.refl _ w) (.cells #[.int .i64 a.kind, .string a.pkg, .int .i64 a.major, .string a.mod, .string a.name, .slice An a.names.length cn, .slice As a.subs.length cs] 50)) (.cells #[.int .i64 b.kind, .string b.pkg, .int .i64 b.major, .string b.mod, .string b.name, .slice Bn b.names.length cn', .slice Bs b.subs.length cs'] 50))
 have FIRST : ∀ w5, Below ((w.alloc (.cells #[.int .i64 a.kind, .string a.pkg, .int .i64 a.major, .string a.mod, .string a.name, .slice An a.names.length cn, .slice As a.subs.length cs] 50)).alloc (.cells #[.int .i64 b.kind, .string b.pkg, .int .i64 b.major, .string b.mod, .string b.name, .slice Bn b.names.length cn', .slice Bs b.subs.length cs'] 50)).heap.size ((w.alloc (.cells #[.int .i64 a.kind, .string a.pkg, .int .i64 a.major, .string a.mod, .string a.name, .slice An a.names.length cn, .slice As a.subs.length cs] 50)).alloc (.cells #[.int .i64 b.kind, .string b.pkg, .int .i64 b.major, .string b.mod, .string b.name, .slice Bn b.names.length cn', .slice Bs b.subs.length cs'] 50)) w5 ->
   (∀ i v, (#[.int .i64 a.kind, .string a.pkg, .int .i64 a.major, .string a.mod, .string a.name, .slice An a.names.length cn, .slice As a.subs.length cs] : Array Value)[i]? = some v -> w5.cell? ⟨w.heap.size, i, none⟩ = some v) /\
   (∀ i v, (#[.int .i64 b.kind, .string b.pkg, .int .i64 b.major, .string b.mod, .string b.name, .slice Bn b.names.length cn', .slice Bs b.subs.length cs'] : Array Value)[i]? = some v -> w5.cell? ⟨w.heap.size + 1, i, none⟩ = some v) := fun w5 hb => by
  constructor
  ·intro i v hv
   rw [(bcell hb).1 _ _ (by simp; omega), cZ (cs := #[.int .i64 a.kind, .string a.pkg, .int .i64 a.major, .string a.mod, .string a.name, .slice An a.names.length cn, .slice As a.subs.length cs]) (T := 50) (fr := (0, 0))]
   ·exact hv
   ·rw [Lib.alloc_old _ _ _ (by simp)]; exact heap_alloc_new _ _
  ·intro i v hv
   rw [(bcell hb).1 _ _ (by simp), cZ (cs := #[.int .i64 b.kind, .string b.pkg, .int .i64 b.major, .string b.mod, .string b.name, .slice Bn b.names.length cn', .slice Bs b.subs.length cs']) (T := 50) (fr := (0, 0))]
   ·exact hv
   ·have e : w.heap.size + 1 = (w.alloc (.cells #[.int .i64 a.kind, .string a.pkg, .int .i64 a.major, .string a.mod, .string a.name, .slice An a.names.length cn, .slice As a.subs.length cs] 50)).heap.size := by simp
    rw [e]; exact heap_alloc_new _ _
 have HFI := hZ FIRST
 clear FIRST
 go_enter Tryz.func72, Tryz.ntmps72
 rcases hid_or (mayT a) with ha | ha
 ·have R : Hid ((mayT a && mayT b && sameT a b) = false) := hZ (by rw [ha.out]; rfl)
  go_wp2_with fail
  refine (mayK_any a _ _ (HV.out.below HBX.out)).mono ?_; rintro e w5 ⟨rfl, hb5⟩; rw [ha.out]
  have HB5 := hZ (HBX.out.trans (hb5.mono HBX.out.size));clear hb5;go_wp2_with fail
  go_ret;exact ⟨ret_bool R.out, HB5.out⟩
 go_wp2_with fail
 refine (mayK_any a _ _ (HV.out.below HBX.out)).mono ?_; rintro e w5 ⟨rfl, hb5⟩; rw [ha.out]
 obtain ⟨FA, FB⟩ := HFI.out w5 hb5
 have HB5 := hZ (HBX.out.trans (hb5.mono HBX.out.size))
 have hz5 : w.heap.size + 1 + 1 <= w5.heap.size := by have := hb5.size; simpa using this
 have a0 := FA 0 _ rfl
 have a1 := FA 1 _ rfl
 have a2 := FA 2 _ rfl
 have a3 := FA 3 _ rfl
 have a4 := FA 4 _ rfl
 have a5 := FA 5 _ rfl
 have a6 := FA 6 _ rfl
 have b0 := FB 0 _ rfl
 have b1 := FB 1 _ rfl
 have b2 := FB 2 _ rfl
 have b3 := FB 3 _ rfl
 have b4 := FB 4 _ rfl
 have b5 := FB 5 _ rfl
 have b6 := FB 6 _ rfl
 have HFA := hZ FA
 have HFB := hZ FB
 clear hb5 FA FB
 rcases hid_or (mayT b) with hb | hb
 ·have R : Hid ((mayT a && mayT b && sameT a b) = false) := hZ (by rw [ha.out, hb.out]; rfl)
  go_wp2_with fail
  refine (mayK_any b _ _ (HV'.out.below HB5.out)).mono ?_; rintro e w6 ⟨rfl, hb6⟩; rw [hb.out]
  have HB6 := hZ (HB5.out.trans (hb6.mono HB5.out.size));clear hb6;go_wp2_with fail
  go_ret;exact ⟨ret_bool R.out, HB6.out⟩
 have R : Hid ((mayT a && mayT b && sameT a b) = sameT a b) := hZ (by rw [ha.out, hb.out]; rfl)
 go_wp2_with fail
 refine (mayK_any b _ _ (HV'.out.below HB5.out)).mono ?_; rintro e w6 ⟨rfl, hb6⟩; rw [hb.out]
 have HB6 := hZ (HB5.out.trans (hb6.mono HB5.out.size))
 have tr : ∀ j i v, j < w5.heap.size -> w5.cell? ⟨j, i, none⟩ = some v -> w6.cell? ⟨j, i, none⟩ = some v := fun j i v hj hv => (hb6.cell (p := ⟨j, i, none⟩) hj).trans hv
 have a0' := tr _ _ _ (by omega) a0
 have a1' := tr _ _ _ (by omega) a1
 have a2' := tr _ _ _ (by omega) a2
 have a3' := tr _ _ _ (by omega) a3
 have a4' := tr _ _ _ (by omega) a4
 have a5' := tr _ _ _ (by omega) a5
 have a6' := tr _ _ _ (by omega) a6
 have b0' := tr _ _ _ (by omega) b0
 have b1' := tr _ _ _ (by omega) b1
 have b2' := tr _ _ _ (by omega) b2
 have b3' := tr _ _ _ (by omega) b3
 have b4' := tr _ _ _ (by omega) b4
 have b5' := tr _ _ _ (by omega) b5
 have b6' := tr _ _ _ (by omega) b6
 clear a0 a1 a2 a3 a4 a5 a6 b0 b1 b2 b3 b4 b5 b6 tr hb6
 go_wp2_with fail
 refine (alike_any _ a b (Nat.le_refl _) _ _ _ (HV.out.below HB6.out) (HV'.out.below HB6.out)).mono ?_; rintro e w7 ⟨rfl, hb7⟩
 go_wp2_with fail
 go_ret
 exact ⟨ret_bool R.out, HB6.out.trans (hb7.mono HB6.out.size)⟩
theorem plainK_any (t : Ty) (v : Value) (w : World) (hv : TyV w v t) :
  Calls Tryz.prog 76 #[v] w fun e w' => e = .returned (.bool (mayT t && plainT t)) /\ Below w.heap.size w w' := by
 have HV := hZ hv
 obtain ⟨l, rfl, hT⟩ := hv
 obtain ⟨An, cn, As, cs, rfl, -, -, -, hzn, hz, -, -⟩ := hT.parts
 clear hT
 have HB0 := hZ (below_new (Below.refl _ w) (.cells #[.int .i64 t.kind, .string t.pkg, .int .i64 t.major, .string t.mod, .string t.name, .slice An t.names.length cn, .slice As t.subs.length cs] 50))
 rcases hid_or (mayT t) with ha | ha
 ·have R : Hid ((mayT t && plainT t) = false) := hZ (by rw [ha.out]; rfl)
  rw [R.out];go_enter Tryz.func76, Tryz.ntmps76
  go_wp2_with fail
  refine (mayK_any t _ _ (HV.out.below HB0.out)).mono ?_; rintro e w5 ⟨rfl, hb5⟩; rw [ha.out]
  go_wp2_with fail
  go_ret;exact ⟨rfl, HB0.out.trans (hb5.mono HB0.out.size)⟩
 ·have R : Hid ((mayT t && plainT t) = plainT t) := hZ (by rw [ha.out]; rfl)
  rw [R.out];go_enter Tryz.func76, Tryz.ntmps76
  go_wp2_with fail
  refine (mayK_any t _ _ (HV.out.below HB0.out)).mono ?_; rintro e w5 ⟨rfl, hb5⟩; rw [ha.out]
  have hb5' : Below (boxed w #[.int .i64 t.kind, .string t.pkg, .int .i64 t.major, .string t.mod, .string t.name, .slice An t.names.length cn, .slice As t.subs.length cs]).heap.size (boxed w #[.int .i64 t.kind, .string t.pkg, .int .i64 t.major, .string t.mod, .string t.name, .slice An t.names.length cn, .slice As t.subs.length cs]) w5 := hb5
  have HB5 := hZ (box_below hb5');have c0 := box_cell hb5' 0; have c1 := box_cell hb5' 1; have c2 := box_cell hb5' 2; have c3 := box_cell hb5' 3; have c4 := box_cell hb5' 4; have c5 := box_cell hb5' 5; have c6 := box_cell hb5' 6
  simp at c0 c1 c2 c3 c4 c5 c6;clear hb5 hb5';go_wp2_with fail
  refine (local_any _ t (Nat.le_refl _) _ _ (HV.out.below HB5.out)).mono ?_; rintro e w6 ⟨rfl, hb6⟩
  go_wp2_with fail
  go_ret;exact ⟨ret_bool (by simp), HB5.out.trans (hb6.mono HB5.out.size)⟩
end Go.Proofs.YtddlmigofilejaaGreat
