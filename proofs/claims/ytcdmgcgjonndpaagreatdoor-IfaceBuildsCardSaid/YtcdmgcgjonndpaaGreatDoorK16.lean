/-
  Several texts in one.
-/
import Derived.Test.YtcdmgcgjonndpaaGreatDoorK15
open List (getElem_toArray getElem_cons_succ getElem_cons_zero set_cons_zero set_cons_succ setIfInBounds_toArray)
set_option maxRecDepth 100000
set_option maxHeartbeats 16000000
namespace Go.Proofs.YtcdmgcgjonndpaaGreatDoor
open Go Go.RowKit Go.Shelf
open Go.Sort Go.Maps
open M
def NsAt (w : World) (l : List Value) (m : Mo) (pkg : ByteArray) (major : Int) (env : List If) (kb : Nat) : Prop :=
  ∃ (Ai : Option Addr) (ci : Nat) (Ad : Option Addr) (cd : Nat) (Ae : Option Addr) (ce : Nat), l = [.string m.name, .slice Ai m.imps.length ci, .slice Ad m.decs.length cd, .string pkg, .int .i64 major, .slice Ae env.length ce, .map (some kb)] /\
    m.name.size <= 9223372036854775807 /\ m.imps.length <= 9223372036854775807 /\ m.decs.length <= 9223372036854775807 /\ pkg.size <= 9223372036854775807 /\ env.length <= 9223372036854775807 /\ RowIn imR w Ai m.imps /\ RowIn deR w Ad m.decs /\ RowIn ifR w Ae env
theorem NsAt.below {w w' : World} {l : List Value} {m : Mo} {pkg : ByteArray} {major : Int} {env : List If} {kb : Nat} (h : NsAt w l m pkg major env kb) (hb : Below w.heap.size w w') : NsAt w' l m pkg major env kb := by
  obtain ⟨Ai, ci, Ad, cd, Ae, ce, e, h1, h2, h3, h4, h5, h6, h7, h8⟩ := h;exact ⟨Ai, ci, Ad, cd, Ae, ce, e, h1, h2, h3, h4, h5, h6.below hb, h7.below hb, h8.below hb⟩
theorem open_at {m : Mo} {pkg : ByteArray} {major : Int} {name : ByteArray} (w : World) (h1 : pkg.size <= 9223372036854775807) (h2 : m.name.size <= 9223372036854775807) (h3 : name.size <= 9223372036854775807) : TyAt w [.int .i64 9, .string pkg, .int .i64 major, .string m.name, .string name, .slice none 0 0, .slice none 0 0] (openT m pkg major name) :=
  .mk 9 pkg major m.name name [] [] none 0 none 0 (fun _ => [.int .i64 0, .string ⟨#[]⟩, .int .i64 0, .string ⟨#[]⟩, .string ⟨#[]⟩, .slice none 0 0, .slice none 0 0]) h1 h2 h3 (by decide) (by decide) (by decide) (fun i s h => by simp at h) (fun _ => rfl) (fun i t h => by simp at h) (fun i t h => by simp at h)
theorem meSize : (Tryz.prog.info? 140).map (·.size) = some 8 := by kernel_rfl
theorem meOne {k m e : Int} {p d n : ByteArray} {A5 A6 : Option Addr} {n5 c5 n6 c6 : Nat} : (#[.int .i64 k, .string p, .int .i64 m, .string d, .string n, .slice A5 n5 c5, .slice A6 n6 c6, .int .i64 e] : Array Value).all (·.oneCell') = true := Array.all_eq_true_iff_forall_mem.2 (fun v hv => by simp at hv; rcases hv with rfl | rfl | rfl | rfl | rfl | rfl | rfl | rfl <;> rfl)
def MeOut (w0 w : World) (s : Ty) (c : Int) (e : Ending) (w' : World) : Prop :=
  ∃ l7 : List Value, e = .returned (.agg (l7 ++ [Value.int .i64 c]).toArray) /\ (∀ wz, Below w0.heap.size w0 wz -> TyAt wz l7 s) /\ Below w.heap.size w w'
def ownM (m : Mo) (pkg : ByteArray) (major : Int) (name : ByteArray) : Ty × Int :=
  match m.decs.findIdx? (isDe name) with
  | none => (zTy, 4)
  | some k => match m.decs[k]? with
    | none => (zTy, 4)
    | some d => if d.kind = 3 then (d.typ, 0) else (openT m pkg major name, 0)
theorem ownM_no {m : Mo} {pkg : ByteArray} {major : Int} {name : ByteArray} (h : m.decs.findIdx? (isDe name) = none) : ownM m pkg major name = (zTy, 4) := by unfold ownM; rw [h]
theorem ownM_at {m : Mo} {pkg : ByteArray} {major : Int} {name : ByteArray} {k : Nat} {d : De} (h : m.decs.findIdx? (isDe name) = some k) (hd : m.decs[k]? = some d) : ownM m pkg major name = if d.kind = 3 then (d.typ, 0) else (openT m pkg major name, 0) := by unfold ownM; rw [h]; simp only []; rw [hd]
theorem idx_lt {α : Type} {p : α -> Bool} {l : List α} {k : Nat} (h : l.findIdx? p = some k) : k < l.length := by
  rw [List.findIdx?_eq_some_iff_getElem] at h;exact h.1
theorem openN_any (m : Mo) (pkg : ByteArray) (major : Int) (env : List If) (kb : Nat) (name : ByteArray) (l : List Value) (w : World) (h : NsAt w l m pkg major env kb) :
    Calls Tryz.prog 80 #[.agg l.toArray, .string name] w fun e w' => e = .returned (.agg #[.int .i64 9, .string pkg, .int .i64 major, .string m.name, .string name, .slice none 0 0, .slice none 0 0]) /\ Below w.heap.size w w' := by
  obtain ⟨Ai, ci, Ad, cd, Ae, ce, rfl, -, -, -, -, -, -, -, -⟩ := h;obtain ⟨W2, hW2, B2, O0, O1, hl2⟩ := two_boxes w #[.string m.name, .slice Ai m.imps.length ci, .slice Ad m.decs.length cd, .string pkg, .int .i64 major, .slice Ae env.length ce, .map (some kb)] #[.int .i64 0, .string ⟨#[]⟩, .int .i64 0, .string ⟨#[]⟩, .string ⟨#[]⟩, .slice none 0 0, .slice none 0 0] 97 45;have HB2 := hZ B2;have HO1 := hZ O1;have HW := hZ hW2;have x0 := cZ O0 0;have x3 := cZ O0 3;have x4 := cZ O0 4;simp at x0 x3 x4;have X5 := HO1.out;have FIN := hZ (setRow_below HB2.out (b := w.heap.size + 1) (by omega) #[.int .i64 9, .string pkg, .int .i64 major, .string m.name, .string name, .slice none 0 0, .slice none 0 0]);clear hW2 B2 O0 O1;go_enter Tryz.func80, Tryz.ntmps80
  go_upto_region 1 with fail
  rw [<- HW.out];clear HW;go_wp2_with (first | (((with_reducible refine wpList_putRow 45 (w.heap.size + 1) #[.int .i64 9, .string pkg, .int .i64 major, .string m.name, .string name, .slice none 0 0, .slice none 0 0] _ _ X5 ?_ ?_ ?_ ?_ ?_ ?_); exact tySize; rfl; exact tyOne; (focus (first | (go_simp; done) | rfl)); (focus (first | (go_simp; done) | rfl)))))
  exact ret_agg1 (fn := Tryz.f80) (vs := [.int .i64 9, .string pkg, .int .i64 major, .string m.name, .string name, .slice none 0 0, .slice none 0 0]) (b := w.heap.size + 1) rfl rfl Tryz.underlying45 (by kernel_rfl) (cell7 (setRow_heap W2 (w.heap.size + 1) _ _ _ _ HO1.out)) rfl ⟨rfl, FIN.out⟩
theorem ownN_any (m : Mo) (pkg : ByteArray) (major : Int) (env : List If) (kb : Nat) (name : ByteArray) (hnm : name.size <= 9223372036854775807) (l : List Value) (w0 w : World) (h : NsAt w0 l m pkg major env kb) (hw : Below w0.heap.size w0 w) :
    Calls Tryz.prog 152 #[.agg l.toArray, .string name] w (MeOut w0 w (ownM m pkg major name).1 (ownM m pkg major name).2) := by
  have HN := hZ h;have HB0w := hZ hw;obtain ⟨Ai, ci, Ad, cd, Ae, ce, rfl, hz1, -, hz3, hz4, -, -, hD, -⟩ := h;obtain ⟨n, hn⟩ : ∃ n, n = m.decs.length := ⟨_, rfl⟩;obtain ⟨W2, hW2, B2, O0, O1, hl2⟩ := two_boxes w #[.string m.name, .slice Ai m.imps.length ci, .slice Ad m.decs.length cd, .string pkg, .int .i64 major, .slice Ae env.length ce, .map (some kb)] #[.string name] 97 9;have s2 : W2.heap.size = w.heap.size + 1 + 1 := by rw [hW2]; simp
  obtain ⟨W3, hW3⟩ : ∃ W3, W3 = W2.alloc (.cells #[.int .i64 0, .string ⟨#[]⟩, .int .i64 0, .string ⟨#[]⟩, .string ⟨#[]⟩, .slice none 0 0, .slice none 0 0, .int .i64 0] 140) := ⟨_, rfl⟩;have B3 : Below W2.heap.size W2 W3 := by rw [hW3]; exact below_new (Below.refl _ _) _
  have s3 : W3.heap.size = w.heap.size + 1 + 1 + 1 := by rw [hW3]; simp [s2]
  have O2 : W3.heap[w.heap.size + 1 + 1]? = some (.cells #[.int .i64 0, .string ⟨#[]⟩, .int .i64 0, .string ⟨#[]⟩, .string ⟨#[]⟩, .slice none 0 0, .slice none 0 0, .int .i64 0] 140 (0, 0)) := by rw [hW3, <- s2]; exact heap_alloc_new W2 _
  have HB3 : Hid (Below w.heap.size w W3) := hZ (below_over B2 B3);have HM : Hid (∀ wx, Below W3.heap.size W3 wx -> wx.heap[w.heap.size]? = some (.cells #[.string m.name, .slice Ai m.imps.length ci, .slice Ad m.decs.length cd, .string pkg, .int .i64 major, .slice Ae env.length ce, .map (some kb)] 97 (0, 0))) := hZ (fun wx hb => (hb.block _ (by omega)).trans ((B3.block _ (by omega)).trans O0));have HT : Hid (∀ wx, Below W3.heap.size W3 wx -> wx.heap[w.heap.size + 1]? = some (.cells #[.string name] 9 (0, 0))) := hZ (fun wx hb => (hb.block _ (by omega)).trans ((B3.block _ (by omega)).trans O1));have HR : Hid (∀ wx, Below W3.heap.size W3 wx -> wx.heap[w.heap.size + 1 + 1]? = some (.cells #[.int .i64 0, .string ⟨#[]⟩, .int .i64 0, .string ⟨#[]⟩, .string ⟨#[]⟩, .slice none 0 0, .slice none 0 0, .int .i64 0] 140 (0, 0))) := hZ (fun wx hb => (hb.block _ (by omega)).trans O2);have HD0 := hZ hD;have HD : Hid (∀ wx, Below W3.heap.size W3 wx -> RowIn deR wx Ad m.decs) := hZ (fun wx hb => hD.below (below_over HB0w.out (below_over HB3.out hb)));have HW : Hid (((w.alloc (.cells #[.string m.name, .slice Ai m.imps.length ci, .slice Ad n cd, .string pkg, .int .i64 major, .slice Ae env.length ce, .map (some kb)] 97)).alloc (.cells #[.string name] 9)).alloc (.cells #[.int .i64 0, .string ⟨#[]⟩, .int .i64 0, .string ⟨#[]⟩, .string ⟨#[]⟩, .slice none 0 0, .slice none 0 0, .int .i64 0] 140) = W3) := hZ (by rw [hn, hW3, hW2]);have hbl : w.heap.size <= w.heap.size + 1 + 1 := by omega
  obtain ⟨J, hJ⟩ : ∃ J, J = optN (m.decs.findIdx? (isDe name)) := ⟨_, rfl⟩;have HJ := hZ hJ;have IX := hZ (pDe_index Ad cd m.decs name (w.heap.size + 1) W3 (HD.out W3 (Below.refl _ _)) hz3 (HT.out W3 (Below.refl _ _)));rw [<- hJ, <- hn] at IX;have HNN := hZ hn;have x2 := cZ (HM.out W3 (Below.refl _ _)) 2;simp at x2;rw [<- hn] at x2 hz3 ⊢;clear hD hw hW2 hW3 B2 B3 O0 O1 O2 s2 hl2 hJ hn;go_enter Tryz.func152, Tryz.ntmps152
  go_upto_region 1 with fail
  rw [HW.out];clear HW;go_wp2_with fail
  refine IX.out.mono ?_; rintro e w2 ⟨rfl, hb2⟩
  have HB2 := hZ hb2;clear hb2 IX x2;cases hk : m.decs.findIdx? (isDe name) with
  | none =>
    obtain rfl : J = -1 := by rw [HJ.out, hk]; rfl
    have X5 := HR.out w2 HB2.out;have HX5 := hZ X5;have FIN : Hid (MeOut w0 w (ownM m pkg major name).1 (ownM m pkg major name).2 (.returned (.agg #[.int .i64 0, .string ⟨#[]⟩, .int .i64 0, .string ⟨#[]⟩, .string ⟨#[]⟩, .slice none 0 0, .slice none 0 0, .int .i64 4])) (w2.setRow (w.heap.size + 1 + 1) #[.int .i64 0, .string ⟨#[]⟩, .int .i64 0, .string ⟨#[]⟩, .string ⟨#[]⟩, .slice none 0 0, .slice none 0 0, .int .i64 4])) := hZ ⟨[.int .i64 0, .string ⟨#[]⟩, .int .i64 0, .string ⟨#[]⟩, .string ⟨#[]⟩, .slice none 0 0, .slice none 0 0], by rw [ownM_no hk]; rfl, by rw [ownM_no hk]; exact fun wz _ => zero_at _, setRow_below (below_over HB3.out HB2.out) hbl _⟩;clear hk;go_upto_region 3 with fail
    go_wp2_with (first | ((with_reducible refine wpList_putRow 140 (w.heap.size + 1 + 1) #[.int .i64 0, .string ⟨#[]⟩, .int .i64 0, .string ⟨#[]⟩, .string ⟨#[]⟩, .slice none 0 0, .slice none 0 0, .int .i64 4] _ _ X5 ?_ ?_ ?_ ?_ ?_ ?_); exact meSize; rfl; exact meOne; (focus (first | (go_simp; done) | rfl)); (focus (first | (go_simp; done) | rfl))))
    exact ret_agg1 (fn := Tryz.f152) (vs := [.int .i64 0, .string ⟨#[]⟩, .int .i64 0, .string ⟨#[]⟩, .string ⟨#[]⟩, .slice none 0 0, .slice none 0 0, .int .i64 4]) (b := w.heap.size + 1 + 1) rfl rfl Tryz.underlying140 (by kernel_rfl) (cell8 (setRow_heap w2 (w.heap.size + 1 + 1) _ _ _ _ HX5.out)) rfl FIN.out
  | some k =>
    obtain rfl : J = (k : Int) := by rw [HJ.out, hk]; rfl
    have hkl := idx_lt hk;obtain ⟨d, hd⟩ : ∃ d, m.decs[k]? = some d := ⟨_, List.getElem?_eq_getElem hkl⟩;obtain ⟨g, o, v0, v1, v2, v3, v4, v5, v6, rfl, hg, b0, b1, b2, b3, b4, b5, b6, b7, b8, us, zs⟩ := HD0.out.de hd;obtain ⟨Bn, cB, Bs, dB, ev, -⟩ := us.parts;simp only [List.cons.injEq, and_true] at ev;obtain ⟨rfl, rfl, rfl, rfl, rfl, rfl, rfl⟩ := ev;have EQ := hZ (ownM_at (pkg := pkg) (major := major) hk hd);have HUS := hZ us;have B02 := below_over HB0w.out (below_over HB3.out HB2.out);have q := fun o v (hv : w0.cell? ⟨g, o, none⟩ = some v) => (B02.cell (p := ⟨g, o, none⟩) hg).trans hv
    have a0 := q _ _ b0;have a1 := q _ _ b1;have a2 := q _ _ b2;have a3 := q _ _ b3;have a4 := q _ _ b4;have a5 := q _ _ b5;have a6 := q _ _ b6;have a7 := q _ _ b7;have a8 := q _ _ b8;have x2 := cZ (HM.out w2 HB2.out) 2;simp at x2;rw [<- HNN.out] at x2 hkl;obtain ⟨w4, hw4⟩ : ∃ w4, w4 = w2.alloc (.cells #[.int .i64 d.kind, .string d.name, .int .i64 d.typ.kind, .string d.typ.pkg, .int .i64 d.typ.major, .string d.typ.mod, .string d.typ.name, .slice Bn d.typ.names.length cB, .slice Bs d.typ.subs.length dB] 47) := ⟨_, rfl⟩;have B4 : Below w2.heap.size w2 w4 := by rw [hw4]; exact below_new (Below.refl _ _) _
    have O4 : w4.heap[w2.heap.size]? = some (.cells #[.int .i64 d.kind, .string d.name, .int .i64 d.typ.kind, .string d.typ.pkg, .int .i64 d.typ.major, .string d.typ.mod, .string d.typ.name, .slice Bn d.typ.names.length cB, .slice Bs d.typ.subs.length dB] 47 (0, 0)) := by rw [hw4]; exact heap_alloc_new w2 _
    have HB4 : Hid (Below W3.heap.size W3 w4) := hZ (below_over HB2.out B4);have HW4 := hZ hw4;have HO4 := hZ O4;have HL4 : Hid (w2.heap.size < w4.heap.size) := hZ (by rw [hw4]; simp);have hk0 : (0 : Int) <= k := by omega
    have hk1 : (k : Int) < n := by omega
    have hk2 : ¬ (k : Int) < 0 := by omega
    clear hk hd us zs hw4 B4 O4 hg B02 q b0 b1 b2 b3 b4 b5 b6 b7 b8;go_upto_region 4 with fail
    go_upto_region 5 with fail
    rw [<- HW4.out];clear HW4 a0 a1 a2 a3 a4 a5 a6 a7 a8 x2;have y0 := cZ HO4.out 0;simp at y0;by_cases h3 : d.kind = 3
    · have q3 : (d.kind == 3) = true := by rw [h3]; rfl
      have y2 := cZ HO4.out 2;have y3 := cZ HO4.out 3;have y4 := cZ HO4.out 4;have y5 := cZ HO4.out 5;have y6 := cZ HO4.out 6;have y7 := cZ HO4.out 7;have y8 := cZ HO4.out 8;simp at y2 y3 y4 y5 y6 y7 y8;have X5 := HR.out w4 HB4.out;have HX5 := hZ X5
      have FIN : Hid (MeOut w0 w (ownM m pkg major name).1 (ownM m pkg major name).2 (.returned (.agg #[.int .i64 d.typ.kind, .string d.typ.pkg, .int .i64 d.typ.major, .string d.typ.mod, .string d.typ.name, .slice Bn d.typ.names.length cB, .slice Bs d.typ.subs.length dB, .int .i64 0])) (w4.setRow (w.heap.size + 1 + 1) #[.int .i64 d.typ.kind, .string d.typ.pkg, .int .i64 d.typ.major, .string d.typ.mod, .string d.typ.name, .slice Bn d.typ.names.length cB, .slice Bs d.typ.subs.length dB, .int .i64 0])) := hZ (by
        have hb := setRow_below (below_over HB3.out HB4.out) hbl #[.int .i64 d.typ.kind, .string d.typ.pkg, .int .i64 d.typ.major, .string d.typ.mod, .string d.typ.name, .slice Bn d.typ.names.length cB, .slice Bs d.typ.subs.length dB, .int .i64 0];exact ⟨[.int .i64 d.typ.kind, .string d.typ.pkg, .int .i64 d.typ.major, .string d.typ.mod, .string d.typ.name, .slice Bn d.typ.names.length cB, .slice Bs d.typ.subs.length dB], by rw [EQ.out, if_pos h3]; rfl, by rw [EQ.out, if_pos h3]; exact fun wz hz => HUS.out.keep hz, hb⟩)
      clear h3;go_upto_region 6 with fail
      clear q3 y0;go_wp2_with (first | ((with_reducible refine wpList_putRow 140 (w.heap.size + 1 + 1) #[.int .i64 d.typ.kind, .string d.typ.pkg, .int .i64 d.typ.major, .string d.typ.mod, .string d.typ.name, .slice Bn d.typ.names.length cB, .slice Bs d.typ.subs.length dB, .int .i64 0] _ _ X5 ?_ ?_ ?_ ?_ ?_ ?_); exact meSize; rfl; exact meOne; (focus (first | (go_simp; done) | rfl)); (focus (first | (go_simp; done) | rfl))))
      exact ret_agg1 (fn := Tryz.f152) (vs := [.int .i64 d.typ.kind, .string d.typ.pkg, .int .i64 d.typ.major, .string d.typ.mod, .string d.typ.name, .slice Bn d.typ.names.length cB, .slice Bs d.typ.subs.length dB, .int .i64 0]) (b := w.heap.size + 1 + 1) rfl rfl Tryz.underlying140 (by kernel_rfl) (cell8 (setRow_heap w4 (w.heap.size + 1 + 1) _ _ _ _ HX5.out)) rfl FIN.out
    · have q3 : (d.kind == 3) = false := by simpa using h3
      have EQ2 : Hid (ownM m pkg major name = (openT m pkg major name, 0)) := hZ (by rw [EQ.out, if_neg h3]);have X0 := HM.out w4 HB4.out;obtain ⟨x0, x1, x2, x3, x4, x5, x6⟩ := cq7 X0;have T1 := cZ (HT.out w4 HB4.out) 0;simp at x0 x1 x2 x3 x4 x5 x6 T1;rw [<- HNN.out] at x2;have OC := hZ (openN_any m pkg major env kb name _ w4 (HN.out.below (below_over HB0w.out (below_over HB3.out HB4.out))));rw [<- HNN.out] at OC;clear h3 X0;go_upto_region 7 with fail
      clear q3 y0;go_wp2_with fail
      refine OC.out.mono ?_; rintro e w5 ⟨rfl, hb5⟩
      have HB5 : Hid (Below W3.heap.size W3 w5) := hZ (below_over HB4.out hb5);clear hb5 x0 x1 x2 x3 x4 x5 x6 T1 OC;have X5 := HR.out w5 HB5.out;have HX5 := hZ X5
      have FIN : Hid (MeOut w0 w (ownM m pkg major name).1 (ownM m pkg major name).2 (.returned (.agg #[.int .i64 9, .string pkg, .int .i64 major, .string m.name, .string name, .slice none 0 0, .slice none 0 0, .int .i64 0])) (w5.setRow (w.heap.size + 1 + 1) #[.int .i64 9, .string pkg, .int .i64 major, .string m.name, .string name, .slice none 0 0, .slice none 0 0, .int .i64 0])) := hZ (by
        have hb := setRow_below (below_over HB3.out HB5.out) hbl #[.int .i64 9, .string pkg, .int .i64 major, .string m.name, .string name, .slice none 0 0, .slice none 0 0, .int .i64 0];exact ⟨[.int .i64 9, .string pkg, .int .i64 major, .string m.name, .string name, .slice none 0 0, .slice none 0 0], by rw [EQ2.out]; rfl, by rw [EQ2.out]; exact fun wz _ => open_at _ hz4 hz1 hnm, hb⟩)
      go_wp2_with (first | ((with_reducible refine wpList_putRow 140 (w.heap.size + 1 + 1) #[.int .i64 9, .string pkg, .int .i64 major, .string m.name, .string name, .slice none 0 0, .slice none 0 0, .int .i64 0] _ _ X5 ?_ ?_ ?_ ?_ ?_ ?_); exact meSize; rfl; exact meOne; (focus (first | (go_simp; done) | rfl)); (focus (first | (go_simp; done) | rfl))))
      exact ret_agg1 (fn := Tryz.f152) (vs := [.int .i64 9, .string pkg, .int .i64 major, .string m.name, .string name, .slice none 0 0, .slice none 0 0, .int .i64 0]) (b := w.heap.size + 1 + 1) rfl rfl Tryz.underlying140 (by kernel_rfl) (cell8 (setRow_heap w5 (w.heap.size + 1 + 1) _ _ _ _ HX5.out)) rfl FIN.out
def lacksN (m : Mo) (env : List If) (L : List Ty) : Bool := L.any fun x => !(decide (x.mod.size = 0)) && !(thereT m env x).isSome
theorem lacks_any (m : Mo) (l : List Value) (A : Option Addr) (c : Nat) (env : List If) (L : List Ty) (Al : Option Addr) (cl lo : Nat) (w : World) (h : MoAt w l m) (hE : RowIn ifR w A env) (hel : env.length <= 9223372036854775807) (h9 : ∀ x ∈ env, ∀ y ∈ x.types, many y.typ <= 9000) (hL : OwnL w lo (.slice Al L.length cl) L) (hLl : L.length <= 1000000) :
  Calls Tryz.prog 63 #[.agg l.toArray, .slice A env.length c, .slice Al L.length cl] w fun e w' => e = .returned (.bool (lacksN m env L)) /\ Below w.heap.size w w' := by
 have HV := hZ h
 have HE := hZ hE
 have HL := hZ hL
 have TC := hZ (fun x l7 w' (hb : Below w.heap.size w w') (hs : ShL l7 x) => there_any m l A c env x l7 w' (h.below hb) (hE.below hb) hel hs h9)
 obtain ⟨Ai, ci, Ad, cd, rfl, -, -, -, -, -⟩ := h
 obtain ⟨n, hn⟩ : ∃ n, n = L.length := ⟨_, rfl⟩
 have HN := hZ hn
 obtain ⟨w0, hw0⟩ : ∃ w0, w0 = w.alloc (.cells #[.string m.name, .slice Ai m.imps.length ci, .slice Ad m.decs.length cd] 25) := ⟨_, rfl⟩
 have B0 : Below w.heap.size w w0 := by rw [hw0]; exact below_new (Below.refl _ _) _
 have O0 : w0.heap[w.heap.size]? = some (.cells #[.string m.name, .slice Ai m.imps.length ci, .slice Ad m.decs.length cd] 25 (0, 0)) := by rw [hw0]; exact heap_alloc_new w _
 have hl0 : w.heap.size < w0.heap.size := by rw [hw0]; simp
 have HB0 := hZ B0
 have HO0 := hZ O0
 have HW0 := hZ hw0
 rw [<- hn] at hLl ⊢
 clear hE hL h9 hw0 B0 O0 hn HV
 go_enter Tryz.func63, Tryz.ntmps63
 go_upto_region 1 with fail
 rw [<- HW0.out]
 clear HW0
 go_wp2_with fail
 go_loopw [7] (fun s7 wr => ∃ k : Nat, k <= n /\ s7 = .int .i64 k /\ Hid (lacksN m env (L.take k) = false) /\ Hid (Below w0.heap.size w0 wr)) (fun s7 _ => n - (intOf s7).toNat)
 case atStart => exact ⟨0, by omega, rfl, hZ (by simp [lacksN]), hZ (Below.refl _ _)⟩
 case round =>
  obtain ⟨k, hk, rfl, HNO, HBo⟩ := hrel;obtain ⟨wo, rfl⟩ : ∃ wo : World, wo = wr := ⟨_, rfl⟩;have HBw : Hid (Below w.heap.size w wo) := hZ (below_over HB0.out HBo.out);by_cases hlt : k < n
  ·obtain ⟨x, hx⟩ : ∃ x, L[k]? = some x := ⟨_, List.getElem?_eq_getElem (by rw [<- HN.out]; exact hlt)⟩
   obtain ⟨gx, Cn, cC, Cs, dC, rfl, -, hgx, hc⟩ := HL.out.get hx;have e := fun j v hv => (HBw.out.cell (p := ⟨gx, k * 7 + j, none⟩) hgx).trans (hc j v hv)
   have e3 : wo.cell? ⟨gx, k * 7 + 3, none⟩ = some (.string x.mod) := e 3 _ rfl;have hgo := Nat.lt_of_lt_of_le hgx HBw.out.size;have hk0 : (0 : Int) <= k := by omega
   have hk1 : (k : Int) < n := by omega
   have STEP : Hid (lacksN m env (L.take (k + 1)) = (!(decide (x.mod.size = 0)) && !(thereT m env x).isSome)) := hZ (by
    have h1 : lacksN m env (L.take (k + 1)) = (lacksN m env (L.take k) || (!(decide (x.mod.size = 0)) && !(thereT m env x).isSome)) := any_snoc _ _ _ _ hx;rw [h1, HNO.out, Bool.false_or])
   have HXX := hZ hx;by_cases hz : x.mod.size = 0
   ·obtain ⟨z1, z2⟩ := empty_facts _ hz
    have NX : Hid (lacksN m env (L.take (k + 1)) = false) := hZ (by rw [STEP.out, decide_eq_true hz]; rfl);clear hz hx hc e;go_wp2_with fail
    go_roundw
    case rel => exact ⟨k + 1, by omega, by go_num, NX, HBo⟩
    case measure => simp [intOf]; omega
   ·obtain ⟨z1, z2⟩ := full_facts _ hz
    obtain ⟨q, hq⟩ : ∃ q, q = (thereT m env x).isSome := ⟨_, rfl⟩;have NX : Hid (lacksN m env (L.take (k + 1)) = !q) := hZ (by rw [STEP.out, decide_eq_false hz, hq]; rfl);have HQ := hZ hq;have X := (HBo.out.block _ hl0).trans HO0.out;have hwo := Nat.lt_of_lt_of_le hl0 HBo.out.size
    have KEEP : Hid (∀ wx : World, Below wo.heap.size wo wx -> (wx.cell? ⟨w.heap.size, 0, none⟩ = some (.string m.name) /\ wx.cell? ⟨w.heap.size, 1, none⟩ = some (.slice Ai m.imps.length ci) /\ wx.cell? ⟨w.heap.size, 2, none⟩ = some (.slice Ad m.decs.length cd)) /\ wx.cell? ⟨gx, k * 7, none⟩ = some (.int .i64 x.kind) /\ wx.cell? ⟨gx, k * 7 + 1, none⟩ = some (.string x.pkg) /\ wx.cell? ⟨gx, k * 7 + 2, none⟩ = some (.int .i64 x.major) /\ wx.cell? ⟨gx, k * 7 + 3, none⟩ = some (.string x.mod) /\ wx.cell? ⟨gx, k * 7 + 4, none⟩ = some (.string x.name) /\ wx.cell? ⟨gx, k * 7 + 5, none⟩ = some (.slice Cn x.names.length cC) /\ wx.cell? ⟨gx, k * 7 + 6, none⟩ = some (.slice Cs x.subs.length dC)) := hZ (fun wx hb =>
     have X' := (hb.block _ hwo).trans X
     ⟨⟨cZ X' 0, cZ X' 1, cZ X' 2⟩, (hb.cell (p := ⟨gx, _, none⟩) hgo).trans (e 0 _ rfl), (hb.cell (p := ⟨gx, _, none⟩) hgo).trans (e 1 _ rfl), (hb.cell (p := ⟨gx, _, none⟩) hgo).trans (e 2 _ rfl), (hb.cell (p := ⟨gx, _, none⟩) hgo).trans (e 3 _ rfl), (hb.cell (p := ⟨gx, _, none⟩) hgo).trans (e 4 _ rfl), (hb.cell (p := ⟨gx, _, none⟩) hgo).trans (e 5 _ rfl), (hb.cell (p := ⟨gx, _, none⟩) hgo).trans (e 6 _ rfl)⟩)
    have CT := hZ (fun w' (hb : Below wo.heap.size wo w') => TC.out x [.int .i64 x.kind, .string x.pkg, .int .i64 x.major, .string x.mod, .string x.name, .slice Cn x.names.length cC, .slice Cs x.subs.length dC] w' (below_over HBw.out hb) ⟨Cn, cC, Cs, dC, rfl⟩);clear hz hx hc e X hq STEP;go_upto_region 5 with fail
    clear z1 z2 e3;go_cut [8, 9] (fun s8 s9 wx => s9 = .bool q /\ Below wo.heap.size wo wx)
    case first =>
     have hH0 := KEEP.out wo.drew (Below.drew (Below.refl _ _));refine AnyX.start (fun wx => (wx.cell? ⟨w.heap.size, 0, none⟩ = some (.string m.name) /\ wx.cell? ⟨w.heap.size, 1, none⟩ = some (.slice Ai m.imps.length ci) /\ wx.cell? ⟨w.heap.size, 2, none⟩ = some (.slice Ad m.decs.length cd)) /\ wx.cell? ⟨gx, k * 7, none⟩ = some (.int .i64 x.kind) /\ wx.cell? ⟨gx, k * 7 + 1, none⟩ = some (.string x.pkg) /\ wx.cell? ⟨gx, k * 7 + 2, none⟩ = some (.int .i64 x.major) /\ wx.cell? ⟨gx, k * 7 + 3, none⟩ = some (.string x.mod) /\ wx.cell? ⟨gx, k * 7 + 4, none⟩ = some (.string x.name) /\ wx.cell? ⟨gx, k * 7 + 5, none⟩ = some (.slice Cn x.names.length cC) /\ wx.cell? ⟨gx, k * 7 + 6, none⟩ = some (.slice Cs x.subs.length dC)) (fun k => [6, 11].contains k) (by kernel_rfl) ?_;refine AnyX.tk (i := 0) (v := ?_) rfl (fun _ _ _ h => h) hH0 (Or.inl ⟨by rfl, ?_⟩) ?_;rotate_left
     ·(intro wS hS; (try obtain ⟨⟨m0, m1, m2⟩, c0, c1, c2, c3, c4, c5, c6⟩ := hS); go_simp; try with_reducible rfl)
     simp only [getElem_toArray, getElem_cons_succ, getElem_cons_zero];simp only [Act.put, setIfInBounds_toArray];simp only [set_cons_zero, set_cons_succ];refine AnyX.mv (i := 1) (v := ?_) rfl (fun _ _ _ h => h) (Or.inl ⟨by rfl, ?_⟩) ?_;rotate_left
     ·(intro wS _; go_simp; try with_reducible rfl)
     simp only [getElem_toArray, getElem_cons_succ, getElem_cons_zero];simp only [Act.put, setIfInBounds_toArray];simp only [set_cons_zero, set_cons_succ];refine AnyX.mv (i := 2) (v := ?_) rfl (fun _ _ _ h => h) (Or.inl ⟨by rfl, ?_⟩) ?_;rotate_left
     ·(intro wS _; go_simp; try with_reducible rfl)
     simp only [getElem_toArray, getElem_cons_succ, getElem_cons_zero];simp only [Act.put, setIfInBounds_toArray];simp only [set_cons_zero, set_cons_succ];refine AnyX.mv (i := 3) (v := ?_) rfl (fun _ _ _ h => h) (Or.inl ⟨by rfl, ?_⟩) ?_;rotate_left
     ·(intro wS _; go_simp; try with_reducible rfl)
     simp only [getElem_toArray, getElem_cons_succ, getElem_cons_zero];simp only [Act.put, setIfInBounds_toArray];simp only [set_cons_zero, set_cons_succ];refine AnyX.mv (i := 4) (v := ?_) rfl (fun _ _ _ h => h) (Or.inl ⟨by rfl, ?_⟩) ?_;rotate_left
     ·(intro wS _; go_simp; try with_reducible rfl)
     simp only [getElem_toArray, getElem_cons_succ, getElem_cons_zero];simp only [Act.put, setIfInBounds_toArray];simp only [set_cons_zero, set_cons_succ];refine AnyX.tk (i := 5) (v := ?_) rfl (fun _ _ _ h => h) hH0 (Or.inl ⟨by rfl, ?_⟩) ?_;rotate_left
     ·(intro wS hS; (try obtain ⟨⟨m0, m1, m2⟩, c0, c1, c2, c3, c4, c5, c6⟩ := hS); go_simp; try with_reducible rfl)
     simp only [getElem_toArray, getElem_cons_succ, getElem_cons_zero];simp only [Act.put, setIfInBounds_toArray];simp only [set_cons_zero, set_cons_succ];refine AnyX.go2 6 10 (by kernel_rfl) rfl rfl rfl rfl (fun K hK => ?_) (fun K hK => ?_)
     ·simp only [getElem_toArray, getElem_cons_succ, getElem_cons_zero]
      go_simp
      refine (CT.out wo.drew (Below.drew (Below.refl _ _))).mono ?_;rintro e w2 ⟨l7, s, b, rfl, hT, hbq, -, hb2⟩;obtain ⟨Dn, dN, Ds, dS, rfl, -⟩ := hT.parts;have hbq' : b = q := by rw [hbq, HQ.out]
      clear hbq;subst hbq';simp only [];refine hK.out _ _ (fun hoff _ => absurd hoff (by decide)) ?_;clear hK;(try simp only [Act.put, setIfInBounds_toArray]);(try simp only [set_cons_zero, set_cons_succ]);refine AnyX.mv (i := 7) (v := ?_) rfl (fun _ _ _ h => h) (Or.inl ⟨by rfl, ?_⟩) ?_;rotate_left
      ·(intro wS _; go_simp; try with_reducible rfl)
      simp only [getElem_toArray, getElem_cons_succ, getElem_cons_zero];simp only [Act.put, setIfInBounds_toArray];simp only [set_cons_zero, set_cons_succ];refine AnyX.mv (i := 8) (v := ?_) rfl (fun _ _ _ h => h) (Or.inl ⟨by rfl, ?_⟩) ?_;rotate_left
      ·(intro wS _; go_simp; try with_reducible rfl)
      simp only [getElem_toArray, getElem_cons_succ, getElem_cons_zero];simp only [Act.put, setIfInBounds_toArray];simp only [set_cons_zero, set_cons_succ];refine AnyX.mv (i := 9) (v := ?_) rfl (fun _ _ _ h => h) (Or.inl ⟨by rfl, ?_⟩) ?_;rotate_left
      ·(intro wS _; go_simp; try with_reducible rfl)
      simp only [getElem_toArray, getElem_cons_succ, getElem_cons_zero];simp only [Act.put, setIfInBounds_toArray];simp only [set_cons_zero, set_cons_succ];refine AnyX.go 10 (by kernel_rfl) rfl rfl (fun K hK => ?_);simp only [getElem_toArray, getElem_cons_succ, getElem_cons_zero];go_simp
      refine hK.out _ _ (fun _ hS => by obtain ⟨⟨m0, m1, m2⟩, c0, c1, c2, c3, c4, c5, c6⟩ := hS; exact ⟨⟨cell_alloc m0, cell_alloc m1, cell_alloc m2⟩, cell_alloc c0, cell_alloc c1, cell_alloc c2, cell_alloc c3, cell_alloc c4, cell_alloc c5, cell_alloc c6⟩) ?_;clear hK;(try simp only [Act.put, setIfInBounds_toArray]);(try simp only [set_cons_zero, set_cons_succ]);refine AnyX.go 11 (by kernel_rfl) rfl rfl (fun K hK => ?_);simp only [getElem_toArray, getElem_cons_succ, getElem_cons_zero];refine wp_store_row 45 (.tmp 8) (.tmp 30) rfl w2.heap.size #[.int .i64 s.kind, .string s.pkg, .int .i64 s.major, .string s.mod, .string s.name, .slice Dn s.names.length dN, .slice Ds s.subs.length dS] rfl rfl _ _ (heap_alloc_new w2 _) tySize rfl tyOne ?_;refine hK.out _ _ (fun hoff _ => absurd hoff (by decide)) ?_;clear hK;(try simp only [Act.put, setIfInBounds_toArray]);(try simp only [set_cons_zero, set_cons_succ]);refine AnyX.mv (i := 12) (v := ?_) rfl (fun _ _ _ h => h) (Or.inl ⟨by rfl, ?_⟩) ?_;rotate_left
      ·(intro wS _; go_simp; try with_reducible rfl)
      simp only [getElem_toArray, getElem_cons_succ, getElem_cons_zero];simp only [Act.put, setIfInBounds_toArray];simp only [set_cons_zero, set_cons_succ];refine AnyX.done (by kernel_rfl) ?_ _;go_wp2_with fail
      go_meet
      have hb2' : Below wo.heap.size wo w2 := Below.trans (Below.drew (Below.refl wo.heap.size wo)) hb2
      exact ⟨rfl, setRow_below (below_new hb2' _) hb2'.size _⟩
     ·simp only [getElem_toArray, getElem_cons_succ, getElem_cons_zero]
      go_simp
      refine hK.out _ _ (fun _ hS => by obtain ⟨⟨m0, m1, m2⟩, c0, c1, c2, c3, c4, c5, c6⟩ := hS; exact ⟨⟨cell_alloc m0, cell_alloc m1, cell_alloc m2⟩, cell_alloc c0, cell_alloc c1, cell_alloc c2, cell_alloc c3, cell_alloc c4, cell_alloc c5, cell_alloc c6⟩) ?_;clear hK;(try simp only [Act.put, setIfInBounds_toArray]);(try simp only [set_cons_zero, set_cons_succ]);obtain ⟨wa, hwa⟩ : ∃ wa, wa = (wo.alloc (.cells #[.int .i64 0, .string ⟨#[]⟩, .int .i64 0, .string ⟨#[]⟩, .string ⟨#[]⟩, .slice none 0 0, .slice none 0 0] 45)).drew := ⟨_, rfl⟩;have Ba : Below wo.heap.size wo wa := by rw [hwa]; exact Below.drew (below_new (Below.refl _ _) _)
      have Xa : wa.heap[wo.heap.size]? = some (.cells #[.int .i64 0, .string ⟨#[]⟩, .int .i64 0, .string ⟨#[]⟩, .string ⟨#[]⟩, .slice none 0 0, .slice none 0 0] 45 (0, 0)) := by rw [hwa]; exact heap_alloc_new wo _
      have sa : wo.heap.size < wa.heap.size := by rw [hwa]; simp
      rw [<- hwa];clear hwa;refine AnyX.go 6 (by kernel_rfl) rfl rfl (fun K hK => ?_);simp only [getElem_toArray, getElem_cons_succ, getElem_cons_zero];go_simp
      refine (CT.out wa Ba).mono ?_;rintro e w2 ⟨l7, s, b, rfl, hT, hbq, -, hb2⟩;obtain ⟨Dn, dN, Ds, dS, rfl, -⟩ := hT.parts;have hbq' : b = q := by rw [hbq, HQ.out]
      clear hbq;subst hbq';have X2 := (hb2.block _ sa).trans Xa;simp only [];refine hK.out _ _ (fun hoff _ => absurd hoff (by decide)) ?_;clear hK;(try simp only [Act.put, setIfInBounds_toArray]);(try simp only [set_cons_zero, set_cons_succ]);refine AnyX.mv (i := 7) (v := ?_) rfl (fun _ _ _ h => h) (Or.inl ⟨by rfl, ?_⟩) ?_;rotate_left
      ·(intro wS _; go_simp; try with_reducible rfl)
      simp only [getElem_toArray, getElem_cons_succ, getElem_cons_zero];simp only [Act.put, setIfInBounds_toArray];simp only [set_cons_zero, set_cons_succ];refine AnyX.mv (i := 8) (v := ?_) rfl (fun _ _ _ h => h) (Or.inl ⟨by rfl, ?_⟩) ?_;rotate_left
      ·(intro wS _; go_simp; try with_reducible rfl)
      simp only [getElem_toArray, getElem_cons_succ, getElem_cons_zero];simp only [Act.put, setIfInBounds_toArray];simp only [set_cons_zero, set_cons_succ];refine AnyX.mv (i := 9) (v := ?_) rfl (fun _ _ _ h => h) (Or.inl ⟨by rfl, ?_⟩) ?_;rotate_left
      ·(intro wS _; go_simp; try with_reducible rfl)
      simp only [getElem_toArray, getElem_cons_succ, getElem_cons_zero];simp only [Act.put, setIfInBounds_toArray];simp only [set_cons_zero, set_cons_succ];refine AnyX.go 11 (by kernel_rfl) rfl rfl (fun K hK => ?_);simp only [getElem_toArray, getElem_cons_succ, getElem_cons_zero];refine wp_store_row 45 (.tmp 8) (.tmp 30) rfl wo.heap.size #[.int .i64 s.kind, .string s.pkg, .int .i64 s.major, .string s.mod, .string s.name, .slice Dn s.names.length dN, .slice Ds s.subs.length dS] rfl rfl _ _ X2 tySize rfl tyOne ?_;refine hK.out _ _ (fun hoff _ => absurd hoff (by decide)) ?_;clear hK;(try simp only [Act.put, setIfInBounds_toArray]);(try simp only [set_cons_zero, set_cons_succ]);refine AnyX.mv (i := 12) (v := ?_) rfl (fun _ _ _ h => h) (Or.inl ⟨by rfl, ?_⟩) ?_;rotate_left
      ·(intro wS _; go_simp; try with_reducible rfl)
      simp only [getElem_toArray, getElem_cons_succ, getElem_cons_zero];simp only [Act.put, setIfInBounds_toArray];simp only [set_cons_zero, set_cons_succ];refine AnyX.done (by kernel_rfl) ?_ _;go_wp2_with fail
      go_meet
      exact ⟨rfl, setRow_below (below_over Ba hb2) (Nat.le_refl _) _⟩
    case rest =>
     obtain ⟨rfl, hbc⟩ := hcut;obtain ⟨wy, rfl⟩ : ∃ wy : World, wy = wc := ⟨_, rfl⟩;have HBy : Hid (Below w0.heap.size w0 wy) := hZ (below_over HBo.out hbc);clear hbc;cases q with
     | true =>
      go_wp2_with fail
      go_roundw
      case rel => exact ⟨k + 1, by omega, by go_num, NX, HBy⟩
      case measure => simp [intOf]; omega
     | false =>
      have RES : Hid (lacksN m env L = true) := hZ (by
       have h1 := NX.out;unfold lacksN at h1 ⊢
       rw [Bool.not_false, List.any_eq_true] at h1;rw [List.any_eq_true];obtain ⟨y, hy, hp⟩ := h1;exact ⟨y, List.mem_of_mem_take hy, hp⟩)
      go_wp2_with fail
      go_ret;exact ⟨by rw [RES.out]; try rfl, below_over HB0.out HBy.out⟩
  ·have RES : Hid (lacksN m env L = false) := hZ (by have := HNO.out; rwa [List.take_of_length_le (by rw [<- HN.out]; omega)] at this)
   go_wp2_with fail
   go_ret;exact ⟨by rw [RES.out]; try rfl, HBw.out⟩
end Go.Proofs.YtcdmgcgjonndpaaGreatDoor
namespace Go.Proofs.YtcdmgcgjonndpaaGreatDoor
open Go.RowKit
open M
theorem index_local (As : Option Addr) (cs n : Nat) (ss : List Ty) (w : World) (hn : ss.length = n) (hz : n <= 9223372036854775807) (hS : SubsAt w As ss)
    (IH : ∀ s, s ∈ ss -> ∀ (v : Value) (w : World), TyV w v s -> Calls Tryz.prog 112 #[v] w fun e w' => e = .returned (.bool (!plainT s)) /\ Below w.heap.size w w') :
    Calls Tryz.prog 85 #[.slice As n cs, .func (.func 112) #[] #[]] w fun e w' => ∃ r : Int, e = .returned (.int .i64 r) /\ decide (0 <= r) = !plainL ss /\ Below w.heap.size w w' := by
  have HS := hZ hS;have HN := hZ hn;have HIH := hZ IH;clear hS hn IH;go_enter Tryz.func85, Tryz.ntmps85
  go_wp2_with fail
  go_loopw [8] (fun i wr => ∃ k : Nat, k <= n /\ i = .int .i64 k /\ Hid (∀ j s, j < k -> ss[j]? = some s -> plainT s = true) /\ Below w.heap.size w wr) (fun i _ => n - (intOf i).toNat)
  case atStart => exact ⟨0, by omega, rfl, hZ (fun j s h => by omega), Below.refl _ _⟩
  case round =>
    obtain ⟨k, hk, rfl, HP, hb⟩ := hrel;obtain ⟨wo, rfl⟩ : ∃ wo : World, wo = wr := ⟨_, rfl⟩;by_cases hlt : k < n
    · obtain ⟨s, hs⟩ : ∃ s, ss[k]? = some s := ⟨_, List.getElem?_eq_getElem (by rw [HN.out]; exact hlt)⟩
      obtain ⟨g, o, v0, v1, v2, v3, v4, v5, v6, rfl, -, h0, h1, h2, h3, h4, h5, h6, hs7⟩ := HS.out.below hb k s hs;have IHs := hZ (HIH.out s (List.mem_of_getElem? hs) (.agg #[v0, v1, v2, v3, v4, v5, v6]) wo ⟨_, rfl, hs7⟩);have HSS := hZ hs;clear hs7 hs;rcases hid_or (plainT s) with hp | hp
      · have R : Hid (decide (0 <= (k : Int)) = !plainL ss) := hZ (by
          rw [show plainL ss = false by
            rw [Bool.eq_false_iff, ne_eq, plainL_mem];intro h;have := h s (List.mem_of_getElem? HSS.out)
            rw [hp.out] at this; cases this]
          simp)
        go_wp2_with fail
        refine IHs.out.mono ?_; rintro e w2 ⟨rfl, hb2⟩; rw [hp.out]
        have hb3 := below_over hb hb2;clear h0 h1 h2 h3 h4 h5 h6 hb hb2;go_wp2_with fail
        go_ret;exact ⟨_, rfl, R.out, hb3⟩
      · go_wp2_with fail
        refine IHs.out.mono ?_; rintro e w2 ⟨rfl, hb2⟩; rw [hp.out]
        have hb3 := below_over hb hb2;clear h0 h1 h2 h3 h4 h5 h6 hb hb2;go_wp2_with fail
        go_roundw
        case rel => exact ⟨k + 1, by omega, by go_num, hZ (fun j q hj hq => by
          rcases Nat.lt_or_ge j k with a | a
          · exact HP.out j q a hq
          · rw [show j = k by omega, HSS.out] at hq
            obtain rfl := Option.some.inj hq;exact hp.out), hb3⟩
        case measure => simp [intOf]; omega
    · have R : Hid (decide (0 <= (-1 : Int)) = !plainL ss) := hZ (by
        rw [(plainL_mem ss).2 (fun s hs => ?_)]
        · rfl
        · obtain ⟨j, hj⟩ := List.getElem?_of_mem hs
          have hjl := (List.getElem?_eq_some_iff.1 hj).1;exact HP.out j s (by rw [HN.out] at hjl; omega) hj)
      go_wp2_with fail
      go_ret;exact ⟨_, rfl, R.out, hb⟩
theorem contains_local (As : Option Addr) (cs n : Nat) (ss : List Ty) (w : World) (hn : ss.length = n) (hz : n <= 9223372036854775807) (hS : SubsAt w As ss)
    (IH : ∀ s, s ∈ ss -> ∀ (v : Value) (w : World), TyV w v s -> Calls Tryz.prog 112 #[v] w fun e w' => e = .returned (.bool (!plainT s)) /\ Below w.heap.size w w') :
    Calls Tryz.prog 49 #[.slice As n cs, .func (.func 112) #[] #[]] w fun e w' => e = .returned (.bool (!plainL ss)) /\ Below w.heap.size w w' := by
  have HC := hZ (index_local As cs n ss w hn hz hS IH);clear hn hS IH;go_enter Tryz.func49, Tryz.ntmps49
  go_wp2_with fail
  refine HC.out.mono ?_; rintro e w2 ⟨r, rfl, hr, hb2⟩
  have HR := hZ hr;clear hr HC;go_wp2_with fail
  go_ret;exact ⟨ret_bool HR.out.symm, hb2⟩
theorem local_any (N : Nat) : ∀ (t : Ty), many t <= N -> ∀ (v : Value) (w : World), TyV w v t ->
    Calls Tryz.prog 112 #[v] w fun e w' => e = .returned (.bool (!plainT t)) /\ Below w.heap.size w w' := by
  induction N with
  | zero => intro t h; have := many_pos t; omega
  | succ N ih =>
    intro t hN v w hv;obtain ⟨l, rfl, hT⟩ := hv;obtain ⟨An, cn, As, cs, rfl, -, -, -, hzn, hz, -, hS⟩ := hT.parts;have HS := hZ hS;clear hT hS;have HE := hZ (plain_eq t)
    have IH : Hid (∀ s, s ∈ t.subs -> ∀ (v : Value) (w : World), TyV w v s -> Calls Tryz.prog 112 #[v] w fun e w' => e = .returned (.bool (!plainT s)) /\ Below w.heap.size w w') :=
      hZ (fun s hs v w hv => ih s (by have := manyL_mem t.subs s hs; have := manyL_eq t; omega) v w hv)
    clear ih hN;generalize hn : t.subs.length = n at hz
    have HN := hZ hn;clear hn;rcases hid_or (t.kind == 8) with h8 | h8
    · have h8' := h8.out
      have R : Hid ((!plainT t) = !plainL t.subs) := hZ (by rw [HE.out, h8']; rfl);rw [R.out];clear R;go_enter Tryz.func112, Tryz.ntmps112
      go_wp2_with fail
      refine (contains_local As cs n t.subs _ HN.out hz (HS.out.below (below_new (Below.refl _ _) _)) IH.out).mono ?_; rintro e w2 ⟨rfl, hb2⟩
      go_wp2_with fail
      go_ret;exact ⟨rfl, (below_new (Below.refl _ _) _).trans (hb2.mono (by simp))⟩
    · have h8' := h8.out
      have R : Hid ((!plainT t) = true) := hZ (by rw [HE.out, h8']; rfl);rw [R.out];clear R;go_enter Tryz.func112, Tryz.ntmps112
      go_wp2_with fail
      go_ret;exact ⟨rfl, below_new (Below.refl _ _) _⟩
end Go.Proofs.YtcdmgcgjonndpaaGreatDoor
namespace Go.Proofs.YtcdmgcgjonndpaaGreatDoor
open Go.RowKit
open Go.Sort
open M
theorem plainK_any (t : Ty) (v : Value) (w : World) (hv : TyV w v t) :
    Calls Tryz.prog 68 #[v] w fun e w' => e = .returned (.bool (mayT t && plainT t)) /\ Below w.heap.size w w' := by
  have HV := hZ hv;obtain ⟨l, rfl, hT⟩ := hv;obtain ⟨An, cn, As, cs, rfl, -, -, -, hzn, hz, -, -⟩ := hT.parts;clear hT;have HB0 := hZ (below_new (Below.refl _ w) (.cells #[.int .i64 t.kind, .string t.pkg, .int .i64 t.major, .string t.mod, .string t.name, .slice An t.names.length cn, .slice As t.subs.length cs] 45));rcases hid_or (mayT t) with ha | ha
  · have R : Hid ((mayT t && plainT t) = false) := hZ (by rw [ha.out]; rfl)
    rw [R.out];go_enter Tryz.func68, Tryz.ntmps68
    go_wp2_with fail
    refine (mayK_any t _ _ (HV.out.below HB0.out)).mono ?_; rintro e w5 ⟨rfl, hb5⟩; rw [ha.out]
    go_wp2_with fail
    go_ret;exact ⟨rfl, HB0.out.trans (hb5.mono HB0.out.size)⟩
  · have R : Hid ((mayT t && plainT t) = plainT t) := hZ (by rw [ha.out]; rfl)
    rw [R.out];go_enter Tryz.func68, Tryz.ntmps68
    go_wp2_with fail
    refine (mayK_any t _ _ (HV.out.below HB0.out)).mono ?_; rintro e w5 ⟨rfl, hb5⟩; rw [ha.out]
    have hb5' : Below (boxed w #[.int .i64 t.kind, .string t.pkg, .int .i64 t.major, .string t.mod, .string t.name, .slice An t.names.length cn, .slice As t.subs.length cs]).heap.size (boxed w #[.int .i64 t.kind, .string t.pkg, .int .i64 t.major, .string t.mod, .string t.name, .slice An t.names.length cn, .slice As t.subs.length cs]) w5 := hb5
    have HB5 := hZ (box_below hb5');have c0 := box_cell hb5' 0; have c1 := box_cell hb5' 1; have c2 := box_cell hb5' 2; have c3 := box_cell hb5' 3; have c4 := box_cell hb5' 4; have c5 := box_cell hb5' 5; have c6 := box_cell hb5' 6
    simp at c0 c1 c2 c3 c4 c5 c6;clear hb5 hb5';go_wp2_with fail
    refine (local_any _ t (Nat.le_refl _) _ _ (HV.out.below HB5.out)).mono ?_; rintro e w6 ⟨rfl, hb6⟩
    go_wp2_with fail
    go_ret;exact ⟨ret_bool (by simp), HB5.out.trans (hb6.mono HB5.out.size)⟩
end Go.Proofs.YtcdmgcgjonndpaaGreatDoor
