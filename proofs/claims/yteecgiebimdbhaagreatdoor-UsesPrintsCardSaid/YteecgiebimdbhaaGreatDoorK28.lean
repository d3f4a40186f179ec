/-
  Several texts in one.
-/
import Derived.Test.YteecgiebimdbhaaGreatDoorK30
set_option maxRecDepth 100000
set_option maxHeartbeats 16000000
namespace Go.Proofs.YteecgiebimdbhaaGreatDoor
open Go Go.RowKit Go.Shelf
open Go.Sort Go.Maps
open M
theorem mayT_many11 {t : Ty} (h : mayT t = true) : many t <= 500 := by
  unfold mayT at h
  simp only [Bool.and_eq_true, decide_eq_true_eq] at h;exact h.1.2
theorem isErr_any (c d : Int) (hd : d ≠ 0) (w : World) : Calls Tryz.prog 43 #[errV c, .iface 32 (.int .i64 d)] w fun e w' => e = .returned (.bool (c == d)) /\ w' = w := by
  by_cases h : c = 0
  · subst h
    rw [show errV 0 = .nilIface by unfold errV; rw [if_pos rfl], show ((0 : Int) == d) = false by simp; exact fun e => hd e.symm];exact isNil_any d w
  · rw [show errV c = .iface 32 (.int .i64 c) by unfold errV; rw [if_neg h]]
    exact isCode_any c d w
theorem rowU_two (x : If) : rowU x 2 = x.types := by unfold rowU; rw [if_pos rfl]
theorem rowU_one {x : If} {k : Int} (h : k ≠ 2) : rowU x k = x.vals := by unfold rowU; rw [if_neg h]
theorem named11_any (x : If) (At : Option Addr) (ct : Nat) (Av : Option Addr) (cv : Nat) (k : Int) (m s : ByteArray) (t : Ty) (An As : Option Addr) (cA cS : Nat) (w0 w : World) (hx : ifE w0 [.string x.pkg, .int .i64 x.major, .string x.mod, .slice At x.types.length ct, .slice Av x.vals.length cv] x) (hw : Below w0.heap.size w0 w) :
    Calls Tryz.prog 89 #[.agg #[.string x.pkg, .int .i64 x.major, .string x.mod, .slice At x.types.length ct, .slice Av x.vals.length cv], .agg #[.int .i64 k, .string m, .string s, .int .i64 t.kind, .string t.pkg, .int .i64 t.major, .string t.mod, .string t.name, .slice An t.names.length cA, .slice As t.subs.length cS]] w (OfOut w0 w (rowU x k) s) := by
  obtain ⟨At', ct', Av', cv', e0, -, -, z1, z2, hT, hV⟩ := hx;simp only [List.cons.injEq, Value.slice.injEq, and_true, true_and] at e0;obtain ⟨⟨rfl, rfl⟩, rfl, rfl⟩ := e0;obtain ⟨W2, hW2, B2, O0, O1, hl2⟩ := two_boxes w #[.string x.pkg, .int .i64 x.major, .string x.mod, .slice At x.types.length ct, .slice Av x.vals.length cv] #[.int .i64 k, .string m, .string s, .int .i64 t.kind, .string t.pkg, .int .i64 t.major, .string t.mod, .string t.name, .slice An t.names.length cA, .slice As t.subs.length cS] 50 60;have s2 : W2.heap.size = w.heap.size + 1 + 1 := by rw [hW2]; simp
  obtain ⟨W3, hW3⟩ : ∃ W3, W3 = W2.alloc (.cells #[.int .i64 0, .string ⟨#[]⟩, .int .i64 0, .string ⟨#[]⟩, .string ⟨#[]⟩, .slice none 0 0, .slice none 0 0] 55) := ⟨_, rfl⟩;have B3 : Below W2.heap.size W2 W3 := by rw [hW3]; exact below_new (Below.refl _ _) _
  have s3 : W3.heap.size = w.heap.size + 1 + 1 + 1 := by rw [hW3]; simp [s2]
  have O2 : W3.heap[w.heap.size + 1 + 1]? = some (.cells #[.int .i64 0, .string ⟨#[]⟩, .int .i64 0, .string ⟨#[]⟩, .string ⟨#[]⟩, .slice none 0 0, .slice none 0 0] 55 (0, 0)) := by rw [hW3, <- s2]; exact heap_alloc_new W2 _
  have HB3 : Hid (Below w.heap.size w W3) := hZ (below_over B2 B3);have X0 := (B3.block w.heap.size (by omega)).trans O0;have X1 := (B3.block (w.heap.size + 1) (by omega)).trans O1;have x3 := cZ X0 3;have x4 := cZ X0 4;have y0 := cZ X1 0;have y2 := cZ X1 2;simp at x3 x4 y0 y2;have HO2 := hZ O2;have HW : Hid (((w.alloc (.cells #[.string x.pkg, .int .i64 x.major, .string x.mod, .slice At x.types.length ct, .slice Av x.vals.length cv] 50)).alloc (.cells #[.int .i64 k, .string m, .string s, .int .i64 t.kind, .string t.pkg, .int .i64 t.major, .string t.mod, .string t.name, .slice An t.names.length cA, .slice As t.subs.length cS] 60)).alloc (.cells #[.int .i64 0, .string ⟨#[]⟩, .int .i64 0, .string ⟨#[]⟩, .string ⟨#[]⟩, .slice none 0 0, .slice none 0 0] 55) = W3) := hZ (by rw [hW3, hW2]);have LT := hZ (lkType_any At ct x.types s w0 W3 hT (below_over hw HB3.out) z1);have LV := hZ (lkType_any Av cv x.vals s w0 W3 hV (below_over hw HB3.out) z2);have hl3 : w.heap.size + 1 + 1 < W3.heap.size := by omega
  clear hT hV hw hW2 hW3 B2 B3 O0 O1 O2 s2 s3 hl2 X0 X1;by_cases hk : k = 2
  · subst hk
    rw [rowU_two];go_enter Tryz.func89, Tryz.ntmps89
    go_upto_region 1 with fail
    rw [HW.out];clear HW;go_wp2_with (first | fail)
    refine LT.out.mono ?_; rintro e w4 ⟨l, rfl, hL, hb4⟩
    obtain ⟨Bn, cB, Bs, cT, rfl, -⟩ := (hL w0 (Below.refl _ _)).parts;obtain ⟨b, hb⟩ : ∃ b, b = gotT x.types s := ⟨_, rfl⟩;have HL := hZ hL;obtain ⟨q, hq⟩ : ∃ q, (ofI x.types s).isSome = q := ⟨_, rfl⟩;have X4 := (hb4.block _ hl3).trans HO2.out;have HX4 := hZ X4;have FIN : Hid (OfOut w0 w x.types s (.returned (.tuple #[.agg #[.int .i64 b.kind, .string b.pkg, .int .i64 b.major, .string b.mod, .string b.name, .slice Bn b.names.length cB, .slice Bs b.subs.length cT], .bool q])) (w4.setRow (w.heap.size + 1 + 1) #[.int .i64 b.kind, .string b.pkg, .int .i64 b.major, .string b.mod, .string b.name, .slice Bn b.names.length cB, .slice Bs b.subs.length cT])) := hZ ⟨[.int .i64 b.kind, .string b.pkg, .int .i64 b.major, .string b.mod, .string b.name, .slice Bn b.names.length cB, .slice Bs b.subs.length cT], by rw [hq], by rw [hb]; exact HL.out, setRow_below (below_over HB3.out hb4) (by omega) _⟩;rw [hq, <- hb];clear hb hq hL hb4 LT LV x3 x4 y0 y2;go_wp2_with (first | (((with_reducible refine wpList_putRow 55 (w.heap.size + 1 + 1) #[.int .i64 b.kind, .string b.pkg, .int .i64 b.major, .string b.mod, .string b.name, .slice Bn b.names.length cB, .slice Bs b.subs.length cT] _ _ X4 ?_ ?_ ?_ ?_ ?_ ?_); exact tySize; rfl; exact tyOne; iterate 2 (focus (first | (go_simp; done) | rfl)))))
    exact ret_agg (fn := Tryz.f89) (vs := [.int .i64 b.kind, .string b.pkg, .int .i64 b.major, .string b.mod, .string b.name, .slice Bn b.names.length cB, .slice Bs b.subs.length cT]) (b := w.heap.size + 1 + 1) rfl rfl rfl Tryz.underlying55 (by kernel_rfl) (cell7 (setRow_heap w4 (w.heap.size + 1 + 1) _ _ _ _ HX4.out)) rfl FIN.out
  · rw [rowU_one hk]
    have e2 : (k == 2) = false := by simpa using hk
    clear hk;go_enter Tryz.func89, Tryz.ntmps89
    go_upto_region 1 with fail
    rw [HW.out];clear HW;go_wp2_with (first | fail)
    refine LV.out.mono ?_; rintro e w4 ⟨l, rfl, hL, hb4⟩
    obtain ⟨Bn, cB, Bs, cT, rfl, -⟩ := (hL w0 (Below.refl _ _)).parts;obtain ⟨b, hb⟩ : ∃ b, b = gotT x.vals s := ⟨_, rfl⟩;have HL := hZ hL;obtain ⟨q, hq⟩ : ∃ q, (ofI x.vals s).isSome = q := ⟨_, rfl⟩;have X4 := (hb4.block _ hl3).trans HO2.out;have HX4 := hZ X4;have FIN : Hid (OfOut w0 w x.vals s (.returned (.tuple #[.agg #[.int .i64 b.kind, .string b.pkg, .int .i64 b.major, .string b.mod, .string b.name, .slice Bn b.names.length cB, .slice Bs b.subs.length cT], .bool q])) (w4.setRow (w.heap.size + 1 + 1) #[.int .i64 b.kind, .string b.pkg, .int .i64 b.major, .string b.mod, .string b.name, .slice Bn b.names.length cB, .slice Bs b.subs.length cT])) := hZ ⟨[.int .i64 b.kind, .string b.pkg, .int .i64 b.major, .string b.mod, .string b.name, .slice Bn b.names.length cB, .slice Bs b.subs.length cT], by rw [hq], by rw [hb]; exact HL.out, setRow_below (below_over HB3.out hb4) (by omega) _⟩;rw [hq, <- hb];clear hb hq hL hb4 LT LV x3 x4 y0 y2;go_wp2_with (first | (((with_reducible refine wpList_putRow 55 (w.heap.size + 1 + 1) #[.int .i64 b.kind, .string b.pkg, .int .i64 b.major, .string b.mod, .string b.name, .slice Bn b.names.length cB, .slice Bs b.subs.length cT] _ _ X4 ?_ ?_ ?_ ?_ ?_ ?_); exact tySize; rfl; exact tyOne; iterate 2 (focus (first | (go_simp; done) | rfl)))))
    exact ret_agg (fn := Tryz.f89) (vs := [.int .i64 b.kind, .string b.pkg, .int .i64 b.major, .string b.mod, .string b.name, .slice Bn b.names.length cB, .slice Bs b.subs.length cT]) (b := w.heap.size + 1 + 1) rfl rfl rfl Tryz.underlying55 (by kernel_rfl) (cell7 (setRow_heap w4 (w.heap.size + 1 + 1) _ _ _ _ HX4.out)) rfl FIN.out
theorem fits11_any (k : Int) (m s : ByteArray) (t a b : Ty) (Cn Cs : Option Addr) (cC cD : Nat) (la lb : List Value) (w : World) (ha : TyAt w la a) (hb : TyAt w lb b) :
    Calls Tryz.prog 90 #[.agg #[.int .i64 k, .string m, .string s, .int .i64 t.kind, .string t.pkg, .int .i64 t.major, .string t.mod, .string t.name, .slice Cn t.names.length cC, .slice Cs t.subs.length cD], .agg la.toArray, .agg lb.toArray] w fun e w' => e = .returned (.bool (fitsC k a b)) /\ Below w.heap.size w w' := by
  have HA := hZ ha;have HBt := hZ hb;obtain ⟨An, cA, As, cS, rfl, -⟩ := ha.parts;obtain ⟨Bn, cB, Bs, cT, rfl, -⟩ := hb.parts;obtain ⟨W2, hW2, B2, O0, O1, hl2⟩ := two_boxes w #[.int .i64 k, .string m, .string s, .int .i64 t.kind, .string t.pkg, .int .i64 t.major, .string t.mod, .string t.name, .slice Cn t.names.length cC, .slice Cs t.subs.length cD] #[.int .i64 a.kind, .string a.pkg, .int .i64 a.major, .string a.mod, .string a.name, .slice An a.names.length cA, .slice As a.subs.length cS] 60 55;have s2 : W2.heap.size = w.heap.size + 1 + 1 := by rw [hW2]; simp
  obtain ⟨W3, hW3⟩ : ∃ W3, W3 = W2.alloc (.cells #[.int .i64 b.kind, .string b.pkg, .int .i64 b.major, .string b.mod, .string b.name, .slice Bn b.names.length cB, .slice Bs b.subs.length cT] 55) := ⟨_, rfl⟩;have B3 : Below W2.heap.size W2 W3 := by rw [hW3]; exact below_new (Below.refl _ _) _
  have O2 : W3.heap[w.heap.size + 1 + 1]? = some (.cells #[.int .i64 b.kind, .string b.pkg, .int .i64 b.major, .string b.mod, .string b.name, .slice Bn b.names.length cB, .slice Bs b.subs.length cT] 55 (0, 0)) := by rw [hW3, <- s2]; exact heap_alloc_new W2 _
  have HB3 : Hid (Below w.heap.size w W3) := hZ (below_over B2 B3);have X0 := (B3.block w.heap.size (by omega)).trans O0;have X1 := (B3.block (w.heap.size + 1) (by omega)).trans O1;have x0 := cZ X0 0;obtain ⟨y0, y1, y2, y3, y4, y5, y6⟩ := cq7 X1;obtain ⟨z0, z1, z2, z3, z4, z5, z6⟩ := cq7 O2;simp at x0 y0 y1 y2 y3 y4 y5 y6 z0 z1 z2 z3 z4 z5 z6;have HW : Hid (((w.alloc (.cells #[.int .i64 k, .string m, .string s, .int .i64 t.kind, .string t.pkg, .int .i64 t.major, .string t.mod, .string t.name, .slice Cn t.names.length cC, .slice Cs t.subs.length cD] 60)).alloc (.cells #[.int .i64 a.kind, .string a.pkg, .int .i64 a.major, .string a.mod, .string a.name, .slice An a.names.length cA, .slice As a.subs.length cS] 55)).alloc (.cells #[.int .i64 b.kind, .string b.pkg, .int .i64 b.major, .string b.mod, .string b.name, .slice Bn b.names.length cB, .slice Bs b.subs.length cT] 55) = W3) := hZ (by rw [hW3, hW2]);have SM := hZ (sameK_any a b (.agg #[.int .i64 a.kind, .string a.pkg, .int .i64 a.major, .string a.mod, .string a.name, .slice An a.names.length cA, .slice As a.subs.length cS]) (.agg #[.int .i64 b.kind, .string b.pkg, .int .i64 b.major, .string b.mod, .string b.name, .slice Bn b.names.length cB, .slice Bs b.subs.length cT]) W3 ⟨_, rfl, HA.out.keep HB3.out⟩ ⟨_, rfl, HBt.out.keep HB3.out⟩);have SU := hZ (subC_any9 a b [.int .i64 a.kind, .string a.pkg, .int .i64 a.major, .string a.mod, .string a.name, .slice An a.names.length cA, .slice As a.subs.length cS] [.int .i64 b.kind, .string b.pkg, .int .i64 b.major, .string b.mod, .string b.name, .slice Bn b.names.length cB, .slice Bs b.subs.length cT] W3 (fun h => Nat.le_trans (mayT_many11 h) (by decide)) (fun h => Nat.le_trans (mayT_many11 h) (by decide)) (HA.out.keep HB3.out) (HBt.out.keep HB3.out));clear ha hb hW2 hW3 B2 B3 O0 O1 O2 s2 hl2 X0 X1;unfold fitsC
  by_cases hk : k = 2
  · subst hk
    rw [if_pos rfl];go_enter Tryz.func90, Tryz.ntmps90
    go_upto_region 1 with fail
    rw [HW.out];clear HW;go_wp2_with (first | fail)
    refine SM.out.mono ?_; rintro e w4 ⟨rfl, hb4⟩
    have FIN := hZ (below_over HB3.out hb4);clear hb4 SM SU;go_wp2_with fail
    go_ret;exact ⟨rfl, FIN.out⟩
  · rw [if_neg hk]
    have e2 : (k == 2) = false := by simpa using hk
    clear hk;go_enter Tryz.func90, Tryz.ntmps90
    go_upto_region 1 with fail
    rw [HW.out];clear HW;go_wp2_with (first | fail)
    refine SU.out.mono ?_; rintro e w4 ⟨rfl, hb4⟩
    have FIN := hZ (below_over HB3.out hb4);clear hb4 SM SU;go_wp2_with fail
    go_ret;exact ⟨rfl, FIN.out⟩
theorem errV_zero11 : errV 0 = .nilIface := by unfold errV; rw [if_pos rfl]
theorem errV_code11 {c : Int} (h : c ≠ 0) : errV c = .iface 32 (.int .i64 c) := by unfold errV; rw [if_neg h]
theorem modM_mayN {u : Us} {env : List If} (h : mayU u = true) (hd : ∀ i, i < u.imps.length -> dupB (·.asn) u.imps i = false) (he : env.length <= 100) : MayN ⟨⟨#[109]⟩, u.imps, []⟩ ⟨#[112]⟩ 1 env := by
  obtain ⟨h1, -, h3, -⟩ := mayU_parts h;refine ⟨⟨?_, hd, fun i hi => by simp at hi, fun i d hd => by simp at hd, fun i d hd => by simp at hd, fun i j d e hd => by simp at hd⟩, by show mayT (.mk 9 ⟨#[112]⟩ 1 ⟨#[109]⟩ ⟨#[84]⟩ [] []) = true; decide +kernel, he⟩;unfold mayM
  simp only [Bool.and_eq_true, decide_eq_true_eq, List.all_eq_true];exact ⟨by decide +kernel, h1, by simp, h3, by simp⟩
def ClOut (u : Us) (env : List If) (d : Ln) (w : World) (e : Ending) (w' : World) : Prop := ∃ c : Int, LnIs u env d c /\ e = .returned (errV c) /\ Below w.heap.size w w'
theorem comesTo11_of (imps : List Im) (env : List If) (t : Ty) (lt : List Value) (Ai : Option Addr) (ci : Nat) (Ae : Option Addr) (ce : Nat) (w : World) (hI : RowIn imR w Ai imps) (hz : imps.length <= 9223372036854775807) (hci : imps.length <= ci) (hE : RowIn ifR w Ae env) (hel : env.length <= 9223372036854775807) (hT : TyAt w lt t) (hL : Lf t) :
    Calls Tryz.prog 87 #[.agg lt.toArray, .slice Ai imps.length ci, .slice Ae env.length ce] w (EpOut ⟨⟨#[109]⟩, imps, []⟩ ⟨#[112]⟩ 1 env t w) := by
  have HT := hZ hT;obtain ⟨An, cA, As, cS, rfl, -⟩ := hT.parts;obtain ⟨W2, hW2, B2, O0, O1, hl2⟩ := two_boxes w #[.int .i64 t.kind, .string t.pkg, .int .i64 t.major, .string t.mod, .string t.name, .slice An t.names.length cA, .slice As t.subs.length cS] #[.int .i64 0, .string ⟨#[]⟩, .int .i64 0, .string ⟨#[]⟩, .string ⟨#[]⟩, .slice none 0 0, .slice none 0 0] 55 55
  have EX0 : Calls Tryz.prog 127 #[.agg #[.string ⟨#[109]⟩, .slice Ai imps.length ci, .slice none 0 0], .string ⟨#[112]⟩, .int .i64 1, .slice Ae env.length ce, .agg #[.int .i64 t.kind, .string t.pkg, .int .i64 t.major, .string t.mod, .string t.name, .slice An t.names.length cA, .slice As t.subs.length cS]] W2 (EpOut ⟨⟨#[109]⟩, imps, []⟩ ⟨#[112]⟩ 1 env t W2) :=
    expand8_of ⟨⟨#[109]⟩, imps, []⟩ ⟨#[112]⟩ 1 env Ai ci none 0 Ae ce t [.int .i64 t.kind, .string t.pkg, .int .i64 t.major, .string t.mod, .string t.name, .slice An t.names.length cA, .slice As t.subs.length cS] W2 ⟨Ai, ci, none, 0, rfl, (show (1 : Nat) <= 9223372036854775807 by decide), hz, (show (0 : Nat) <= 9223372036854775807 by decide), hI.below B2, fun i x h => by simp at h⟩ (CapsAt.of (m := ⟨⟨#[109]⟩, imps, []⟩) hci (Nat.le_refl 0) rfl) (by decide) (hE.below B2) hel (HT.out.keep B2) (fun d hd => by simp at hd) hL rfl
  have EX := hZ EX0;obtain ⟨z0, z1, z2, z3, z4, z5, z6⟩ := cq7 O0;simp at z0 z1 z2 z3 z4 z5 z6;have HB2 := hZ B2;have HO1 := hZ O1;have HW := hZ hW2;have s2 : w.heap.size + 1 < W2.heap.size := hl2;clear hT hI hE hW2 B2 O0 O1 EX0;go_enter Tryz.func87, Tryz.ntmps87
  go_upto_region 1 with fail
  rw [<- HW.out];clear HW;go_wp2_with (first | fail)
  refine EX.out.mono ?_; rintro e w3 ⟨c, u, l, hep, rfl, hu, hb3⟩
  obtain ⟨Bn, cB, Bs, cT, rfl, -⟩ := hu.parts;have X3 := (hb3.block _ s2).trans HO1.out;have HX3 := hZ X3
  have FIN : Hid (EpOut ⟨⟨#[109]⟩, imps, []⟩ ⟨#[112]⟩ 1 env t w (.returned (.tuple #[.agg #[.int .i64 u.kind, .string u.pkg, .int .i64 u.major, .string u.mod, .string u.name, .slice Bn u.names.length cB, .slice Bs u.subs.length cT], errV c])) (w3.setRow (w.heap.size + 1) #[.int .i64 u.kind, .string u.pkg, .int .i64 u.major, .string u.mod, .string u.name, .slice Bn u.names.length cB, .slice Bs u.subs.length cT])) := hZ
    ⟨c, u, [.int .i64 u.kind, .string u.pkg, .int .i64 u.major, .string u.mod, .string u.name, .slice Bn u.names.length cB, .slice Bs u.subs.length cT], hep, rfl, hu.move (by simp) fun b hb hS => ⟨fun e => hS (by omega), setRow_other _ _ _ _ (fun e => by subst e; exact hS s2)⟩, setRow_below (below_over HB2.out hb3) (by omega) _⟩
  clear hep hu hb3 EX z0 z1 z2 z3 z4 z5 z6;go_wp2_with (first | (((with_reducible refine wpList_putRow 55 (w.heap.size + 1) #[.int .i64 u.kind, .string u.pkg, .int .i64 u.major, .string u.mod, .string u.name, .slice Bn u.names.length cB, .slice Bs u.subs.length cT] _ _ X3 ?_ ?_ ?_ ?_ ?_ ?_); exact tySize; rfl; exact tyOne; iterate 2 (focus (first | (go_simp; done) | rfl)))))
  exact ret_agg (fn := Tryz.f87) (vs := [.int .i64 u.kind, .string u.pkg, .int .i64 u.major, .string u.mod, .string u.name, .slice Bn u.names.length cB, .slice Bs u.subs.length cT]) (b := w.heap.size + 1) rfl rfl rfl Tryz.underlying55 (by kernel_rfl) (cell7 (setRow_heap w3 (w.heap.size + 1) _ _ _ _ HX3.out)) rfl FIN.out
theorem checkLine_of (u : Us) (env : List If) (d : Ln) (An As : Option Addr) (cA cS : Nat) (Ai : Option Addr) (ci : Nat) (Ae : Option Addr) (ce : Nat) (w : World) (hu : mayU u = true) (hdup : ∀ i, i < u.imps.length -> dupB (·.asn) u.imps i = false) (hel : env.length <= 100) (hkd : d.kind = 1 \/ d.kind = 2)
    (hI : RowIn imR w Ai u.imps) (hci : u.imps.length <= ci) (hE : RowIn ifR w Ae env) (hT : TyAt w [.int .i64 d.typ.kind, .string d.typ.pkg, .int .i64 d.typ.major, .string d.typ.mod, .string d.typ.name, .slice An d.typ.names.length cA, .slice As d.typ.subs.length cS] d.typ) (hL : Lf d.typ) :
    Calls Tryz.prog 48 #[.agg #[.int .i64 d.kind, .string d.mod, .string d.name, .int .i64 d.typ.kind, .string d.typ.pkg, .int .i64 d.typ.major, .string d.typ.mod, .string d.typ.name, .slice An d.typ.names.length cA, .slice As d.typ.subs.length cS], .slice Ai u.imps.length ci, .slice Ae env.length ce] w (ClOut u env d w) := by
  have hz : u.imps.length <= 9223372036854775807 := Nat.le_trans (mayU_parts hu).1 (by decide);have hez : env.length <= 9223372036854775807 := Nat.le_trans hel (by decide);obtain ⟨W1, hW1⟩ : ∃ W1, W1 = w.alloc (.cells #[.int .i64 d.kind, .string d.mod, .string d.name, .int .i64 d.typ.kind, .string d.typ.pkg, .int .i64 d.typ.major, .string d.typ.mod, .string d.typ.name, .slice An d.typ.names.length cA, .slice As d.typ.subs.length cS] 60) := ⟨_, rfl⟩;have B1 : Below w.heap.size w W1 := by rw [hW1]; exact below_new (Below.refl _ _) _
  have O1 : W1.heap[w.heap.size]? = some (.cells #[.int .i64 d.kind, .string d.mod, .string d.name, .int .i64 d.typ.kind, .string d.typ.pkg, .int .i64 d.typ.major, .string d.typ.mod, .string d.typ.name, .slice An d.typ.names.length cA, .slice As d.typ.subs.length cS] 60 (0, 0)) := by rw [hW1]; exact heap_alloc_new w _
  have hl1 : w.heap.size < W1.heap.size := by rw [hW1]; simp
  have HL1 : Hid (∀ wx, Below W1.heap.size W1 wx -> wx.heap[w.heap.size]? = some (.cells #[.int .i64 d.kind, .string d.mod, .string d.name, .int .i64 d.typ.kind, .string d.typ.pkg, .int .i64 d.typ.major, .string d.typ.mod, .string d.typ.name, .slice An d.typ.names.length cA, .slice As d.typ.subs.length cS] 60 (0, 0))) := hZ (fun wx hb => (hb.block _ hl1).trans O1);have HI : Hid (∀ wx, Below W1.heap.size W1 wx -> RowIn imR wx Ai u.imps) := hZ (fun wx hb => hI.below (below_over B1 hb));have HE : Hid (∀ wx, Below W1.heap.size W1 wx -> RowIn ifR wx Ae env) := hZ (fun wx hb => hE.below (below_over B1 hb));have HT : Hid (∀ wx, Below W1.heap.size W1 wx -> TyAt wx [.int .i64 d.typ.kind, .string d.typ.pkg, .int .i64 d.typ.major, .string d.typ.mod, .string d.typ.name, .slice An d.typ.names.length cA, .slice As d.typ.subs.length cS] d.typ) := hZ (fun wx hb => hT.keep (below_over B1 hb));have HB1 := hZ B1;have HW1 := hZ hW1;have IX := hZ (lkImport_any Ai ci u.imps d.mod W1 W1 (HI.out W1 (Below.refl _ _)) (Below.refl _ _) hz);have CT := hZ (fun (wx : World) (hb : Below W1.heap.size W1 wx) => comesTo11_of u.imps env d.typ [.int .i64 d.typ.kind, .string d.typ.pkg, .int .i64 d.typ.major, .string d.typ.mod, .string d.typ.name, .slice An d.typ.names.length cA, .slice As d.typ.subs.length cS] Ai ci Ae ce wx (HI.out wx hb) hz hci (HE.out wx hb) hez (HT.out wx hb) hL);have IF := hZ (fun (x : Im) (wx : World) (hb : Below W1.heap.size W1 wx) => lkIface_any Ae ce env x W1 wx (HE.out W1 (Below.refl _ _)) hb hez);have NM : Hid (∀ (c : Int) (t : Ty), EpIs ⟨⟨#[109]⟩, u.imps, []⟩ ⟨#[112]⟩ 1 env d.typ c t -> EpIs (modU u) nmC 1 env d.typ c t) := hZ (fun c t h => modU_as hu hdup (modM_mayN hu hdup hel) h);obtain ⟨ni, hni⟩ : ∃ ni, ni = u.imps.length := ⟨_, rfl⟩;obtain ⟨ne, hne⟩ : ∃ ne, ne = env.length := ⟨_, rfl⟩;rw [<- hni] at IX CT ⊢;rw [<- hne] at CT IF ⊢;have c1 := cZ O1 1;simp at c1;have HKD := hZ hkd;clear hu hdup hel hI hci hE hT hW1 B1 O1 hz hez hni hne hkd;go_enter Tryz.func48, Tryz.ntmps48
  go_upto_region 1 with fail
  rw [<- HW1.out];clear HW1;go_wp2_with (first | fail)
  refine IX.out.mono ?_; rintro e w2 ⟨rfl, hb2⟩
  obtain ⟨x, hx⟩ : ∃ x, x = gotM u.imps d.mod := ⟨_, rfl⟩;obtain ⟨q, hq⟩ : ∃ q, (u.imps.findIdx? (isAs d.mod)).isSome = q := ⟨_, rfl⟩;rw [hq, <- hx];obtain ⟨wi, hwi⟩ : ∃ wi, wi = w2.alloc (.cells #[.string x.pkg, .int .i64 x.major, .string x.mod, .string x.asn] 71) := ⟨_, rfl⟩;have Bi : Below w2.heap.size w2 wi := by rw [hwi]; exact below_new (Below.refl _ _) _
  have Oi : wi.heap[w2.heap.size]? = some (.cells #[.string x.pkg, .int .i64 x.major, .string x.mod, .string x.asn] 71 (0, 0)) := by rw [hwi]; exact heap_alloc_new w2 _
  have hli : w2.heap.size < wi.heap.size := by rw [hwi]; simp
  have HBI : Hid (Below W1.heap.size W1 wi) := hZ (below_over hb2 Bi);have HOI : Hid (∀ wx, Below wi.heap.size wi wx -> wx.heap[w2.heap.size]? = some (.cells #[.string x.pkg, .int .i64 x.major, .string x.mod, .string x.asn] 71 (0, 0))) := hZ (fun wx hb => (hb.block _ hli).trans Oi);have HWI := hZ hwi;have HXX := hZ hx;have HQQ := hZ hq;clear hb2 IX c1 hwi Bi Oi hx hq;go_upto_region 2 with fail
  rw [<- HWI.out];clear HWI;cases q with
  | false =>
    have SEAL : Hid (ClOut u env d w (.returned (errV 4)) wi) := hZ (by
      have e0 : u.imps.findIdx? (isAs d.mod) = none := by
        cases e : u.imps.findIdx? (isAs d.mod) with
        | none => rfl
        | some k => have h := HQQ.out; rw [e] at h; cases h
      exact ⟨4, .inl ⟨e0, rfl⟩, rfl, below_over HB1.out HBI.out⟩)
    rw [errV_code11 (by decide)] at SEAL;go_wp2_with fail
    go_ret;exact SEAL.out
  | true =>
  obtain ⟨k, hk⟩ : ∃ k, u.imps.findIdx? (isAs d.mod) = some k := Option.isSome_iff_exists.1 HQQ.out
  have hxk : u.imps[k]? = some x := by
    obtain ⟨y, hy⟩ : ∃ y, u.imps[k]? = some y := ⟨_, List.getElem?_eq_getElem (idx_lt hk)⟩;rw [HXX.out, gotM_at hk hy]; exact hy
  have HK := hZ hk;have HXK := hZ hxk;clear hk hxk;have CT4 := hZ (CT.out wi HBI.out);have X1 := HL1.out wi HBI.out;obtain ⟨y0, y1, y2, y3, y4, y5, y6, y7, y8⟩ := cq9 X1;have y9 := cZ X1 9;simp at y0 y1 y2 y3 y4 y5 y6 y7 y8 y9;clear X1 CT y0 y1 y2;go_wp2_with (first | fail)
  refine CT4.out.mono ?_; rintro e w3 ⟨c, p, l, hep, rfl, hp, hb3⟩
  obtain ⟨Bn, cB, Bs, cT, rfl, -⟩ := hp.parts;obtain ⟨w4, hw4⟩ : ∃ w4, w4 = w3.alloc (.cells #[.int .i64 p.kind, .string p.pkg, .int .i64 p.major, .string p.mod, .string p.name, .slice Bn p.names.length cB, .slice Bs p.subs.length cT] 55) := ⟨_, rfl⟩;have B4 : Below w3.heap.size w3 w4 := by rw [hw4]; exact below_new (Below.refl _ _) _
  have O4 : w4.heap[w3.heap.size]? = some (.cells #[.int .i64 p.kind, .string p.pkg, .int .i64 p.major, .string p.mod, .string p.name, .slice Bn p.names.length cB, .slice Bs p.subs.length cT] 55 (0, 0)) := by rw [hw4]; exact heap_alloc_new w3 _
  have hl4 : w3.heap.size < w4.heap.size := by rw [hw4]; simp
  have HI4 : Hid (Below wi.heap.size wi w4) := hZ (below_over hb3 B4);have HB4 : Hid (Below W1.heap.size W1 w4) := hZ (below_over HBI.out HI4.out);have HO4 : Hid (∀ wx, Below w4.heap.size w4 wx -> wx.heap[w3.heap.size]? = some (.cells #[.int .i64 p.kind, .string p.pkg, .int .i64 p.major, .string p.mod, .string p.name, .slice Bn p.names.length cB, .slice Bs p.subs.length cT] 55 (0, 0))) := hZ (fun wx hb => (hb.block _ hl4).trans O4);have HP : Hid (∀ wx, Below w4.heap.size w4 wx -> TyAt wx [.int .i64 p.kind, .string p.pkg, .int .i64 p.major, .string p.mod, .string p.name, .slice Bn p.names.length cB, .slice Bs p.subs.length cT] p) := hZ (fun wx hb => (hp.free.keep B4).keep hb);have HEP := hZ (NM.out c p hep);have HZ : Hid (c = 0 -> mayT p = true /\ plainT p = true) := hZ (fun e => by subst e; exact ⟨(ep_zero hep).2.2.1, (ep_zero hep).2.2.2⟩);have HW4 := hZ hw4;have IE := hZ (isErr_any c 4 (by decide) w4);clear hep hp hb3 hw4 B4 O4 CT4 y3 y4 y5 y6 y7 y8 y9 NM
  have TELL : Hid (∀ (r : Int) (wx : World), r = codeL u.imps env d c p -> Below w4.heap.size w4 wx -> ClOut u env d w (.returned (errV r)) wx) := hZ (fun r wx h hb =>
    ⟨r, .inr ⟨c, p, HEP.out, by rw [h]; exact codeL_eq HKD.out HZ.out⟩, rfl, below_over HB1.out (below_over HB4.out hb)⟩)
  have CL : Hid (codeL u.imps env d c p = if c = 4 then 4 else match ofI (rowU (gotI env x) d.kind) d.name with
      | none => 9
      | some _ => if c ≠ 0 then c else if fitsC d.kind (gotT (rowU (gotI env x) d.kind) d.name) p = true then 0 else 12) := hZ (by
    unfold codeL
    rw [HK.out];dsimp only
    by_cases h4 : c = 4
    · rw [if_pos h4, if_pos h4]
    · rw [if_neg h4, if_neg h4, HXK.out]
      rfl)
  clear HK HXK HEP HZ HKD;go_upto_region 5 with fail
  rw [<- HW4.out];clear HW4;go_wp2_with (first | fail)
  refine IE.out.mono ?_; rintro e w5 ⟨rfl, rfl⟩
  by_cases h4 : c = 4
  · have RV := hZ (TELL.out c _ (by rw [CL.out, if_pos h4]; exact h4) (Below.refl _ _))
    have b4 : (c == 4) = true := by simpa using h4
    clear CL h4;go_wp2_with fail
    go_ret;exact RV.out
  have b4 : (c == 4) = false := by simpa using h4
  have X2 := HOI.out w5 HI4.out;obtain ⟨x0, x1, x2, x3⟩ := cq4 X2;simp at x0 x1 x2 x3;have FI := hZ (IF.out x w5 HB4.out);have H4 := hZ h4;clear X2 h4 IF IE;go_wp2_with (first | fail)
  refine FI.out.mono ?_; rintro e w6 ⟨l, rfl, hL, hb6⟩
  obtain ⟨f, hf⟩ : ∃ f, f = gotI env x := ⟨_, rfl⟩;rw [<- hf] at hL;obtain ⟨At, ct, Av, cv, rfl, -⟩ := hL W1 (Below.refl _ _);obtain ⟨qf, hqf⟩ : ∃ qf, (findI env x.pkg x.major x.mod).isSome = qf := ⟨_, rfl⟩;rw [hqf];obtain ⟨w7, hw7⟩ : ∃ w7, w7 = w6.alloc (.cells #[.string f.pkg, .int .i64 f.major, .string f.mod, .slice At f.types.length ct, .slice Av f.vals.length cv] 50) := ⟨_, rfl⟩;have B7 : Below w6.heap.size w6 w7 := by rw [hw7]; exact below_new (Below.refl _ _) _
  have O7 : w7.heap[w6.heap.size]? = some (.cells #[.string f.pkg, .int .i64 f.major, .string f.mod, .slice At f.types.length ct, .slice Av f.vals.length cv] 50 (0, 0)) := by rw [hw7]; exact heap_alloc_new w6 _
  have HB57 : Hid (Below w5.heap.size w5 w7) := hZ (below_over hb6 B7);have HB7 : Hid (Below W1.heap.size W1 w7) := hZ (below_over HB4.out HB57.out);have ND := hZ (named11_any f At ct Av cv d.kind d.mod d.name d.typ An As cA cS W1 w7 (hL W1 (Below.refl _ _)) HB7.out);have HF := hZ hf;have HW7 := hZ hw7;have X1 := HL1.out w7 HB7.out;obtain ⟨y0, y1, y2, y3, y4, y5, y6, y7, y8⟩ := cq9 X1;have y9 := cZ X1 9;obtain ⟨z0, z1, z2, z3, z4⟩ := cq5 O7;simp at y0 y1 y2 y3 y4 y5 y6 y7 y8 y9 z0 z1 z2 z3 z4;clear X1 O7 hL hqf hb6 hw7 B7 hf FI x0 x1 x2 x3;go_upto_region 8 with fail
  rw [<- HW7.out];clear HW7;go_wp2_with (first | fail)
  refine ND.out.mono ?_; rintro e w8 ⟨l, rfl, hL, hb8⟩
  obtain ⟨y, hy⟩ : ∃ y, y = gotT (rowU f d.kind) d.name := ⟨_, rfl⟩;rw [<- hy] at hL;obtain ⟨Dn, cD, Ds, cE, rfl, -⟩ := (hL W1 (Below.refl _ _)).parts;obtain ⟨qn, hqn⟩ : ∃ qn, (ofI (rowU f d.kind) d.name).isSome = qn := ⟨_, rfl⟩;rw [hqn];obtain ⟨w9, hw9⟩ : ∃ w9, w9 = w8.alloc (.cells #[.int .i64 y.kind, .string y.pkg, .int .i64 y.major, .string y.mod, .string y.name, .slice Dn y.names.length cD, .slice Ds y.subs.length cE] 55) := ⟨_, rfl⟩;have B9 : Below w8.heap.size w8 w9 := by rw [hw9]; exact below_new (Below.refl _ _) _
  have O9 : w9.heap[w8.heap.size]? = some (.cells #[.int .i64 y.kind, .string y.pkg, .int .i64 y.major, .string y.mod, .string y.name, .slice Dn y.names.length cD, .slice Ds y.subs.length cE] 55 (0, 0)) := by rw [hw9]; exact heap_alloc_new w8 _
  have HB59 : Hid (Below w5.heap.size w5 w9) := hZ (below_over HB57.out (below_over hb8 B9));have HB9 : Hid (Below W1.heap.size W1 w9) := hZ (below_over HB4.out HB59.out);have HYT := hZ (hL w9 HB9.out);have HW9 := hZ hw9;have HO9 := hZ O9;rw [<- HF.out] at CL;have HQN := hZ hqn;have HYY := hZ hy;clear hL hb8 hw9 B9 ND hqn hy y0 y1 y2 y3 y4 y5 y6 y7 y8 y9 z0 z1 z2 z3 z4 O9;go_upto_region 9 with fail
  rw [<- HW9.out];clear HW9;cases qn with
  | false =>
    have hno : ofI (rowU f d.kind) d.name = none := by
      cases e : ofI (rowU f d.kind) d.name with
      | none => rfl
      | some k => have h := HQN.out; rw [e] at h; cases h
    have RV := hZ (TELL.out 9 w9 (by rw [CL.out, if_neg H4.out, hno]) HB59.out);rw [errV_code11 (by decide)] at RV;clear CL hno;go_wp2_with fail
    go_ret;exact RV.out
  | true =>
  obtain ⟨n, hn⟩ : ∃ n, ofI (rowU f d.kind) d.name = some n := Option.isSome_iff_exists.1 HQN.out;have CL2 : Hid (codeL u.imps env d c p = if c ≠ 0 then c else if fitsC d.kind y p = true then 0 else 12) := hZ (by rw [CL.out, if_neg H4.out, hn, HYY.out]);clear CL hn;by_cases h0 : c = 0
  rotate_left
  · have RV := hZ (TELL.out c w9 (by rw [CL2.out, if_pos h0]) HB59.out)
    rw [errV_code11 h0] at RV ⊢;clear CL2 h0;go_wp2_with fail
    go_ret;exact RV.out
  subst h0;rw [errV_zero11];have FT := hZ (fits11_any d.kind d.mod d.name d.typ y p An As cA cS [.int .i64 y.kind, .string y.pkg, .int .i64 y.major, .string y.mod, .string y.name, .slice Dn y.names.length cD, .slice Ds y.subs.length cE] [.int .i64 p.kind, .string p.pkg, .int .i64 p.major, .string p.mod, .string p.name, .slice Bn p.names.length cB, .slice Bs p.subs.length cT] w9 HYT.out (HP.out w9 HB59.out));obtain ⟨v, hv⟩ : ∃ v, fitsC d.kind y p = v := ⟨_, rfl⟩;rw [hv] at FT;have CL3 : Hid (codeL u.imps env d 0 p = if v = true then 0 else 12) := hZ (by rw [CL2.out, if_neg (by decide), hv]);have X1 := HL1.out w9 HB9.out;have X3 := HO4.out w9 HB59.out;have X4 := HO9.out;obtain ⟨y0, y1, y2, y3, y4, y5, y6, y7, y8⟩ := cq9 X1;have y9 := cZ X1 9;obtain ⟨z0, z1, z2, z3, z4, z5, z6⟩ := cq7 X3;obtain ⟨x0, x1, x2, x3, x4, x5, x6⟩ := cq7 X4;simp at y0 y1 y2 y3 y4 y5 y6 y7 y8 y9 z0 z1 z2 z3 z4 z5 z6 x0 x1 x2 x3 x4 x5 x6;clear X1 X3 X4 CL2 hv;go_wp2_with (first | fail)
  refine FT.out.mono ?_; rintro e w10 ⟨rfl, hb10⟩
  have HBX : Hid (Below w5.heap.size w5 w10) := hZ (below_over HB59.out hb10);clear hb10 FT y0 y1 y2 y3 y4 y5 y6 y7 y8 y9 z0 z1 z2 z3 z4 z5 z6 x0 x1 x2 x3 x4 x5 x6;cases v with
  | true =>
    have RV := hZ (TELL.out 0 w10 (by rw [CL3.out]; rfl) HBX.out);rw [errV_zero11] at RV;go_wp2_with fail
    go_ret;exact RV.out
  | false =>
    have RV := hZ (TELL.out 12 w10 (by rw [CL3.out]; rfl) HBX.out);rw [errV_code11 (by decide)] at RV;go_wp2_with fail
    go_ret;exact RV.out
end Go.Proofs.YteecgiebimdbhaaGreatDoor
namespace Go.Proofs.YteecgiebimdbhaaGreatDoor
open Go.RowKit
open Go.Sort Go.Maps
open M
theorem as_anyU (yp yd ya : ByteArray) (ym : Int) (w : World) : Calls Tryz.prog 47 #[.agg #[.string yp, .int .i64 ym, .string yd, .string ya]] w fun e w' => e = .returned (.string ya) /\ Below w.heap.size w w' := by
 go_enter Tryz.func47, Tryz.ntmps47
 go_wp2_with fail
 go_ret
 exact ⟨rfl, below_new (Below.refl _ _) _⟩
theorem alikeI_anyU (yp yd ya : ByteArray) (ym : Int) (xp xd xa : ByteArray) (xm : Int) (nb xb : Nat) (w : World) (hn : w.cell? ⟨nb, 0, none⟩ = some (.func (.func 47) #[] #[])) (hx : w.heap[xb]? = some (.cells #[.string xp, .int .i64 xm, .string xd, .string xa] 71 (0, 0))) :
  Calls Tryz.prog 85 #[.agg #[.string yp, .int .i64 ym, .string yd, .string ya], .pointer (some ⟨nb, 0, none⟩), .pointer (some ⟨xb, 0, none⟩)] w fun e w' => e = .returned (.bool (decide (ya = xa))) /\ Below w.heap.size w w' := by
 obtain ⟨wb, hwb⟩ : ∃ wb, wb = w.alloc (.cells #[.string yp, .int .i64 ym, .string yd, .string ya] 71) := ⟨_, rfl⟩
 have B0 : Below w.heap.size w wb := by rw [hwb]; exact below_new (Below.refl _ _) _
 have X0 : wb.heap[w.heap.size]? = some (.cells #[.string yp, .int .i64 ym, .string yd, .string ya] 71 (0, 0)) := by rw [hwb]; exact heap_alloc_new w _
 have X1 := (B0.block _ (Array.getElem?_eq_some_iff.1 hx).1).trans hx
 have N1 := (B0.cell (p := ⟨nb, 0, none⟩) (World.block_lt_of_cell? _ _ hn)).trans hn
 have cP : ∀ dd os, Calls Tryz.prog 47 #[.agg #[.string yp, .int .i64 ym, .string yd, .string ya]] (Sort.grow (redrawn wb dd) os) fun e w'' => e = .returned (.string ya) /\ ∃ pp : Regrown, w'' = Sort.grow (redrawn wb pp.d) pp.os := fun dd os => Calls.regrown_of (as_anyU yp yd ya ym _)
 have cQ : ∀ dd os, Calls Tryz.prog 47 #[.agg #[.string xp, .int .i64 xm, .string xd, .string xa]] (Sort.grow (redrawn wb dd) os) fun e w'' => e = .returned (.string xa) /\ ∃ pp : Regrown, w'' = Sort.grow (redrawn wb pp.d) pp.os := fun dd os => Calls.regrown_of (as_anyU xp xd xa xm _)
 have py0 := cell_regrown (cZ X0 0)
 have py1 := cell_regrown (cZ X0 1)
 have py2 := cell_regrown (cZ X0 2)
 have py3 := cell_regrown (cZ X0 3)
 have px0 := cell_regrown (cZ X1 0)
 have px1 := cell_regrown (cZ X1 1)
 have px2 := cell_regrown (cZ X1 2)
 have px3 := cell_regrown (cZ X1 3)
 simp at py0 py1 py2 py3 px0 px1 px2 px3
 have pn := cell_regrown N1
 have HB0 := hZ B0
 have HWB := hZ hwb
 have hq := str_eq ya xa
 clear hn hx hwb B0 X0 X1 N1
 go_enter Tryz.func85, Tryz.ntmps85
 go_upto_region 1 with fail
 rw [<- HWB.out]
 refine wp_region_quiet_below (by kernel_rfl) (by kernel_rfl) ?_
 repeat (any_goals (first | go_big_quiet_step (first | (with_reducible exact cP _ _) | (with_reducible exact cQ _ _)) | quiet_step (first | (with_reducible exact cP _ _) | (with_reducible exact cQ _ _))))
 refine wpQuiet_nil ?_
 intro _ hw'
 obtain ⟨⟨dq, osq⟩, hw''⟩ := hw'
 subst hw''
 have HBQ := hZ (below_over HB0.out (below_regrown wb dq osq))
 go_wp2_with fail
 go_ret
 exact ⟨by first | rfl | exact ret_bool hq, HBQ.out⟩
theorem indexDupI_anyU (A : Option Addr) (c n : Nat) (xs : List Im) (x : Im)  (nb xb : Nat) (w : World) (hlen : xs.length = n) (hz : n <= 9223372036854775807) (hS : RowIn imR w A xs)
  (hn : w.cell? ⟨nb, 0, none⟩ = some (.func (.func 47) #[] #[])) (hx : w.heap[xb]? = some (.cells #[.string x.pkg, .int .i64 x.major, .string x.mod, .string x.asn] 71 (0, 0))) :
  Calls Tryz.prog 95 #[.slice A n c, .func (.func 85) #[] #[.pointer (some ⟨nb, 0, none⟩), .pointer (some ⟨xb, 0, none⟩)]] w fun e w' => ∃ r : Int, e = .returned (.int .i64 r) /\ decide (0 <= r) = xs.any (fun y => decide (y.asn = x.asn)) /\ Below w.heap.size w w' := by
 have HS := hZ hS
 have HN := hZ hlen
 have HFN := hZ hn
 have HX := hZ hx
 clear hS hlen hn hx
 go_enter Tryz.func95, Tryz.ntmps95
 go_wp2_with fail
 go_loopw [8] (fun i wr => ∃ k : Nat, k <= n /\ i = .int .i64 k /\ Hid ((xs.take k).any (fun y => decide (y.asn = x.asn)) = false) /\ Hid (Below w.heap.size w wr)) (fun i _ => n - (intOf i).toNat)
 case atStart => exact ⟨0, by omega, rfl, hZ (by simp), hZ (Below.refl _ _)⟩
 case round =>
  obtain ⟨k, hk, rfl, HP, HB⟩ := hrel;obtain ⟨wo, rfl⟩ : ∃ wo : World, wo = wr := ⟨_, rfl⟩;by_cases hlt : k < n
  ·obtain ⟨y, hy⟩ : ∃ y, xs[k]? = some y := ⟨_, List.getElem?_eq_getElem (by rw [HN.out]; exact hlt)⟩
   obtain ⟨g, o, lv, rfl, hg, hcc, rfl, -⟩ := (HS.out.below HB.out) k y hy;have a0 := hcc 0 _ rfl;have a1 := hcc 1 _ rfl;have a2 := hcc 2 _ rfl;have a3 := hcc 3 _ rfl;have b0 : wo.cell? ⟨g, o + k * 4, none⟩ = some (.string y.pkg) := a0;have b1 : wo.cell? ⟨g, o + k * 4 + 1, none⟩ = some (.int .i64 y.major) := a1;have b2 : wo.cell? ⟨g, o + k * 4 + 2, none⟩ = some (.string y.mod) := a2;have b3 : wo.cell? ⟨g, o + k * 4 + 3, none⟩ = some (.string y.asn) := a3;have IM := hZ (alikeI_anyU y.pkg y.mod y.asn y.major x.pkg x.mod x.asn x.major nb xb wo ((HB.out.cell (p := ⟨nb, 0, none⟩) (World.block_lt_of_cell? _ _ HFN.out)).trans HFN.out) ((HB.out.block _ (Array.getElem?_eq_some_iff.1 HX.out).1).trans HX.out));have HY := hZ hy;clear hy hcc hg a0 a1 a2 a3;obtain ⟨q, hq⟩ : ∃ q, decide (y.asn = x.asn) = q := ⟨_, rfl⟩;rw [hq] at IM;have HQ := hZ hq;clear hq;cases q with
   | true =>
    have R : Hid (decide (0 <= (k : Int)) = xs.any (fun y => decide (y.asn = x.asn))) := hZ (by
     have : xs.any (fun y => decide (y.asn = x.asn)) = true := List.any_eq_true.2 ⟨y, List.mem_of_getElem? HY.out, HQ.out⟩
     rw [this]; simp)
    go_wp2_with fail
    refine IM.out.mono ?_; rintro e w2 ⟨rfl, hb2⟩
    have HB2 := hZ (below_over HB.out hb2);clear b0 b1 b2 b3 hb2;go_wp2_with fail
    go_ret;exact ⟨_, rfl, R.out, HB2.out⟩
   | false =>
    go_wp2_with fail
    refine IM.out.mono ?_; rintro e w2 ⟨rfl, hb2⟩
    have HB2 := hZ (below_over HB.out hb2);clear b0 b1 b2 b3 hb2;go_wp2_with fail
    go_roundw
    case rel => exact ⟨k + 1, by omega, by go_num, hZ (by rw [any_snoc _ _ _ _ HY.out, HP.out, HQ.out]; rfl), HB2⟩
    case measure => simp [intOf]; omega
  ·have R : Hid (decide (0 <= (-1 : Int)) = xs.any (fun y => decide (y.asn = x.asn))) := hZ (by
    have h := HP.out;rw [List.take_of_length_le (by rw [HN.out]; omega)] at h;rw [h]; rfl)
   go_wp2_with fail
   go_ret;exact ⟨_, rfl, R.out, HB.out⟩
theorem containsDupI_anyU (A : Option Addr) (c n : Nat) (xs : List Im) (x : Im)  (nb xb : Nat) (w : World) (hlen : xs.length = n) (hz : n <= 9223372036854775807) (hS : RowIn imR w A xs)
  (hn : w.cell? ⟨nb, 0, none⟩ = some (.func (.func 47) #[] #[])) (hx : w.heap[xb]? = some (.cells #[.string x.pkg, .int .i64 x.major, .string x.mod, .string x.asn] 71 (0, 0))) :
  Calls Tryz.prog 58 #[.slice A n c, .func (.func 85) #[] #[.pointer (some ⟨nb, 0, none⟩), .pointer (some ⟨xb, 0, none⟩)]] w fun e w' => e = .returned (.bool (xs.any (fun y => decide (y.asn = x.asn)))) /\ Below w.heap.size w w' := by
 have HC := hZ (indexDupI_anyU A c n xs x  nb xb w hlen hz hS hn hx)
 clear hlen hS hn hx
 go_enter Tryz.func58, Tryz.ntmps58
 go_wp2_with fail
 refine HC.out.mono ?_; rintro e w2 ⟨r, rfl, hr, hb2⟩
 have HR := hZ hr
 clear hr HC
 go_wp2_with fail
 go_ret
 exact ⟨ret_bool HR.out.symm, hb2⟩
theorem againI_anyU (A : Option Addr) (c n : Nat) (xs : List Im) (w : World) (hlen : xs.length = n) (hz : n <= 1000000) (hc : n <= c) (hS : RowIn imR w A xs) :
  Calls Tryz.prog 46 #[.slice A n c, .func (.func 47) #[] #[]] w fun e w' => e = .returned (.int .i64 (fstN (dupB (·.asn) xs) n)) /\ Below w.heap.size w w' := by
 obtain ⟨wb, hwb⟩ : ∃ wb, wb = w.alloc (.cells #[.func (.func 47) #[] #[]] 98) := ⟨_, rfl⟩
 have B0 : Below w.heap.size w wb := by rw [hwb]; exact below_new (Below.refl _ _) _
 have X0 : wb.heap[w.heap.size]? = some (.cells #[.func (.func 47) #[] #[]] 98 (0, 0)) := by rw [hwb]; exact heap_alloc_new w _
 have hbs : w.heap.size < wb.heap.size := by rw [hwb]; simp
 have HS := hZ (hS.below B0)
 have HN := hZ hlen
 have HX0 := hZ X0
 have HB0 := hZ B0
 have HWB := hZ hwb
 obtain ⟨V, hV⟩ : ∃ V, V = fstN (dupB (·.asn) xs) n := ⟨_, rfl⟩
 have HV := hZ hV
 rw [<- hV]
 clear hS hlen B0 X0 hwb hV
 go_enter Tryz.func46, Tryz.ntmps46
 go_upto_region 1 with fail
 rw [<- HWB.out]
 go_wp2_with fail
 go_loopw [10] (fun i wr => ∃ k : Nat, k <= n /\ i = .int .i64 k /\ Hid (∀ i, i < k -> dupB (·.asn) xs i = false) /\ Hid (Below wb.heap.size wb wr)) (fun i _ => n - (intOf i).toNat)
 case atStart => exact ⟨0, by omega, rfl, hZ (fun i h => by omega), hZ (Below.refl _ _)⟩
 case round =>
  obtain ⟨k, hk, rfl, HQ, HB⟩ := hrel;obtain ⟨wo, rfl⟩ : ∃ wo : World, wo = wr := ⟨_, rfl⟩;by_cases hlt : k < n
  ·obtain ⟨y, hy⟩ : ∃ y, xs[k]? = some y := ⟨_, List.getElem?_eq_getElem (by rw [HN.out]; exact hlt)⟩
   obtain ⟨g, o, lv, rfl, hg, hcc, rfl, -⟩ := (HS.out.below HB.out) k y hy;have a0 := hcc 0 _ rfl;have a1 := hcc 1 _ rfl;have a2 := hcc 2 _ rfl;have a3 := hcc 3 _ rfl;have b0 : wo.cell? ⟨g, o + k * 4, none⟩ = some (.string y.pkg) := a0;have b1 : wo.cell? ⟨g, o + k * 4 + 1, none⟩ = some (.int .i64 y.major) := a1;have b2 : wo.cell? ⟨g, o + k * 4 + 2, none⟩ = some (.string y.mod) := a2;have b3 : wo.cell? ⟨g, o + k * 4 + 3, none⟩ = some (.string y.asn) := a3;obtain ⟨w3, hw3⟩ : ∃ w3, w3 = wo.alloc (.cells #[.string y.pkg, .int .i64 y.major, .string y.mod, .string y.asn] 71) := ⟨_, rfl⟩;have B3 : Below wo.heap.size wo w3 := by rw [hw3]; exact below_new (Below.refl _ _) _
   have X3 : w3.heap[wo.heap.size]? = some (.cells #[.string y.pkg, .int .i64 y.major, .string y.mod, .string y.asn] 71 (0, 0)) := by rw [hw3]; exact heap_alloc_new wo _
   have B03 := below_over HB.out B3
   have hpre : RowIn imR w3 (some ⟨g, o, none⟩) (xs.take k) := fun i x hx => (HS.out.below B03) i x (by
    rw [List.getElem?_take] at hx;split at hx
    ·exact hx
    ·cases hx)
   have CT := hZ (containsDupI_anyU (some ⟨g, o, none⟩) c k (xs.take k) y  w.heap.size wo.heap.size w3 (by rw [List.length_take, HN.out]; omega) (by omega) hpre (cZ ((B03.block _ hbs).trans HX0.out) 0) X3);have HB3 := hZ B03;have HW3 := hZ hw3;have HY := hZ hy;obtain ⟨q, hq⟩ : ∃ q, (xs.take k).any (fun z => decide (z.asn = y.asn)) = q := ⟨_, rfl⟩;rw [hq] at CT;have HD : Hid (dupB (·.asn) xs k = q) := hZ (by rw [dupB_some hy]; exact hq);clear hy hq B3 X3 B03 hpre hw3 hcc hg a0 a1 a2 a3;have hkc : k <= c := by omega
   cases q with
   | true =>
    have RV : V = (k : Int) := by rw [HV.out]; exact fstN_yes hlt HQ.out HD.out
    subst RV;go_upto_region 4 with fail
    rw [<- HW3.out];clear b0 b1 b2 b3;go_wp2_with fail
    refine CT.out.mono ?_; rintro e w4 ⟨rfl, hb4⟩
    have HB4 := hZ (below_over HB0.out (below_over HB3.out hb4));clear hb4;go_wp2_with fail
    go_ret;exact ⟨rfl, HB4.out⟩
   | false =>
    go_upto_region 4 with fail
    rw [<- HW3.out];clear b0 b1 b2 b3;go_wp2_with fail
    refine CT.out.mono ?_; rintro e w4 ⟨rfl, hb4⟩
    have HB4 := hZ (below_over HB3.out hb4);clear hb4;go_wp2_with fail
    go_roundw
    case rel => exact ⟨k + 1, by omega, by go_num, hZ (fun i hi => by
     by_cases e : i = k
     ·rw [e]; exact HD.out
     ·exact HQ.out i (by omega)), HB4⟩
    case measure => simp [intOf]; omega
  ·have RV : V = -1 := by rw [HV.out]; exact fstN_no (fun i hi => HQ.out i (by omega))
   subst RV;have FB := hZ (below_over HB0.out HB.out);go_wp2_with fail
   go_ret;exact ⟨rfl, FB.out⟩
end Go.Proofs.YteecgiebimdbhaaGreatDoor
namespace Go.Proofs.YteecgiebimdbhaaGreatDoor
open Go Go.RowKit Go.Shelf
open Go.Sort Go.Maps
open M
theorem fst_cases (p : Nat -> Bool) : ∀ n, (∀ i, i < n -> p i = false) \/ ∃ k, k < n /\ p k = true /\ ∀ i, i < k -> p i = false
  | 0 => .inl fun i h => by omega
  | n + 1 => by
    rcases fst_cases p n with h | ⟨k, h1, h2, h3⟩
    · cases e : p n with
      | false =>
        refine .inl fun i hi => ?_
        by_cases hn : i = n
        · rw [hn]; exact e
        · exact h i (by omega)
      | true => exact .inr ⟨n, by omega, e, h⟩
    · exact .inr ⟨k, by omega, h2, h3⟩
def EvU (c j : Int) (v : Value) (w : World) : Prop :=
  (c = 0 /\ v = .nilIface) \/ (c ≠ 0 /\ j = -1 /\ v = .iface 32 (.int .i64 c)) \/ (∃ g i b : Nat, c ≠ 0 /\ j = i /\ c = b /\ v = .iface 89 (.pointer (some ⟨g, 0, none⟩)) /\ SpC g i b w)
theorem ep_nat11 {m : Mo} {pkg : ByteArray} {major : Int} {env : List If} {t u : Ty} {c : Int} (h : EpIs m pkg major env t c u) : ∃ b : Nat, c = b := by
  rcases (ep_code h).1 with rfl | rfl | rfl | rfl | rfl
  · exact ⟨0, rfl⟩
  · exact ⟨1, rfl⟩
  · exact ⟨3, rfl⟩
  · exact ⟨4, rfl⟩
  · exact ⟨9, rfl⟩
theorem ln_nat {u : Us} {env : List If} {d : Ln} {c : Int} (h : LnIs u env d c) : ∃ b : Nat, c = b := by
  rcases h with ⟨-, rfl⟩ | ⟨e, t, h, rfl⟩
  · exact ⟨4, rfl⟩
  obtain ⟨b, rfl⟩ := ep_nat11 h;unfold lineC
  repeat' split
  all_goals first
    | exact ⟨4, rfl⟩
    | exact ⟨9, rfl⟩
    | exact ⟨12, rfl⟩
    | exact ⟨0, rfl⟩
    | exact ⟨b, rfl⟩
def CkU (u : Us) (env : List If) (w : World) (e : Ending) (w' : World) : Prop := ∃ (c a : Int) (v : Value), UkIs u env c a /\ e = .returned v /\ EvU c a v w' /\ Below w.heap.size w w'
theorem sp_new {w : World} {i : Int} {b : Nat} : SpC w.heap.size i b (w.alloc (.cells #[.int .i64 i, .iface 32 (.int .i64 b)] 94)) := SpAt.cells (show SpAt w.heap.size i b _ from heap_alloc_new w _)
theorem mayU_kind {u : Us} (h : mayU u = true) {i : Nat} {d : Ln} (hd : u.lines[i]? = some d) : d.kind = 1 \/ d.kind = 2 := by
  obtain ⟨-, -, -, h4⟩ := mayU_parts h;obtain ⟨-, -, h⟩ := mayLn_sorts (h4 d (List.mem_of_getElem? hd));exact h.imp (·.1) (·.1)
theorem ccheck11_of (u : Us) (env : List If) (l : List Value) (Ae : Option Addr) (ce : Nat) (w : World) (hU : UsAt w l u) (hC : CapU l u) (hE : RowIn ifR w Ae env) (hel : env.length <= 9223372036854775807) (hL : ∀ d, d ∈ u.lines -> Lf d.typ) :
    Calls Tryz.prog 20 #[.agg l.toArray, .slice Ae env.length ce] w (CkU u env w) := by
  have HU := hZ hU;obtain ⟨Ai, ci, Ad, cd, rfl, z2, z3, hI, hD⟩ := hU;have hci := (hC Ai ci Ad cd rfl).1;obtain ⟨W1, hW1⟩ : ∃ W1, W1 = w.alloc (.cells #[.slice Ai u.imps.length ci, .slice Ad u.lines.length cd] 25) := ⟨_, rfl⟩;have B1 : Below w.heap.size w W1 := by rw [hW1]; exact below_new (Below.refl _ _) _
  have O1 : W1.heap[w.heap.size]? = some (.cells #[.slice Ai u.imps.length ci, .slice Ad u.lines.length cd] 25 (0, 0)) := by rw [hW1]; exact heap_alloc_new w _
  have hl1 : w.heap.size < W1.heap.size := by rw [hW1]; simp
  have MC := hZ (cmay11_any u [.slice Ai u.imps.length ci, .slice Ad u.lines.length cd] W1 (HU.out.below B1));have HX : Hid (∀ wx, Below W1.heap.size W1 wx -> wx.heap[w.heap.size]? = some (.cells #[.slice Ai u.imps.length ci, .slice Ad u.lines.length cd] 25 (0, 0))) := hZ (fun wx hb => (hb.block _ hl1).trans O1);have HI : Hid (∀ wx, Below W1.heap.size W1 wx -> RowIn imR wx Ai u.imps) := hZ (fun wx hb => hI.below (below_over B1 hb));have HD : Hid (∀ wx, Below W1.heap.size W1 wx -> RowIn lnR wx Ad u.lines) := hZ (fun wx hb => hD.below (below_over B1 hb));have HE : Hid (∀ wx, Below W1.heap.size W1 wx -> RowIn ifR wx Ae env) := hZ (fun wx hb => hE.below (below_over B1 hb));have HB1 := hZ B1;have HW1 := hZ hW1;have HCI := hZ hci;obtain ⟨ni, hni⟩ : ∃ ni, ni = u.imps.length := ⟨_, rfl⟩;obtain ⟨nd, hnd⟩ : ∃ nd, nd = u.lines.length := ⟨_, rfl⟩;obtain ⟨ne, hne⟩ : ∃ ne, ne = env.length := ⟨_, rfl⟩;rw [<- hni, <- hnd] at O1 MC HX HW1 ⊢;rw [<- hne];rw [<- hne] at hel;rw [<- hnd] at z3;have HNI := hZ hni;have HND := hZ hnd;have HNE := hZ hne;obtain ⟨x0, x1⟩ := cq2 O1;simp at x0 x1;clear hC hI hD hE B1 O1 hW1 hci hni hnd hne HU;have hn0 : nd <= 9223372036854775807 := z3;go_enter Tryz.func20, Tryz.ntmps20
  go_upto_region 1 with fail
  rw [<- HW1.out];clear HW1;go_wp2_with (first | fail)
  refine MC.out.mono ?_; rintro e w2 ⟨rfl, hb2⟩
  have HB2 := hZ hb2;clear hb2 MC x0 x1;by_cases hm : mayU u = true
  rotate_left
  · have SEAL : Hid (CkU u env w (.returned (.iface 32 (.int .i64 1))) w2) := hZ ⟨1, -1, _, .inl ⟨fun h => hm h.1, rfl, rfl⟩, rfl, .inr (.inl ⟨by decide, rfl, rfl⟩), below_over HB1.out HB2.out⟩
    have hm' : mayU u = false := by simpa using hm
    rw [hm'];clear hm hm';go_wp2_with fail
    go_ret;exact SEAL.out
  rw [hm];by_cases h100 : ne <= 100
  rotate_left
  · have SEAL : Hid (CkU u env w (.returned (.iface 32 (.int .i64 1))) w2) := hZ ⟨1, -1, _, .inl ⟨fun h => h100 (by rw [HNE.out]; exact h.2), rfl, rfl⟩, rfl, .inr (.inl ⟨by decide, rfl, rfl⟩), below_over HB1.out HB2.out⟩
    have e1 : (100 : Int) < ne := by omega
    clear hm h100;go_wp2_with fail
    go_ret;exact SEAL.out
  have e1 : ¬ (100 : Int) < ne := by omega
  have hmp := mayU_parts hm;have AG0 := againI_anyU Ai ci ni u.imps w2 HNI.out.symm (by have := hmp.1; have := HNI.out; omega) (by rw [HNI.out]; exact HCI.out) (HI.out w2 HB2.out);have AG := hZ AG0;have HM := hZ hm;have H100 : Hid (env.length <= 100) := hZ (by rw [<- HNE.out]; exact h100);have x0 := cZ (HX.out w2 HB2.out) 0;simp at x0;clear AG0 hmp hm;go_wp2_with (first | fail)
  refine AG.out.mono ?_; rintro e w3 ⟨rfl, hb3⟩
  have HB3 := hZ (below_over HB2.out hb3);clear hb3 AG x0;rcases fst_cases (dupB (·.asn) u.imps) ni with hno | ⟨k, hk1, hk2, hk3⟩
  rotate_left
  · rw [fstN_yes hk1 hk3 hk2]
    have SEAL : Hid (CkU u env w (.returned (.iface 89 (.pointer (some ⟨w3.heap.size, 0, none⟩)))) (w3.alloc (.cells #[.int .i64 k, .iface 32 (.int .i64 5)] 94))) := hZ
      ⟨5, k, _, .inr ⟨⟨HM.out, H100.out⟩, .inl ⟨k, by rw [<- HNI.out]; exact hk1, hk2, hk3, rfl, rfl⟩⟩, rfl, .inr (.inr ⟨w3.heap.size, k, 5, by decide, rfl, rfl, rfl, sp_new⟩), below_over HB1.out (below_new HB3.out _)⟩
    have g0 : (0 : Int) <= k := by omega
    clear hk1 hk2 hk3;go_wp2_with fail
    go_ret;exact SEAL.out
  rw [fstN_no hno];have HNO : Hid (∀ i, i < u.imps.length -> dupB (·.asn) u.imps i = false) := hZ (by rw [<- HNI.out]; exact hno);have x1 := cZ (HX.out w3 HB3.out) 1;simp at x1;clear hno;go_wp2_with (first | fail)
  clear x1;go_loopw [31] (fun iv wr => ∃ j : Nat, j <= nd /\ iv = .int .i64 j /\ Hid (∀ (i : Nat) (x : Ln), i < j -> u.lines[i]? = some x -> LnIs u env x 0) /\ Hid (Below W1.heap.size W1 wr)) (fun iv _ => nd - (intOf iv).toNat)
  case atStart => exact ⟨0, by omega, rfl, hZ (fun i x h => by omega), HB3⟩
  case round =>
    obtain ⟨j, hj, rfl, HQ, HB⟩ := hrel;obtain ⟨wo, rfl⟩ : ∃ wo : World, wo = wr := ⟨_, rfl⟩;by_cases hlt : j < nd
    · obtain ⟨x, hx⟩ : ∃ x, u.lines[j]? = some x := ⟨_, List.getElem?_eq_getElem (by rw [<- HND.out]; exact hlt)⟩
      obtain ⟨g, o, v0, v1, v2, v3, v4, v5, v6, rfl, hg, a0, am, a1, u0, u1, u2, u3, u4, u5, u6, us, zm, zs⟩ := (HD.out wo HB.out).ln hx;obtain ⟨An, cA, As, cS, ev, -⟩ := us.parts;simp only [List.cons.injEq, and_true] at ev;obtain ⟨rfl, rfl, rfl, rfl, rfl, rfl, rfl⟩ := ev;obtain ⟨w4, hw4⟩ : ∃ w4, w4 = wo.alloc (.cells #[.int .i64 x.kind, .string x.mod, .string x.name, .int .i64 x.typ.kind, .string x.typ.pkg, .int .i64 x.typ.major, .string x.typ.mod, .string x.typ.name, .slice An x.typ.names.length cA, .slice As x.typ.subs.length cS] 60) := ⟨_, rfl⟩;have B4 : Below wo.heap.size wo w4 := by rw [hw4]; exact below_new (Below.refl _ _) _
      have O4 : w4.heap[wo.heap.size]? = some (.cells #[.int .i64 x.kind, .string x.mod, .string x.name, .int .i64 x.typ.kind, .string x.typ.pkg, .int .i64 x.typ.major, .string x.typ.mod, .string x.typ.name, .slice An x.typ.names.length cA, .slice As x.typ.subs.length cS] 60 (0, 0)) := by rw [hw4]; exact heap_alloc_new wo _
      have HB4 : Hid (Below W1.heap.size W1 w4) := hZ (below_over HB.out B4);have CL0 := checkLine_of u env x An As cA cS Ai ci Ae ce w4 HM.out HNO.out H100.out (mayU_kind HM.out hx) (HI.out w4 HB4.out) HCI.out (HE.out w4 HB4.out) (us.keep B4) (hL x (List.mem_of_getElem? hx));rw [<- HNI.out, <- HNE.out] at CL0;have CL := hZ CL0;have HXJ := hZ hx;have HW4 := hZ hw4;have x0 := cZ (HX.out w4 HB4.out) 0;obtain ⟨p0, p1, p2, p3, p4, p5, p6, p7, p8⟩ := cq9 O4;have p9 := cZ O4 9;simp at x0 p0 p1 p2 p3 p4 p5 p6 p7 p8 p9;have hj1 : (j : Int) < nd := by omega
      have hj0 : (0 : Int) <= j := by omega
      clear hx us zm zs hw4 B4 O4 CL0 hg;go_upto_region 9 with fail
      rw [<- HW4.out];clear HW4 a0 am a1 u0 u1 u2 u3 u4 u5 u6;go_wp2_with (first | fail)
      refine CL.out.mono ?_; rintro e w5 ⟨c, hc, rfl, hb5⟩
      have HB5 : Hid (Below W1.heap.size W1 w5) := hZ (below_over HB4.out hb5);clear x0 p0 p1 p2 p3 p4 p5 p6 p7 p8 p9 hb5 CL;by_cases h0 : c = 0
      · subst h0
        rw [errV_zero11]
        have NX : Hid (∀ (i : Nat) (x : Ln), i < j + 1 -> u.lines[i]? = some x -> LnIs u env x 0) := hZ (fun i y hi hy => by
          by_cases e : i = j
          · subst e
            rw [HXJ.out] at hy;cases hy
            exact hc
          · exact HQ.out i y (by omega) hy)
        clear hc;go_wp2_with fail
        go_roundw
        case rel => exact ⟨j + 1, by omega, by go_num, NX, HB5⟩
        case measure => simp [intOf]; omega
      · obtain ⟨b, rfl⟩ := ln_nat hc
        rw [errV_code11 h0]
        have SEAL : Hid (CkU u env w (.returned (.iface 89 (.pointer (some ⟨w5.heap.size, 0, none⟩)))) (w5.alloc (.cells #[.int .i64 j, .iface 32 (.int .i64 b)] 94))) := hZ
          ⟨b, j, _, .inr ⟨⟨HM.out, H100.out⟩, .inr ⟨HNO.out, .inl ⟨j, x, HXJ.out, hc, h0, rfl, HQ.out⟩⟩⟩, rfl, .inr (.inr ⟨w5.heap.size, j, b, h0, rfl, rfl, rfl, sp_new⟩), below_over HB1.out (below_new HB5.out _)⟩
        clear hc h0;go_wp2_with fail
        go_ret;exact SEAL.out
    · have SEAL : Hid (CkU u env w (.returned .nilIface) wo) := hZ
        ⟨0, -1, _, .inr ⟨⟨HM.out, H100.out⟩, .inr ⟨HNO.out, .inr ⟨rfl, rfl, fun d hd => by
          obtain ⟨i, hi⟩ := List.getElem?_of_mem hd;exact HQ.out i d (by have := (List.getElem?_eq_some_iff.1 hi).1; have := HND.out; omega) hi⟩⟩⟩, rfl, .inl ⟨rfl, rfl⟩, below_over HB1.out HB.out⟩
      go_wp2_with fail
      go_ret;exact SEAL.out
end Go.Proofs.YteecgiebimdbhaaGreatDoor
