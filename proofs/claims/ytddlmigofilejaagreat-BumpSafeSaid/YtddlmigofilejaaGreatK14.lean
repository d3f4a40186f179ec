/-
  Several texts in one.
-/
import Derived.Test.YtddlmigofilejaaGreatK13
open List (getElem_toArray getElem_cons_succ getElem_cons_zero set_cons_zero set_cons_succ setIfInBounds_toArray)
set_option maxRecDepth 100000
set_option maxHeartbeats 16000000
namespace Go.Proofs.YtddlmigofilejaaGreat
open Go Go.RowKit Go.Shelf
open Go.Sort Go.Maps
open M
mutual
def failT (mean : ByteArray -> ByteArray -> Ty × Int) (c : Int) : Ty -> Bool
  | .mk k _ _ d n _ ss => if k = 8 then (mean d n).2 == c else failL mean c ss
def failL (mean : ByteArray -> ByteArray -> Ty × Int) (c : Int) : List Ty -> Bool
  | [] => false
  | s :: r => failT mean c s || failL mean c r
end
theorem failL_any (mean : ByteArray -> ByteArray -> Ty × Int) (c : Int) : ∀ l : List Ty, failL mean c l = l.any (failT mean c)
  | [] => by simp [failL]
  | s :: r => by rw [failL, failL_any mean c r]; rfl
theorem failT_eq (mean : ByteArray -> ByteArray -> Ty × Int) (c : Int) (t : Ty) : failT mean c t = if t.kind = 8 then (mean t.mod t.name).2 == c else failL mean c t.subs := by
  cases t; rw [failT]; rfl
theorem below_grow {w0 w w' : World} {kb : Nat} (h : Below w0.heap.size w0 w) (hg : w.grownBy w' (some kb)) (hk : w0.heap.size <= kb) : Below w0.heap.size w0 w' :=
  ⟨hg.os.trans h.os, hg.tape.trans h.tape, hg.output.trans h.output, Nat.le_trans h.size hg.size, fun b hb => (hg.block b (Nat.lt_of_lt_of_le hb h.size) (fun e => by cases e; omega)).trans (h.block b hb)⟩
def FlOut (w0 w : World) (kb : Nat) (m : Mo) (pkg : ByteArray) (major : Int) (env : List If) (r : Bool) (e : Ending) (w' : World) : Prop :=
  e = .returned (.bool r) /\ PlMap w0 w' kb m pkg major env /\ w.grownBy w' (some kb)
theorem index_fails (w0 : World) (kb : Nat) (m : Mo) (pkg : ByteArray) (major : Int) (env : List If) (P : Ty -> Bool) (nb cb : Nat) (As : Option Addr) (cs n : Nat) (ss : List Ty) (w : World) (hn : ss.length = n) (hz : n <= 9223372036854775807) (hS : SubsAt w0 As ss)
    (hk0 : w0.heap.size <= kb) (hw : Below w0.heap.size w0 w) (hkm : PlMap w0 w kb m pkg major env)
    (IH : ∀ s, s ∈ ss -> ∀ (l : List Value) (wx : World), TyAt w0 l s -> Below w0.heap.size w0 wx -> PlMap w0 wx kb m pkg major env -> w.grownBy wx (some kb) -> Calls Tryz.prog 153 #[.agg l.toArray, .pointer (some ⟨nb, 0, none⟩), .pointer (some ⟨cb, 0, none⟩)] wx (FlOut w0 wx kb m pkg major env (P s))) :
    Calls Tryz.prog 154 #[.slice As n cs, .func (.func 153) #[] #[.pointer (some ⟨nb, 0, none⟩), .pointer (some ⟨cb, 0, none⟩)]] w fun e w' => ∃ r : Int, e = .returned (.int .i64 r) /\ decide (0 <= r) = ss.any P /\ PlMap w0 w' kb m pkg major env /\ w.grownBy w' (some kb) := by
  have HS := hZ hS;have HN := hZ hn;have HIH := hZ IH;have HW := hZ hw;have HKM := hZ hkm;have HK0 := hZ hk0;clear hS hn IH hw hkm hk0;go_enter Tryz.func154, Tryz.ntmps154
  go_wp2_with fail
  go_loopw [8] (fun i wr => ∃ k : Nat, k <= n /\ i = .int .i64 k /\ Hid (∀ j s, j < k -> ss[j]? = some s -> P s = false) /\ Hid (PlMap w0 wr kb m pkg major env /\ w.grownBy wr (some kb))) (fun i _ => n - (intOf i).toNat)
  case atStart => exact ⟨0, by omega, rfl, hZ (fun j s h => by omega), hZ ⟨HKM.out, grown_of (Below.refl _ _)⟩⟩
  case round =>
    obtain ⟨k, hk, rfl, HP, HB⟩ := hrel;obtain ⟨wo, rfl⟩ : ∃ wo : World, wo = wr := ⟨_, rfl⟩;have hbo := below_grow HW.out HB.out.2 HK0.out;by_cases hlt : k < n
    · obtain ⟨s, hs⟩ : ∃ s, ss[k]? = some s := ⟨_, List.getElem?_eq_getElem (by rw [HN.out]; exact hlt)⟩
      obtain ⟨g, o, v0, v1, v2, v3, v4, v5, v6, rfl, -, h0, h1, h2, h3, h4, h5, h6, -⟩ := HS.out.below hbo k s hs;obtain ⟨g', o', u0, u1, u2, u3, u4, u5, u6, e', hg', k0, k1, k2, k3, k4, k5, k6, hs7⟩ := HS.out k s hs;obtain ⟨rfl, rfl⟩ : g' = g /\ o' = o := by simp at e'; exact ⟨e'.1.symm, e'.2.symm⟩
      have same : ∀ {q : Nat} {u v : Value}, w0.cell? ⟨g', q, none⟩ = some u -> wo.cell? ⟨g', q, none⟩ = some v -> u = v := fun h1 h2 => by
        rw [hbo.cell (p := ⟨g', _, none⟩) hg', h1] at h2; exact Option.some.inj h2
      obtain rfl := same k0 h0;obtain rfl := same k1 h1;obtain rfl := same k2 h2;obtain rfl := same k3 h3;obtain rfl := same k4 h4;obtain rfl := same k5 h5;obtain rfl := same k6 h6;have IHs := hZ (HIH.out s (List.mem_of_getElem? hs) [u0, u1, u2, u3, u4, u5, u6] wo hs7 hbo HB.out.1 HB.out.2);have HSS := hZ hs;clear hs7 hs hbo same k0 k1 k2 k3 k4 k5 k6 e' hg';rcases hid_or (P s) with hp | hp
      · go_wp2_with fail
        refine IHs.out.mono ?_; rintro e w2 ⟨rfl, hm2, hg2⟩; rw [hp.out]
        have HB2 : Hid (PlMap w0 w2 kb m pkg major env /\ w.grownBy w2 (some kb)) := hZ ⟨hm2, grown_over HB.out.2 hg2⟩;clear h0 h1 h2 h3 h4 h5 h6 hm2 hg2;go_wp2_with fail
        go_roundw
        case rel => exact ⟨k + 1, by omega, by go_num, hZ (fun j q hj hq => by
          rcases Nat.lt_or_ge j k with a | a
          · exact HP.out j q a hq
          · rw [show j = k by omega, HSS.out] at hq
            obtain rfl := Option.some.inj hq;exact hp.out), HB2⟩
        case measure => simp [intOf]; omega
      · have R : Hid (decide (0 <= (k : Int)) = ss.any P) := hZ (by
          rw [List.any_eq_true.2 ⟨s, List.mem_of_getElem? HSS.out, hp.out⟩]; simp)
        go_wp2_with fail
        refine IHs.out.mono ?_; rintro e w2 ⟨rfl, hm2, hg2⟩; rw [hp.out]
        have HB2 : Hid (PlMap w0 w2 kb m pkg major env /\ w.grownBy w2 (some kb)) := hZ ⟨hm2, grown_over HB.out.2 hg2⟩;clear h0 h1 h2 h3 h4 h5 h6 hm2 hg2;go_wp2_with fail
        go_ret;exact ⟨_, rfl, R.out, HB2.out⟩
    · have R : Hid (decide (0 <= (-1 : Int)) = ss.any P) := hZ (by
        have : ss.any P = false := by
          rw [List.any_eq_false];intro s hs;obtain ⟨j, hj⟩ := List.getElem?_of_mem hs;have hjl := (List.getElem?_eq_some_iff.1 hj).1;rw [HP.out j s (by rw [HN.out] at hjl; omega) hj]; decide
        rw [this]; rfl)
      go_wp2_with fail
      go_ret;exact ⟨_, rfl, R.out, HB.out⟩
theorem contains_fails (w0 : World) (kb : Nat) (m : Mo) (pkg : ByteArray) (major : Int) (env : List If) (P : Ty -> Bool) (nb cb : Nat) (As : Option Addr) (cs n : Nat) (ss : List Ty) (w : World) (hn : ss.length = n) (hz : n <= 9223372036854775807) (hS : SubsAt w0 As ss)
    (hk0 : w0.heap.size <= kb) (hw : Below w0.heap.size w0 w) (hkm : PlMap w0 w kb m pkg major env)
    (IH : ∀ s, s ∈ ss -> ∀ (l : List Value) (wx : World), TyAt w0 l s -> Below w0.heap.size w0 wx -> PlMap w0 wx kb m pkg major env -> w.grownBy wx (some kb) -> Calls Tryz.prog 153 #[.agg l.toArray, .pointer (some ⟨nb, 0, none⟩), .pointer (some ⟨cb, 0, none⟩)] wx (FlOut w0 wx kb m pkg major env (P s))) :
    Calls Tryz.prog 126 #[.slice As n cs, .func (.func 153) #[] #[.pointer (some ⟨nb, 0, none⟩), .pointer (some ⟨cb, 0, none⟩)]] w (FlOut w0 w kb m pkg major env (ss.any P)) := by
  have HC := hZ (index_fails w0 kb m pkg major env P nb cb As cs n ss w hn hz hS hk0 hw hkm IH);clear hn hS IH hk0 hw hkm;go_enter Tryz.func126, Tryz.ntmps126
  go_wp2_with fail
  refine HC.out.mono ?_; rintro e w2 ⟨r, rfl, hr, hb2⟩
  have HR := hZ hr;clear hr HC;go_wp2_with fail
  go_ret;exact ⟨ret_bool HR.out.symm, hb2⟩
theorem kept_grown {w w' : World} {kb b : Nat} {o : Obj} (h : w.heap[b]? = some o) (hne : b ≠ kb) (hg : w.grownBy w' (some kb)) : w'.heap[b]? = some o :=
  (hg.block b (Array.getElem?_eq_some_iff.1 h).1 (fun e => by cases e; exact hne rfl)).trans h
theorem one_fails (w0 : World) (kb : Nat) (m : Mo) (pkg : ByteArray) (major : Int) (env : List If) (c : Int) (r : Bool) (nb cb : Nat) (Ai : Option Addr) (ci : Nat) (Ad : Option Addr) (cd : Nat) (Ae : Option Addr) (ce : Nat) (s : Ty) (l : List Value) (w : World)
    (hn : w.heap[nb]? = some (.cells #[.string m.name, .slice Ai m.imps.length ci, .slice Ad m.decs.length cd, .string pkg, .int .i64 major, .slice Ae env.length ce, .map (some kb)] 157 (0, 0))) (hc : w.heap[cb]? = some (.cells #[.int .i64 c] 33 (0, 0))) (hs : TyAt w0 l s) (hw : Below w0.heap.size w0 w) (hkm : PlMap w0 w kb m pkg major env)
    (H : ∀ wx, Below w0.heap.size w0 wx -> PlMap w0 wx kb m pkg major env -> Calls Tryz.prog 125 #[.agg #[.string m.name, .slice Ai m.imps.length ci, .slice Ad m.decs.length cd, .string pkg, .int .i64 major, .slice Ae env.length ce, .map (some kb)], .agg l.toArray, .int .i64 c] wx (FlOut w0 wx kb m pkg major env r)) :
    Calls Tryz.prog 153 #[.agg l.toArray, .pointer (some ⟨nb, 0, none⟩), .pointer (some ⟨cb, 0, none⟩)] w (FlOut w0 w kb m pkg major env r) := by
  obtain ⟨Bn, cB, Bs, dB, rfl, -⟩ := hs.parts;obtain ⟨wb, hwb⟩ : ∃ wb, wb = w.alloc (.cells #[.int .i64 s.kind, .string s.pkg, .int .i64 s.major, .string s.mod, .string s.name, .slice Bn s.names.length cB, .slice Bs s.subs.length dB] 50) := ⟨_, rfl⟩;have B0 : Below w.heap.size w wb := by rw [hwb]; exact below_new (Below.refl _ _) _
  have X0 : wb.heap[w.heap.size]? = some (.cells #[.int .i64 s.kind, .string s.pkg, .int .i64 s.major, .string s.mod, .string s.name, .slice Bn s.names.length cB, .slice Bs s.subs.length dB] 50 (0, 0)) := by rw [hwb]; exact heap_alloc_new w _
  have N0 := (B0.block _ (Array.getElem?_eq_some_iff.1 hn).1).trans hn;have C0 := (B0.block _ (Array.getElem?_eq_some_iff.1 hc).1).trans hc;obtain ⟨es, clock, hkb, -⟩ := id hkm;have CL := hZ (H wb (below_over hw B0) (hkm.kept (B0.block _ (Array.getElem?_eq_some_iff.1 hkb).1)));obtain ⟨x0, x1, x2, x3, x4, x5, x6⟩ := cq7 X0;obtain ⟨n0, n1, n2, n3, n4, n5, n6⟩ := cq7 N0;have c0 := cZ C0 0;simp at x0 x1 x2 x3 x4 x5 x6 n0 n1 n2 n3 n4 n5 n6 c0;have HB0 := hZ B0;have HWB := hZ hwb;clear hn hc hs hw hkm H hwb B0 X0 N0 C0 hkb;go_enter Tryz.func153, Tryz.ntmps153
  go_upto_region 1 with fail
  rw [<- HWB.out];go_wp2_with fail
  refine CL.out.mono ?_; rintro e w2 ⟨rfl, hm2, hg2⟩
  have HM2 := hZ hm2;have HG2 := hZ (grown_over (grown_of HB0.out) hg2);clear x0 x1 x2 x3 x4 x5 x6 n0 n1 n2 n3 n4 n5 n6 c0 hm2 hg2 CL;go_wp2_with fail
  go_ret;exact ⟨rfl, HM2.out, HG2.out⟩
theorem one_expand (w0 : World) (kb : Nat) (m : Mo) (pkg : ByteArray) (major : Int) (env : List If) (c : Int) (r : Bool) (nb cb : Nat) (Ai : Option Addr) (ci : Nat) (Ad : Option Addr) (cd : Nat) (Ae : Option Addr) (ce : Nat) (s : Ty) (l : List Value) (w : World)
    (hn : w.heap[nb]? = some (.cells #[.string m.name, .slice Ai m.imps.length ci, .slice Ad m.decs.length cd, .string pkg, .int .i64 major, .slice Ae env.length ce, .map (some kb)] 157 (0, 0))) (hc : w.heap[cb]? = some (.cells #[.int .i64 c] 33 (0, 0))) (hs : TyAt w0 l s) (hw : Below w0.heap.size w0 w) (hkm : PlMap w0 w kb m pkg major env)
    (H : ∀ wx, Below w0.heap.size w0 wx -> PlMap w0 wx kb m pkg major env -> Calls Tryz.prog 125 #[.agg #[.string m.name, .slice Ai m.imps.length ci, .slice Ad m.decs.length cd, .string pkg, .int .i64 major, .slice Ae env.length ce, .map (some kb)], .agg l.toArray, .int .i64 c] wx (FlOut w0 wx kb m pkg major env r)) :
    Calls Tryz.prog 124 #[.agg l.toArray, .pointer (some ⟨nb, 0, none⟩), .pointer (some ⟨cb, 0, none⟩)] w (FlOut w0 w kb m pkg major env r) := by
  obtain ⟨Bn, cB, Bs, dB, rfl, -⟩ := hs.parts;obtain ⟨wb, hwb⟩ : ∃ wb, wb = w.alloc (.cells #[.int .i64 s.kind, .string s.pkg, .int .i64 s.major, .string s.mod, .string s.name, .slice Bn s.names.length cB, .slice Bs s.subs.length dB] 50) := ⟨_, rfl⟩;have B0 : Below w.heap.size w wb := by rw [hwb]; exact below_new (Below.refl _ _) _
  have X0 : wb.heap[w.heap.size]? = some (.cells #[.int .i64 s.kind, .string s.pkg, .int .i64 s.major, .string s.mod, .string s.name, .slice Bn s.names.length cB, .slice Bs s.subs.length dB] 50 (0, 0)) := by rw [hwb]; exact heap_alloc_new w _
  have N0 := (B0.block _ (Array.getElem?_eq_some_iff.1 hn).1).trans hn;have C0 := (B0.block _ (Array.getElem?_eq_some_iff.1 hc).1).trans hc;obtain ⟨es, clock, hkb, -⟩ := id hkm;have CL := hZ (H wb (below_over hw B0) (hkm.kept (B0.block _ (Array.getElem?_eq_some_iff.1 hkb).1)));obtain ⟨x0, x1, x2, x3, x4, x5, x6⟩ := cq7 X0;obtain ⟨n0, n1, n2, n3, n4, n5, n6⟩ := cq7 N0;have c0 := cZ C0 0;simp at x0 x1 x2 x3 x4 x5 x6 n0 n1 n2 n3 n4 n5 n6 c0;have HB0 := hZ B0;have HWB := hZ hwb;clear hn hc hs hw hkm H hwb B0 X0 N0 C0 hkb;go_enter Tryz.func124, Tryz.ntmps124
  go_upto_region 1 with fail
  rw [<- HWB.out];go_wp2_with fail
  refine CL.out.mono ?_; rintro e w2 ⟨rfl, hm2, hg2⟩
  have HM2 := hZ hm2;have HG2 := hZ (grown_over (grown_of HB0.out) hg2);clear x0 x1 x2 x3 x4 x5 x6 n0 n1 n2 n3 n4 n5 n6 c0 hm2 hg2 CL;go_wp2_with fail
  go_ret;exact ⟨rfl, HM2.out, HG2.out⟩
theorem fails_any (w0 : World) (kb : Nat) (m : Mo) (pkg : ByteArray) (major : Int) (env : List If) (c : Int) (ln : List Value) (hns : NsAt w0 ln m pkg major env kb) (hk0 : w0.heap.size <= kb) (N : Nat) : ∀ (t : Ty), many t <= N -> ∀ (lt : List Value) (w : World), TyAt w0 lt t -> Below w0.heap.size w0 w -> PlMap w0 w kb m pkg major env ->
    Calls Tryz.prog 125 #[.agg ln.toArray, .agg lt.toArray, .int .i64 c] w (FlOut w0 w kb m pkg major env (failT (lookM m pkg major env) c t)) := by
  induction N with
  | zero => intro t h; have := many_pos t; omega
  | succ N ih =>
  intro t hN lt w ht hw hkm;have HNS := hZ hns;have HIH := hZ ih;have HT0 := hZ ht;have HK0 := hZ hk0;obtain ⟨Bn, cB, Bs, dB, rfl, -, -, -, -, hzs, -, hS⟩ := ht.parts;obtain ⟨Ai, ci, Ad, cd, Ae, ce, rfl, -⟩ := hns;obtain ⟨es, clock, hkb, -⟩ := id hkm;have hkl := (Array.getElem?_eq_some_iff.1 hkb).1;obtain ⟨W2, hW2, B2, O0, O1, hl2⟩ := two_boxes w #[.string m.name, .slice Ai m.imps.length ci, .slice Ad m.decs.length cd, .string pkg, .int .i64 major, .slice Ae env.length ce, .map (some kb)] #[.int .i64 t.kind, .string t.pkg, .int .i64 t.major, .string t.mod, .string t.name, .slice Bn t.names.length cB, .slice Bs t.subs.length dB] 157 50;have s2 : W2.heap.size = w.heap.size + 1 + 1 := by rw [hW2]; simp
  obtain ⟨W3, hW3⟩ : ∃ W3, W3 = W2.alloc (.cells #[.int .i64 c] 33) := ⟨_, rfl⟩;have B3 : Below W2.heap.size W2 W3 := by rw [hW3]; exact below_new (Below.refl _ _) _
  have s3 : W3.heap.size = w.heap.size + 1 + 1 + 1 := by rw [hW3]; simp [s2]
  have O2 : W3.heap[w.heap.size + 1 + 1]? = some (.cells #[.int .i64 c] 33 (0, 0)) := by rw [hW3, <- s2]; exact heap_alloc_new W2 _
  have HB3 : Hid (Below w.heap.size w W3) := hZ (below_over B2 B3);have HX0 : Hid (W3.heap[w.heap.size]? = some (.cells #[.string m.name, .slice Ai m.imps.length ci, .slice Ad m.decs.length cd, .string pkg, .int .i64 major, .slice Ae env.length ce, .map (some kb)] 157 (0, 0))) := hZ ((B3.block _ (by omega)).trans O0);have HX1 : Hid (W3.heap[w.heap.size + 1]? = some (.cells #[.int .i64 t.kind, .string t.pkg, .int .i64 t.major, .string t.mod, .string t.name, .slice Bn t.names.length cB, .slice Bs t.subs.length dB] 50 (0, 0))) := hZ ((B3.block _ (by omega)).trans O1);have HX2 := hZ O2;have HW : Hid (((w.alloc (.cells #[.string m.name, .slice Ai m.imps.length ci, .slice Ad m.decs.length cd, .string pkg, .int .i64 major, .slice Ae env.length ce, .map (some kb)] 157)).alloc (.cells #[.int .i64 t.kind, .string t.pkg, .int .i64 t.major, .string t.mod, .string t.name, .slice Bn t.names.length cB, .slice Bs t.subs.length dB] 50)).alloc (.cells #[.int .i64 c] 33) = W3) := hZ (by rw [hW3, hW2]);have HW0 : Hid (Below w0.heap.size w0 W3) := hZ (below_over hw HB3.out);have HKM : Hid (PlMap w0 W3 kb m pkg major env) := hZ (hkm.kept (HB3.out.block _ hkl));have HSS := hZ hS;have HMN : Hid (∀ s ∈ t.subs, many s <= N) := hZ (fun s hs => by have h1 := manyL_mem _ _ hs; have h2 := manyL_eq t; omega);have RS := hZ (failT_eq (lookM m pkg major env) c t);obtain ⟨V, hV⟩ : ∃ V, V = failT (lookM m pkg major env) c t := ⟨_, rfl⟩;rw [<- hV];have HV := hZ hV;have X1 := HX1.out;have y0 := cZ X1 0;simp at y0;clear hV hS ht hw hkm hW2 hW3 B2 B3 O0 O1 O2 hkb hN hk0 ih;by_cases h8 : t.kind = 8
  · have q8 : (t.kind == 8) = true := by rw [h8]; rfl
    have RV : Hid (V = ((lookM m pkg major env t.mod t.name).2 == c)) := hZ (by rw [HV.out, RS.out, if_pos h8]);obtain ⟨D, hD⟩ : ∃ D, D = lookM m pkg major env t.mod t.name := ⟨_, rfl⟩;rw [<- hD] at RV;have HD := hZ hD
    have KEEP : Hid (∀ wx : World, Below W3.heap.size W3 wx -> wx.cell? ⟨w.heap.size, 0, none⟩ = some (.string m.name) /\ wx.cell? ⟨w.heap.size, 1, none⟩ = some (.slice Ai m.imps.length ci) /\ wx.cell? ⟨w.heap.size, 2, none⟩ = some (.slice Ad m.decs.length cd) /\ wx.cell? ⟨w.heap.size, 3, none⟩ = some (.string pkg) /\ wx.cell? ⟨w.heap.size, 4, none⟩ = some (.int .i64 major) /\ wx.cell? ⟨w.heap.size, 5, none⟩ = some (.slice Ae env.length ce) /\ wx.cell? ⟨w.heap.size, 6, none⟩ = some (.map (some kb)) /\ wx.cell? ⟨w.heap.size + 1, 0, none⟩ = some (.int .i64 t.kind) /\ wx.cell? ⟨w.heap.size + 1, 1, none⟩ = some (.string t.pkg) /\ wx.cell? ⟨w.heap.size + 1, 2, none⟩ = some (.int .i64 t.major) /\ wx.cell? ⟨w.heap.size + 1, 3, none⟩ = some (.string t.mod) /\ wx.cell? ⟨w.heap.size + 1, 4, none⟩ = some (.string t.name) /\ wx.cell? ⟨w.heap.size + 1, 5, none⟩ = some (.slice Bn t.names.length cB) /\ wx.cell? ⟨w.heap.size + 1, 6, none⟩ = some (.slice Bs t.subs.length dB) /\ wx.cell? ⟨w.heap.size + 1 + 1, 0, none⟩ = some (.int .i64 c)) := hZ (fun wx hb => by
      have X0 := (hb.block _ (by omega)).trans HX0.out;have X1 := (hb.block _ (by omega)).trans HX1.out;have X2 := (hb.block _ (by omega)).trans HX2.out;exact ⟨cZ X0 0, cZ X0 1, cZ X0 2, cZ X0 3, cZ X0 4, cZ X0 5, cZ X0 6, cZ X1 0, cZ X1 1, cZ X1 2, cZ X1 3, cZ X1 4, cZ X1 5, cZ X1 6, cZ X2 0⟩)
    have KEEPG : Hid (∀ wx : World, W3.drew.grownBy wx (some kb) -> wx.cell? ⟨w.heap.size, 0, none⟩ = some (.string m.name) /\ wx.cell? ⟨w.heap.size, 1, none⟩ = some (.slice Ai m.imps.length ci) /\ wx.cell? ⟨w.heap.size, 2, none⟩ = some (.slice Ad m.decs.length cd) /\ wx.cell? ⟨w.heap.size, 3, none⟩ = some (.string pkg) /\ wx.cell? ⟨w.heap.size, 4, none⟩ = some (.int .i64 major) /\ wx.cell? ⟨w.heap.size, 5, none⟩ = some (.slice Ae env.length ce) /\ wx.cell? ⟨w.heap.size, 6, none⟩ = some (.map (some kb)) /\ wx.cell? ⟨w.heap.size + 1, 0, none⟩ = some (.int .i64 t.kind) /\ wx.cell? ⟨w.heap.size + 1, 1, none⟩ = some (.string t.pkg) /\ wx.cell? ⟨w.heap.size + 1, 2, none⟩ = some (.int .i64 t.major) /\ wx.cell? ⟨w.heap.size + 1, 3, none⟩ = some (.string t.mod) /\ wx.cell? ⟨w.heap.size + 1, 4, none⟩ = some (.string t.name) /\ wx.cell? ⟨w.heap.size + 1, 5, none⟩ = some (.slice Bn t.names.length cB) /\ wx.cell? ⟨w.heap.size + 1, 6, none⟩ = some (.slice Bs t.subs.length dB) /\ wx.cell? ⟨w.heap.size + 1 + 1, 0, none⟩ = some (.int .i64 c)) := hZ (fun wx hg => by
      have hd := Below.drew (Below.refl W3.heap.size W3);have X0 := kept_grown ((hd.block _ (by omega)).trans HX0.out) (by omega) hg;have X1 := kept_grown ((hd.block _ (by omega)).trans HX1.out) (by omega) hg;have X2 := kept_grown ((hd.block _ (by omega)).trans HX2.out) (by omega) hg;exact ⟨cZ X0 0, cZ X0 1, cZ X0 2, cZ X0 3, cZ X0 4, cZ X0 5, cZ X0 6, cZ X1 0, cZ X1 1, cZ X1 2, cZ X1 3, cZ X1 4, cZ X1 5, cZ X1 6, cZ X2 0⟩)
    have CM : Hid (∀ wx, Below W3.heap.size W3 wx -> Calls Tryz.prog 152 #[.agg #[.string m.name, .slice Ai m.imps.length ci, .slice Ad m.decs.length cd, .string pkg, .int .i64 major, .slice Ae env.length ce, .map (some kb)], .agg #[.int .i64 t.kind, .string t.pkg, .int .i64 t.major, .string t.mod, .string t.name, .slice Bn t.names.length cB, .slice Bs t.subs.length dB]] wx (MnsOut w0 wx kb m pkg major env D)) := hZ (fun wx hb => by
      rw [hD];exact meansN_any m pkg major env kb t _ w0 wx HNS.out HK0.out (fun b hlt => (below_over HW0.out hb).block b hlt) (below_over HW0.out hb) (HKM.out.kept (hb.block _ (by omega))) _ (HT0.out.keep (below_over HW0.out hb)))
    clear h8 hD X1;go_enter Tryz.func125, Tryz.ntmps125
    go_upto_region 1 with fail
    rw [HW.out];go_upto_region 2 with fail
    clear y0 q8;have hH0 := KEEP.out W3.drew (Below.drew (Below.refl _ _));refine AnyX.start (fun wx => wx.cell? ⟨w.heap.size, 0, none⟩ = some (.string m.name) /\ wx.cell? ⟨w.heap.size, 1, none⟩ = some (.slice Ai m.imps.length ci) /\ wx.cell? ⟨w.heap.size, 2, none⟩ = some (.slice Ad m.decs.length cd) /\ wx.cell? ⟨w.heap.size, 3, none⟩ = some (.string pkg) /\ wx.cell? ⟨w.heap.size, 4, none⟩ = some (.int .i64 major) /\ wx.cell? ⟨w.heap.size, 5, none⟩ = some (.slice Ae env.length ce) /\ wx.cell? ⟨w.heap.size, 6, none⟩ = some (.map (some kb)) /\ wx.cell? ⟨w.heap.size + 1, 0, none⟩ = some (.int .i64 t.kind) /\ wx.cell? ⟨w.heap.size + 1, 1, none⟩ = some (.string t.pkg) /\ wx.cell? ⟨w.heap.size + 1, 2, none⟩ = some (.int .i64 t.major) /\ wx.cell? ⟨w.heap.size + 1, 3, none⟩ = some (.string t.mod) /\ wx.cell? ⟨w.heap.size + 1, 4, none⟩ = some (.string t.name) /\ wx.cell? ⟨w.heap.size + 1, 5, none⟩ = some (.slice Bn t.names.length cB) /\ wx.cell? ⟨w.heap.size + 1, 6, none⟩ = some (.slice Bs t.subs.length dB) /\ wx.cell? ⟨w.heap.size + 1 + 1, 0, none⟩ = some (.int .i64 c)) (fun _ => false) (by kernel_rfl) ?_;refine AnyX.tk (i := 0) (v := ?_) rfl (fun _ _ _ h => h) hH0 (Or.inl ⟨by rfl, ?_⟩) ?_;rotate_left
    · (intro wS hS; (try obtain ⟨n0, n1, n2, n3, n4, n5, n6, x0, x1, x2, x3, x4, x5, x6, c0⟩ := hS); go_simp; try with_reducible rfl)
    simp only [getElem_toArray, getElem_cons_succ, getElem_cons_zero];simp only [Act.put, setIfInBounds_toArray, set_cons_zero, set_cons_succ];refine AnyX.tk (i := 1) (v := ?_) rfl (fun _ _ _ h => h) hH0 (Or.inl ⟨by rfl, ?_⟩) ?_;rotate_left
    · (intro wS hS; (try obtain ⟨n0, n1, n2, n3, n4, n5, n6, x0, x1, x2, x3, x4, x5, x6, c0⟩ := hS); go_simp; try with_reducible rfl)
    simp only [getElem_toArray, getElem_cons_succ, getElem_cons_zero];simp only [Act.put, setIfInBounds_toArray, set_cons_zero, set_cons_succ];refine AnyX.tk (i := 4) (v := ?_) rfl (fun _ _ _ h => h) hH0 (Or.inl ⟨by rfl, ?_⟩) ?_;rotate_left
    · (intro wS hS; (try obtain ⟨n0, n1, n2, n3, n4, n5, n6, x0, x1, x2, x3, x4, x5, x6, c0⟩ := hS); go_simp; try with_reducible rfl)
    simp only [getElem_toArray, getElem_cons_succ, getElem_cons_zero];simp only [Act.put, setIfInBounds_toArray, set_cons_zero, set_cons_succ];refine AnyX.go 2 (by kernel_rfl) rfl rfl (fun K hK => ?_);simp only [getElem_toArray, getElem_cons_succ, getElem_cons_zero];go_simp
    refine (CM.out W3.drew (Below.drew (Below.refl _ _))).mono ?_;rintro e w5 ⟨l7, rfl, hL, hm5, hg5⟩;obtain ⟨Dn, dn, Ds, ds, rfl, -⟩ := (hL w0 (Below.refl _ _)).parts;have hfd : ∀ wz : World, (Instr.field 194 (.agg #[.int .i64 D.1.kind, .string D.1.pkg, .int .i64 D.1.major, .string D.1.mod, .string D.1.name, .slice Dn D.1.names.length dn, .slice Ds D.1.subs.length ds, .int .i64 D.2]) 1).run Tryz.prog wz = .ok (.int .i64 D.2) wz := fun _ => by kernel_rfl
    simp only [];refine hK.out _ _ (fun hoff _ => KEEPG.out _ hg5) ?_;clear hK;(try simp only [Act.put, setIfInBounds_toArray, set_cons_zero, set_cons_succ]);refine AnyX.move (i := 3) (v := .int .i64 D.2) rfl (by kernel_rfl) (by kernel_rfl) (by kernel_rfl) (by kernel_rfl) (fun _ _ _ h => h) (Or.inl ⟨by rfl, ?_⟩) ?_
    · (intro wS _; go_simp; try simp only [hfd, Result.andThen])
    simp only [getElem_toArray, getElem_cons_succ, getElem_cons_zero];simp only [Act.put, setIfInBounds_toArray, set_cons_zero, set_cons_succ];refine AnyX.mv (i := 5) (v := ?_) rfl (fun _ _ _ h => h) (Or.inl ⟨by rfl, ?_⟩) ?_;rotate_left
    · (intro wS _; go_simp; try with_reducible rfl)
    simp only [getElem_toArray, getElem_cons_succ, getElem_cons_zero];simp only [Act.put, setIfInBounds_toArray, set_cons_zero, set_cons_succ];refine AnyX.mv (i := 6) (v := ?_) rfl (fun _ _ _ h => h) (Or.inl ⟨by rfl, ?_⟩) ?_;rotate_left
    · (intro wS _; go_simp; try with_reducible rfl)
    simp only [getElem_toArray, getElem_cons_succ, getElem_cons_zero];simp only [Act.put, setIfInBounds_toArray, set_cons_zero, set_cons_succ];refine AnyX.done (by kernel_rfl) ?_ _
    have FIN : Hid (FlOut w0 w kb m pkg major env V (.returned (.bool (D.2 == c))) w5) := hZ
      ⟨by rw [RV.out], hm5, grown_over (grown_of (Below.drew HB3.out)) hg5⟩
    clear hH0 hL hm5 hg5 hfd;go_wp2_with fail
    go_ret;exact FIN.out
  · have q8 : (t.kind == 8) = false := by simpa using h8
    have RV : Hid (V = t.subs.any (failT (lookM m pkg major env) c)) := hZ (by rw [HV.out, RS.out, if_neg h8, failL_any])
    have CC := hZ (contains_fails w0 kb m pkg major env (failT (lookM m pkg major env) c) w.heap.size (w.heap.size + 1 + 1) Bs dB t.subs.length t.subs W3 rfl hzs HSS.out HK0.out HW0.out HKM.out (fun s hs l wx hT hb hm hg =>
      one_fails w0 kb m pkg major env c _ w.heap.size (w.heap.size + 1 + 1) Ai ci Ad cd Ae ce s l wx (kept_grown HX0.out (by omega) hg) (kept_grown HX2.out (by omega) hg) hT hb hm (fun wy hby hmy => HIH.out s (HMN.out s hs) l wy hT hby hmy)))
    rw [<- RV.out] at CC;have y6 := cZ X1 6;simp at y6;clear h8 X1;go_enter Tryz.func125, Tryz.ntmps125
    go_upto_region 1 with fail
    rw [HW.out];go_wp2_with fail
    refine CC.out.mono ?_; rintro e w5 ⟨rfl, hm5, hg5⟩
    have FIN : Hid (FlOut w0 w kb m pkg major env V (.returned (.bool V)) w5) := hZ ⟨rfl, hm5, grown_over (grown_of HB3.out) hg5⟩;clear CC hm5 hg5 y0 y6 q8;go_wp2_with fail
    go_ret;exact FIN.out
abbrev cpO (L : Int) (mv : Value) : Obj := .cells #[.int .i64 L, mv] 201 (0, 0)
mutual
def fitT : Ty -> Prop
  | .mk _ p _ d n ns ss => (p.size <= 281474976710656 /\ d.size <= 281474976710656 /\ n.size <= 281474976710656 /\ ns.length <= 200 /\ ∀ s ∈ ns, s.size <= 281474976710656) /\ fitL ss
def fitL : List Ty -> Prop
  | [] => True
  | t :: r => fitT t /\ fitL r
end
theorem fitL_mem : ∀ l : List Ty, fitL l ↔ ∀ t ∈ l, fitT t
  | [] => by simp [fitL]
  | t :: r => by simp [fitL, fitL_mem r]
theorem fitT_own {t : Ty} (h : fitT t) : (t.pkg.size <= 281474976710656 /\ t.mod.size <= 281474976710656 /\ t.name.size <= 281474976710656 /\ t.names.length <= 200 /\ ∀ s ∈ t.names, s.size <= 281474976710656) /\ ∀ s ∈ t.subs, fitT s := by
  cases t with
  | mk k p m d n ns ss =>
    unfold fitT at h
    exact ⟨h.1, (fitL_mem ss).1 h.2⟩
def leftAt (L : Int) (ss : List Ty) (i : Nat) : Int := L - ss.length - manyL (ss.take i) + i
theorem manyL_drop : ∀ (l : List Ty) (i : Nat), manyL l = manyL (l.take i) + manyL (l.drop i)
  | [], i => by simp [manyL]
  | a :: r, 0 => by simp [manyL]
  | a :: r, i + 1 => by
    have := manyL_drop r i
    simp only [List.take_succ_cons, List.drop_succ_cons, manyL];omega
theorem left_many {L : Int} {ss : List Ty} {i : Nat} {s : Ty} (hs : ss[i]? = some s) (hL : (manyL ss : Int) + 1 <= L) : (many s : Int) <= leftAt L ss i /\ leftAt L ss i <= L := by
  have hi := (List.getElem?_eq_some_iff.1 hs).1;have h1 := manyL_drop ss i;have h2 := manyL_take ss i s hs;have h3 := manyL_drop ss (i + 1);have h4 := manyL_len (ss.drop (i + 1));rw [List.length_drop] at h4;have h5 := manyL_len (ss.take i);rw [List.length_take] at h5;unfold leftAt
  omega
theorem left_zero (L : Int) (ss : List Ty) : leftAt L ss 0 = L - ss.length := by unfold leftAt; simp [manyL]
theorem left_end (L : Int) (ss : List Ty) : leftAt L ss ss.length = L - manyL ss := by unfold leftAt; rw [List.take_length]; omega
theorem left_step {L : Int} {ss : List Ty} {i : Nat} {s : Ty} (hs : ss[i]? = some s) : leftAt L ss i - (many s - 1) = leftAt L ss (i + 1) := by
  have h2 := manyL_take ss i s hs;unfold leftAt
  omega
theorem grown_put {w w' : World} {r : Option Nat} (h : w.grownBy w' r) {g : Nat} (hg : w.heap.size <= g) (o : Nat) (l : List Value) : w.grownBy (w'.setCells g o l) r := by
  have hb : Below w'.heap.size w' w' := Below.refl _ _;refine ⟨?_, ?_, ?_, by rw [size_setCells]; exact h.size, fun b hb hne => ?_⟩
  · rw [World.os_setCells]; exact h.os
  · exact (setCells_below (n := 0) (Below.refl 0 w') (Nat.zero_le g) o l).tape.trans h.tape
  · rw [World.output_setCells]; exact h.output
  · rw [World.heap_setCells_other w' g o l (Nat.lt_of_lt_of_le hb h.size) (by omega)]
    exact h.block b hb hne
theorem listT_any (w0 w : World) (kb : Nat) (A : Option Addr) (n c : Nat) (ss : List Ty) (O : Nat -> Obj) (hn : ss.length = n) (hz : n <= 1000000) (hS : SubsAt w0 A ss) (hw : Below w0.heap.size w0 w) (hk0 : w0.heap.size <= kb) (hkl : kb < w.heap.size) (hO : w.heap[kb]? = some (O 0))
    (IH : ∀ i s, ss[i]? = some s -> ∀ (l : List Value) (wx : World), TyAt w0 l s -> Below w0.heap.size w0 wx -> kb < wx.heap.size -> wx.heap[kb]? = some (O i) ->
      Calls Tryz.prog 156 #[.pointer (some ⟨kb, 0, none⟩), .agg l.toArray] wx fun e w' => ∃ l' : List Value, e = .returned (.agg l'.toArray) /\ TyAt (strike (· < wx.heap.size) w') l' s /\ w'.heap[kb]? = some (O (i + 1)) /\ wx.grownBy w' (some kb)) :
    Calls Tryz.prog 188 #[.slice A n c, .func (.func 156) #[.pointer (some ⟨kb, 0, none⟩)] #[]] w fun e w' => ∃ (A' : Option Addr) (c' : Nat), e = .returned (.slice A' n c') /\ n <= c' /\ RowIn tR (strike (· < w.heap.size) w') A' ss /\ w'.heap[kb]? = some (O n) /\ w.grownBy w' (some kb) := by
  have HN := hZ hn;have HS := hZ hS;have HW := hZ hw;have HIH := hZ IH;have HO := hZ hO;have EQ : ∀ wz : World, (binOp .eql 48 (.slice A n c) (.slice none 0 0)).run Tryz.prog wz = .ok (.bool A.isNone) wz := fun wz => Lib.run_eql_slice_nil wz _ _ _ _ _ _ _ Tryz.underlying48
  cases A with
  | none =>
    have h0 : ss = [] := hS.row.none_nil;have hn0 : n = 0 := by rw [<- hn, h0]; rfl
    have HX := hZ h0;subst hn0;clear hS hn h0 hw IH hO;go_enter Tryz.func188, Tryz.ntmps188
    go_wp2_with fail
    go_ret;exact ⟨_, _, rfl, Nat.le_refl _, fun i s h => by rw [HX.out] at h; simp at h, HO.out, grown_of (Below.refl _ _)⟩
  | some ad =>
    obtain ⟨i0, hi, hz0, hz1, hz2⟩ := info_parts typ_info;obtain ⟨W1, hW1⟩ : ∃ W1, W1 = w.alloc (.cells (madeCells (Value.agg #[.int .i64 0, .string ⟨#[]⟩, .int .i64 0, .string ⟨#[]⟩, .string ⟨#[]⟩, .slice none 0 0, .slice none 0 0]).cells (n * 7)) 50) := ⟨_, rfl⟩;have MS := run_make (P := Tryz.prog) w 48 50 i0 (.agg #[.int .i64 0, .string ⟨#[]⟩, .int .i64 0, .string ⟨#[]⟩, .string ⟨#[]⟩, .slice none 0 0, .slice none 0 0]) Tryz.underlying48 hi hz0 .i64 .i64 (n : Int) (n : Int) (by omega) (by omega) (by rw [hz2]; omega) (by omega);rw [hz1] at MS;simp only [Int.toNat_natCast] at MS;rw [<- hW1] at MS;have START : Hid (Fill tR w.heap.size w.heap.size ss 0 W1) := hZ (by rw [hW1]; exact Fill.start tR (Nat.le_refl _) _ _ ss (by rw [size_madeCells, hn]; rfl));have HB1 : Hid (w.grownBy W1 (some kb) /\ W1.heap[kb]? = some (O 0)) := hZ (by rw [hW1]; exact ⟨grown_of (below_new (Below.refl _ _) _), (Lib.alloc_old w _ kb hkl).trans hO⟩);have EQ' : ∀ wz : World, (binOp .eql 48 (.slice (some ad) n c) (.slice none 0 0)).run Tryz.prog wz = .ok (.bool false) wz := EQ
    clear EQ hW1 hS hn hw IH hO;go_enter Tryz.func188, Tryz.ntmps188
    go_wp2_with fail
    go_loopw [15] (fun s15 wr => ∃ k : Nat, k <= n /\ s15 = .int .i64 k /\ Hid (Fill tR w.heap.size w.heap.size ss k wr) /\ Hid (w.grownBy wr (some kb) /\ wr.heap[kb]? = some (O k))) (fun s15 _ => n - (intOf s15).toNat)
    case atStart => exact ⟨0, by omega, rfl, START, HB1⟩
    case round =>
      obtain ⟨k, hk, rfl, HF, HB⟩ := hrel;obtain ⟨wo, rfl⟩ : ∃ wo : World, wo = wr := ⟨_, rfl⟩;clear MS EQ' START HB1;by_cases hlt : k < n
      · obtain ⟨s, hs⟩ : ∃ s, ss[k]? = some s := ⟨_, List.getElem?_eq_getElem (by rw [HN.out]; exact hlt)⟩
        obtain ⟨g, o, v0, v1, v2, v3, v4, v5, v6, e1, hg, a0, a1, a2, a3, a4, a5, a6, us⟩ := HS.out k s hs;obtain ⟨Bn, cB, Bs, dB, ev, -⟩ := us.parts;simp only [List.cons.injEq, and_true] at ev;obtain ⟨rfl, rfl, rfl, rfl, rfl, rfl, rfl⟩ := ev;obtain rfl := Option.some.inj e1;have hBo : Below w0.heap.size w0 wo := below_grow HW.out HB.out.1 hk0;have q := fun o v (hv : w0.cell? ⟨g, o, none⟩ = some v) => (hBo.cell (p := ⟨g, o, none⟩) hg).trans hv
        have c0 := q _ _ a0;have c1 := q _ _ a1;have c2 := q _ _ a2;have c3 := q _ _ a3;have c4 := q _ _ a4;have c5 := q _ _ a5;have c6 := q _ _ a6;obtain ⟨w8, hw8⟩ : ∃ w8, w8 = wo.alloc (.cells #[.int .i64 s.kind, .string s.pkg, .int .i64 s.major, .string s.mod, .string s.name, .slice Bn s.names.length cB, .slice Bs s.subs.length dB] 50) := ⟨_, rfl⟩;have B8 : Below wo.heap.size wo w8 := by rw [hw8]; exact below_new (Below.refl _ _) _
        have Y8 : w8.heap[wo.heap.size]? = some (.cells #[.int .i64 s.kind, .string s.pkg, .int .i64 s.major, .string s.mod, .string s.name, .slice Bn s.names.length cB, .slice Bs s.subs.length dB] 50 (0, 0)) := by rw [hw8]; exact heap_alloc_new wo _
        have s8 : w8.heap.size = wo.heap.size + 1 := by rw [hw8]; simp
        have hkw : kb < wo.heap.size := Nat.lt_of_lt_of_le hkl HB.out.1.size;have CL := hZ (HIH.out k s hs _ w8 us (below_grow hBo (grown_of B8) hk0) (by omega) ((B8.block _ hkw).trans HB.out.2));have HSS := hZ hs;have HB8 := hZ B8;have HW8 := hZ hw8;have HY8 := hZ Y8;clear hs us hg e1 hBo q a0 a1 a2 a3 a4 a5 a6 B8 hw8;go_upto_region 7 with fail
        rw [<- HW8.out];clear c0 c1 c2 c3 c4 c5 c6;obtain ⟨y0, y1, y2, y3, y4, y5, y6⟩ := cq7 Y8;simp at y0 y1 y2 y3 y4 y5 y6;clear Y8;go_wp2_with fail
        refine CL.out.mono ?_; rintro e w2 ⟨l', rfl, hT2, hO2, hg2⟩
        obtain ⟨Cn, cC, Cs, dC, rfl, -⟩ := hT2.parts;have hlw : w.heap.size < wo.heap.size := HF.out.hg;have hs2 := hg2.size;have F2 : Fill tR w.heap.size w.heap.size ss k w2 := HF.out.keep (by omega) (fun b h1 hb => (hg2.block b (by omega) (fun e => by cases e; omega)).trans (HB8.out.block b hb));have HT := F2.at (m := 7) (by rw [HN.out]; exact hlt) rfl;have F3 : Hid (Fill tR w.heap.size w.heap.size ss (k + 1) (w2.setCells w.heap.size (k * 7) [.int .i64 s.kind, .string s.pkg, .int .i64 s.major, .string s.mod, .string s.name, .slice Cn s.names.length cC, .slice Cs s.subs.length dC])) := hZ (F2.put HSS.out (B := w8.heap.size) hT2 (by omega))
        have B3 : Hid (w.grownBy (w2.setCells w.heap.size (k * 7) [.int .i64 s.kind, .string s.pkg, .int .i64 s.major, .string s.mod, .string s.name, .slice Cn s.names.length cC, .slice Cs s.subs.length dC]) (some kb) /\ (w2.setCells w.heap.size (k * 7) [.int .i64 s.kind, .string s.pkg, .int .i64 s.major, .string s.mod, .string s.name, .slice Cn s.names.length cC, .slice Cs s.subs.length dC]).heap[kb]? = some (O (k + 1))) := hZ
          ⟨grown_put (grown_over HB.out.1 (grown_over (grown_of HB8.out) hg2)) (Nat.le_refl _) _ _, by rw [World.heap_setCells_other _ _ _ _ (by omega) (by omega)]; exact hO2⟩
        clear F2 hg2 hT2 hO2 CL y0 y1 y2 y3 y4 y5 y6 HB8 HW8 HY8;go_upto_region 8 with (first | ((with_reducible refine wpList_putMid 50 w.heap.size (k * 7) #[.int .i64 s.kind, .string s.pkg, .int .i64 s.major, .string s.mod, .string s.name, .slice Cn s.names.length cC, .slice Cs s.subs.length dC] ?_ ?_ ?_ ?_ ?_ ?_); exact HT; exact tySize; exact tyOne; rfl; rfl))
        obtain ⟨w9, hw9⟩ : ∃ w9, w9 = w2.setCells w.heap.size (k * 7) [.int .i64 s.kind, .string s.pkg, .int .i64 s.major, .string s.mod, .string s.name, .slice Cn s.names.length cC, .slice Cs s.subs.length dC] := ⟨_, rfl⟩;rw [<- hw9] at F3 B3;have HW9 := hZ hw9;clear hw9 HT;try rw [<- HW9.out]
        go_wp2_with fail
        go_roundw
        case rel => exact ⟨k + 1, by omega, by go_num, F3, B3⟩
        case measure => simp [intOf]; omega
      · have hkn : k = n := by omega
        have DONE := hZ (HF.out.done (m := w.heap.size) (by rw [HN.out]; omega) (Nat.le_refl _));have HKN := hZ hkn;clear hkn;go_wp2_with fail
        go_ret;exact ⟨_, _, rfl, Nat.le_refl _, DONE.out, by rw [<- HKN.out]; exact HB.out.2, HB.out.1⟩
def ClnOut (w0 w : World) (n : Nat) (ss : List Ty) (e : Ending) (w' : World) : Prop :=
  ∃ (A : Option Addr) (c : Nat), e = .returned (.slice A n c) /\ n <= c /\ Below w.heap.size w w' /\ (0 < n -> ∃ g, A = some ⟨g, 0, none⟩ /\ w.heap.size <= g /\ g < w'.heap.size /\ w'.there g 0 (n * 7) /\
    ∀ i s, ss[i]? = some s -> ∃ l : List Value, TyAt w0 l s /\ ∀ q v, l[q]? = some v -> w'.cell? ⟨g, i * 7 + q, none⟩ = some v)
theorem cln_own {w0 w w' : World} {n : Nat} {ss : List Ty} {v : Value} {C : List (List Value)} (hn : ss.length = n) (h1 : C.length = ss.length) (h2 : ∀ l, l ∈ C -> l.length = 7) (h4 : ∀ (i : Nat) (l : List Value) (x : Ty), C[i]? = some l -> ss[i]? = some x -> TyAt w0 l x)
    (hown : w'.ownsRow w.heap.size 50 7 v n C.flatten) (hb : Below w.heap.size w w') : ClnOut w0 w n ss (.returned v) w' := by
  rcases hown.2 with ⟨rfl, h0⟩ | ⟨g, cap, cur, rfl, hB, hg, hnc, hcm, hcs, htake⟩
  · exact ⟨none, 0, by rw [h0], by omega, hb, fun h => by omega⟩
  · refine ⟨_, cap, rfl, hnc, hb, fun _ => ⟨g, rfl, hB, (Array.getElem?_eq_some_iff.1 hg).1, fun j hj => ⟨?_, Lib.frozen_of_heap hg _⟩, fun i s hs => ?_⟩⟩
    · have : n * 7 <= cap * 7 := Nat.mul_le_mul_right _ hnc
      rw [cZ hg, Nat.zero_add, Array.getElem?_eq_getElem (by omega)]; rfl
    · have hi := (List.getElem?_eq_some_iff.1 hs).1
      have hl : C[i]? = some C[i] := List.getElem?_eq_getElem (by omega);refine ⟨_, h4 i _ s hl hs, fun q v hv => ?_⟩;have hq := (List.getElem?_eq_some_iff.1 hv).1;rw [h2 _ (List.getElem_mem (by omega))] at hq;have hf := flatk_at C h2 i q _ hl hq;rw [cZ hg, <- Array.getElem?_toList];have e2 : (cur.toList.take (n * 7))[i * 7 + q]? = C[i][q]? := by rw [htake, hf]
      rw [List.getElem?_take] at e2;split at e2
      · rw [e2]; exact hv
      · omega
theorem cloneT_any (w0 w : World) (As : Option Addr) (n cs : Nat) (ss : List Ty) (hn : ss.length = n) (hz : n <= 9000) (hS : SubsAt w0 As ss) (hw : Below w0.heap.size w0 w) :
    Calls Tryz.prog 155 #[.slice As n cs] w (ClnOut w0 w n ss) := by
  have EQ : ∀ wz : World, (binOp .eql 48 (.slice As n cs) (.slice none 0 0)).run Tryz.prog wz = .ok (.bool As.isNone) wz := fun wz => Lib.run_eql_slice_nil wz _ _ _ _ _ _ _ Tryz.underlying48
  cases As with
  | none =>
    have h0 : ss = [] := hS.row.none_nil;have hn0 : n = 0 := by rw [<- hn, h0]; rfl
    subst hn0;clear hS hn h0;go_enter Tryz.func155, Tryz.ntmps155
    go_wp2_with fail
    go_ret;exact ⟨none, 0, rfl, Nat.le_refl _, Below.refl _ _, fun h => by omega⟩
  | some ad =>
    have HL : ∃ C : List (List Value), C.length = ss.length /\ (∀ l, l ∈ C -> l.length = 7) /\ (∀ (i : Nat) (l : List Value) (x : Ty), C[i]? = some l -> ss[i]? = some x -> TyAt w0 l x) /\ (∀ (j : Nat) (u : Value), C.flatten[j]? = some u -> w.cell? (ad.add j) = some u) /\ ∀ u ∈ C.flatten, u.oneCell' = true := by
      cases hc : ss with
      | nil => exact ⟨[], rfl, fun l h => (by cases h), fun i l x h => by simp at h, fun j u h => by simp at h, fun u h => by simp at h⟩
      | cons s0 r0 =>
        obtain ⟨g, o, _, _, _, _, _, _, _, e, hg, -⟩ := hS 0 s0 (by rw [hc]; rfl);obtain rfl := Option.some.inj e;obtain ⟨C, k1, k2, k3, k4⟩ := RowIn.lists (R := tR) (by show 0 < 7; omega) hS.row;rw [<- hc];refine ⟨C, k1, k2, k3, fun j u hu => ?_, fun u hu => ?_⟩
        · rw [WideShapes.add_plain]
          exact (hw.cell (p := ⟨g, _, none⟩) hg).trans (k4 j u hu)
        · obtain ⟨l, hl, hu⟩ := List.mem_flatten.1 hu
          obtain ⟨i, hi⟩ := List.mem_iff_getElem?.1 hl;have hil := (List.getElem?_eq_some_iff.1 hi).1;exact ty_one (k3 i l _ hi (List.getElem?_eq_getElem (by omega))) u hu
    obtain ⟨C, h1, h2, h4, hnews, hone⟩ := HL;have hfl : C.flatten.length = n * 7 := by rw [flatC_len C h2, h1, hn]
    have hnews2 : ∀ (j : Nat) (u : Value), C.flatten[j]? = some u -> (w.alloc (.cells #[] 50)).cell? (ad.add j) = some u := fun j u hu => cell_alloc (hnews j u hu)
    have own0 := World.ownsRow_lit (base := w.heap.size) (e := 50) (size := 7) w #[] 0 (Nat.le_refl _) (by decide) rfl;obtain ⟨i1, hi1, hy0, hy1, hy2⟩ := info_parts typ_info;have EQ' : ∀ wz : World, (binOp .eql 48 (.slice (some ad) n cs) (.slice none 0 0)).run Tryz.prog wz = .ok (.bool false) wz := EQ
    have hbase : w.heap.size <= (w.alloc (.cells #[] 50)).heap.size := by simp
    have HH4 := hZ h4;have HH2 := hZ h2;have HH1 := hZ h1;have HN := hZ hn;clear EQ hS hn hw h4 h2 h1 hnews;go_enter Tryz.func155, Tryz.ntmps155
    go_wp2_with (at_builtin; refine wpList_append_own_at _ rfl _ _ 48 rfl w.heap.size 50 i1 _ 7 112 Tryz.underlying48 hi1 hy0 hy1 hy2 rfl (by decide) _ 0 [] rfl own0 ad n cs C.flatten rfl ?c0 hnews2 hone ?c3 ?c4 hbase ?_)
    case c3 => unfold maxLen; omega
    case c4 => omega
    intro v5 w4 hown hgrow _ hat
    have FIN : Hid (ClnOut w0 w n ss (.returned v5) w4) := hZ (by
      have hown2 : w4.ownsRow w.heap.size 50 7 v5 n C.flatten := by first | exact hown | simpa using hown
      refine cln_own HN.out HH1.out HH2.out HH4.out hown2 ⟨hgrow.os, hgrow.tape, hgrow.output, Nat.le_trans hbase hgrow.size, fun b hb => ?_⟩;rw [hgrow.block b (by simp; omega) (by simp [Value.ownBlock]; omega)];exact Lib.alloc_old w _ b hb)
    clear hown hgrow hat hnews2 hone own0 EQ';go_wp2_with fail
    go_ret;exact FIN.out
end Go.Proofs.YtddlmigofilejaaGreat
