/-
  Several texts in one.
-/
import Derived.Test.YtddlmigofilejaaGreatK23
set_option maxRecDepth 100000
set_option maxHeartbeats 16000000
namespace Go.Proofs.YtddlmigofilejaaGreat
open Go Go.RowKit Go.Shelf
open Go.Sort
open M
theorem chs_src {w : World} {A : Option Addr} {xs : List Ch} (h : RowIn chR w A xs) : (A = none -> xs.length = 0) /\ ∀ wx, Below w.heap.size w wx -> ∀ ad, A = some ad -> ∀ (j : Nat) (u : Value), (xs.map chL).flatten[j]? = some u -> wx.cell? (ad.add j) = some u := by
 obtain ⟨C, h1, -, h3, h4, h5⟩ := h.src (by decide)
 have e : C = xs.map chL := by
  apply List.ext_getElem?
  intro i;rw [List.getElem?_map];rcases Nat.lt_or_ge i C.length with hi | hi
  ·have e1 : C[i]? = some C[i] := List.getElem?_eq_getElem hi
   have e2 : xs[i]? = some (xs[i]'(by omega)) := List.getElem?_eq_getElem (by omega);rw [e1, e2];exact congrArg some (h3 i _ _ e1 e2)
  ·rw [List.getElem?_eq_none hi, List.getElem?_eq_none (by omega)]; rfl
 rw [<- e]
 exact ⟨h4, h5⟩
def FewIf (l : List If) : Prop := ∀ x ∈ l, x.types.length <= 20000 /\ x.vals.length <= 20000
theorem mayIf_mod {x : If} (h : mayIf x = true) : x.mod.size <= 20 := by
 unfold mayIf at h
 rw [Bool.and_eq_true, may_open] at h
 simp only [Bool.and_eq_true] at h
 exact small_size h.1.1.2
theorem nameOk_size {gr : Bool} {s : ByteArray} (h : nameOk gr s = true) : s.size <= 20 := by
 unfold nameOk at h
 cases gr with
 | true => exact great_size h
 | false => exact small_size h
theorem okN_of {gr : Bool} {l : List Nm} (h : risesN gr l = true) (hl : l.length <= 20000) : OkN l :=
 ⟨hl, risesN_rise h, fun x hx => (risesN_ok h x hx).2, fun x hx => by have := nameOk_size (risesN_ok h x hx).1; omega⟩
theorem gI_ok {l : List If} (h : mayPk l = true) (hf : FewIf l) (s : ByteArray) : OkN (gI l s).types /\ OkN (gI l s).vals := by
 unfold gI
 cases e : l.find? (isMd s) with
 | none => exact ⟨⟨by decide, List.Pairwise.nil, (fun x hx => by cases hx), (fun x hx => by cases hx)⟩, ⟨by decide, List.Pairwise.nil, (fun x hx => by cases hx), (fun x hx => by cases hx)⟩⟩
 | some x =>
  have hx := List.mem_of_find?_eq_some e;obtain ⟨h1, h2⟩ := mayIf_parts (mayPk_may h hx);exact ⟨okN_of h1 (hf x hx).1, okN_of h2 (hf x hx).2⟩
theorem chMod_eq (a b : List If) (s : ByteArray) : chMod a b s = chRow s true (gI a s).types (gI b s).types ++ chRow s false (gI a s).vals (gI b s).vals := by
 unfold chMod
 rw [<- gI_row, <- gI_row, <- gI_row, <- gI_row]
 rfl
def CgOut (a b : List If) (w : World) (e : Ending) (w' : World) : Prop :=
 Below w.heap.size w w' /\ ((fairP a b = false /\ e = .returned (.tuple #[.slice none 0 0, .iface 33 (.int .i64 1)])) \/ (fairP a b = true /\ (chP a b).length <= 3200000 /\ ∃ (A : Option Addr) (c : Nat), e = .returned (.tuple #[.slice A (chP a b).length c, .nilIface]) /\ RowIn chR w' A (chP a b)))
def BoOut (a b : List If) (w : World) (e : Ending) (w' : World) : Prop :=
 Below w.heap.size w w' /\ ((fairP a b = false /\ e = .returned (.tuple #[.int .i64 0, .iface 33 (.int .i64 1)])) \/ (fairP a b = true /\ e = .returned (.tuple #[.int .i64 (ofP (chP a b)), .nilIface])))
theorem changes_any (A : Option Addr) (ca : Nat) (B : Option Addr) (cb : Nat) (a b : List If) (w : World) (hA : RowIn ifR w A a) (hB : RowIn ifR w B b) (hla : a.length <= 9223372036854775807) (hlb : b.length <= 9223372036854775807) (hfa : FewIf a) (hfb : FewIf b) :
  Calls Tryz.prog 7 #[.slice A a.length ca, .slice B b.length cb] w (CgOut a b w) := by
 have OO := ofOne_any A ca B cb a b w hA hB hla hlb
 cases hf : fairP a b with
 | false =>
  rw [hf] at OO;have HF := hZ hf;have HO := hZ OO;clear OO hf hA hB;go_enter Tryz.func7, Tryz.ntmps7
  go_wp2_with fail
  refine HO.out.mono ?_; rintro e w2 ⟨rfl, hb2⟩
  have HB2 := hZ hb2;clear hb2;go_wp2_with fail
  go_ret2
  exact ⟨HB2.out, .inl ⟨HF.out, rfl⟩⟩
 | true =>
  rw [hf] at OO;obtain ⟨ma, mb, -⟩ := fairP_parts hf;have h20a := (mayPk_at ma).1;have h20b := (mayPk_at mb).1;have HO := hZ OO;have HF := hZ hf;have CE : Hid (∀ wx, Below w.heap.size w wx -> Calls Tryz.prog 19 #[.slice A a.length ca, .slice B b.length cb, .func (.func 20) #[] #[]] wx fun e w' => ∃ (A' : Option Addr) (c' : Nat), e = .returned (.slice A' (uniN (a.map (·.mod) ++ b.map (·.mod))).length c') /\ NamesAt w' A' (uniN (a.map (·.mod) ++ b.map (·.mod))) /\ Below wx.heap.size wx w') := hZ (fun wx hb => eitherI_any A ca B cb a b wx (hA.below hb) (hB.below hb) (by omega) (by omega));have FA : Hid (∀ (s : ByteArray) (wx : World), Below w.heap.size w wx -> Calls Tryz.prog 21 #[.slice A a.length ca, .func (.func 20) #[] #[], .string s] wx (GiOut w wx a s)) := hZ (fun s wx hb => findI_any A ca a s w wx hA hb (by omega) (mayPk_rise ma));have FB : Hid (∀ (s : ByteArray) (wx : World), Below w.heap.size w wx -> Calls Tryz.prog 21 #[.slice B b.length cb, .func (.func 20) #[] #[], .string s] wx (GiOut w wx b s)) := hZ (fun s wx hb => findI_any B cb b s w wx hB hb (by omega) (mayPk_rise mb));have OKA := hZ (gI_ok ma hfa);have OKB := hZ (gI_ok mb hfb);obtain ⟨ms, hms⟩ : ∃ ms, ms = uniN (a.map (·.mod) ++ b.map (·.mod)) := ⟨_, rfl⟩
  have HSZ : Hid (∀ s ∈ ms, s.size <= 281474976710656) := hZ (fun s hs => by
   rw [hms, uniN_mem, List.mem_append] at hs;rcases hs with hs | hs
   ·obtain ⟨x, hx, rfl⟩ := List.mem_map.1 hs
    have := mayIf_mod (mayPk_may ma hx); omega
   ·obtain ⟨x, hx, rfl⟩ := List.mem_map.1 hs
    have := mayIf_mod (mayPk_may mb hx); omega)
  have hl : ms.length <= 40 := by
   rw [hms];refine Nat.le_trans (uniN_le _) ?_;simp; omega
  have hrow : Hid (chP a b = ms.flatMap (chMod a b)) := hZ (by rw [hms]; rfl);rw [<- hms] at CE;obtain ⟨n, hn⟩ : ∃ n, n = ms.length := ⟨_, rfl⟩;rw [<- hn] at CE hl;have HN := hZ hn;obtain ⟨na, hna⟩ : ∃ k, k = a.length := ⟨_, rfl⟩;obtain ⟨nb, hnb⟩ : ∃ k, k = b.length := ⟨_, rfl⟩;rw [<- hna, <- hnb] at CE HO;rw [<- hna] at FA;rw [<- hnb] at FB;rw [<- hna, <- hnb];clear hA hB hla hlb hfa hfb ma mb h20a h20b hms hn hna hnb OO hf;go_enter Tryz.func7, Tryz.ntmps7
  go_wp2_with fail
  refine HO.out.mono ?_; rintro e w1 ⟨rfl, hb1⟩
  have HB1 := hZ hb1;clear hb1 HO;go_wp2_with fail
  refine (CE.out w1 HB1.out).mono ?_; rintro e wl ⟨A2, c2, rfl, hN2, hb2⟩
  have HN2 := hZ hN2;have HBL := hZ (below_over HB1.out hb2);clear CE hN2 hb2 HB1;go_wp2_with fail
  go_loopw [6, 22] (fun s6 s22 wr => ∃ (k q : Nat) (A6 : Option Addr) (c6 : Nat), k <= n /\ q <= 80000 * k /\ s22 = .int .i64 k /\ s6 = .slice A6 q c6 /\ Hid (q = ((ms.take k).flatMap (chMod a b)).length) /\ Hid (wr.ownsRow wl.heap.size 54 4 (.slice A6 q c6) q (((ms.take k).flatMap (chMod a b)).map chL).flatten) /\ Hid (Below wl.heap.size wl wr)) (fun _ s22 _ => n - (intOf s22).toNat)
  case atStart => exact ⟨0, 0, none, 0, by omega, by omega, rfl, rfl, hZ rfl, hZ (World.ownsRow_nil _ _ _ _), hZ (Below.refl _ _)⟩
  case round =>
   obtain ⟨k, q, A6, c6, hk, hq, rfl, rfl, HQ, HO, HB⟩ := hrel;obtain ⟨wo, rfl⟩ : ∃ wo : World, wo = wr := ⟨_, rfl⟩;by_cases hlt : k < n
   ·obtain ⟨s, hs⟩ : ∃ s, ms[k]? = some s := ⟨_, List.getElem?_eq_getElem (by rw [<- HN.out]; exact hlt)⟩
    obtain ⟨g, o, rfl, hg, hc, -⟩ := (HN2.out.below HB.out) k s hs;have FAo := hZ (FA.out s wo (below_over HBL.out HB.out));have hk0 : (0 : Int) <= k := by omega
    have hk1 : (k : Int) < n := by omega
    obtain ⟨cs, hcs⟩ : ∃ cs, cs = (ms.take k).flatMap (chMod a b) := ⟨_, rfl⟩;have STEP : Hid ((ms.take (k + 1)).flatMap (chMod a b) = cs ++ chMod a b s) := hZ (by rw [List.take_add_one, hs, hcs]; simp);have HSM := hZ (HSZ.out s (List.mem_of_getElem? hs));rw [<- hcs] at HQ HO;clear hs hg hcs;go_upto_region 7 with fail
    clear hc;go_wp2_with fail
    refine FAo.out.mono ?_; rintro e w2 ⟨l, rfl, hL, hb1⟩
    obtain ⟨x, hx⟩ : ∃ x, x = gI a s := ⟨_, rfl⟩;rw [<- hx] at hL;have hL0 := hL w (Below.refl _ _);obtain ⟨A1, c1, A2, c2, rfl, -⟩ := hL0
    have HIx : Hid (∀ wx, Below w.heap.size w wx -> RowIn nmR wx A1 x.types /\ RowIn nmR wx A2 x.vals) := hZ (fun wx hb => by
     obtain ⟨_, _, _, _, e, -, -, -, -, h5, h6⟩ := hL wx hb;simp only [List.cons.injEq, Value.slice.injEq, and_true, true_and] at e;obtain ⟨⟨rfl, -⟩, rfl, -⟩ := e;exact ⟨h5, h6⟩)
    obtain ⟨q1, hq1⟩ : ∃ q, (a.find? (isMd s)).isSome = q := ⟨_, rfl⟩;obtain ⟨w3, hw1⟩ : ∃ wz, wz = w2.alloc (.cells #[.string x.pkg, .int .i64 x.major, .string x.mod, .slice A1 x.types.length c1, .slice A2 x.vals.length c2] 44) := ⟨_, rfl⟩;have B1 : Below w2.heap.size w2 w3 := by rw [hw1]; exact below_new (Below.refl _ _) _
    have Z1 : w3.heap[w2.heap.size]? = some (.cells #[.string x.pkg, .int .i64 x.major, .string x.mod, .slice A1 x.types.length c1, .slice A2 x.vals.length c2] 44 (0, 0)) := by rw [hw1]; exact heap_alloc_new w2 _
    have BB1 : Below wo.heap.size wo w3 := below_over hb1 B1;have HB1 : Hid (Below wl.heap.size wl w3) := hZ (HB.out.trans (BB1.mono HB.out.size));have HZ1 := hZ Z1;have HXx := hZ hx;have HW1 := hZ hw1;rw [hq1];have HO1 : Hid (w3.ownsRow wl.heap.size 54 4 (.slice A6 q c6) q (cs.map chL).flatten) := hZ (own_block11 HO.out (fun b hb => BB1.block b (HO.out.lt b hb).2));clear hL hx hb1 FAo hq1 hw1 B1 Z1 BB1;go_upto_region 8 with fail
    rw [<- HW1.out];clear HW1;go_wp2_with fail
    refine (FB.out s w3 (below_over HBL.out HB1.out)).mono ?_; rintro e w5 ⟨l, rfl, hL, hb2⟩
    obtain ⟨y, hy⟩ : ∃ x, x = gI b s := ⟨_, rfl⟩;rw [<- hy] at hL;have hL0 := hL w (Below.refl _ _);obtain ⟨A3, c3, A4, c4, rfl, -⟩ := hL0
    have HIy : Hid (∀ wx, Below w.heap.size w wx -> RowIn nmR wx A3 y.types /\ RowIn nmR wx A4 y.vals) := hZ (fun wx hb => by
     obtain ⟨_, _, _, _, e, -, -, -, -, h5, h6⟩ := hL wx hb;simp only [List.cons.injEq, Value.slice.injEq, and_true, true_and] at e;obtain ⟨⟨rfl, -⟩, rfl, -⟩ := e;exact ⟨h5, h6⟩)
    obtain ⟨q2, hq2⟩ : ∃ q, (b.find? (isMd s)).isSome = q := ⟨_, rfl⟩;obtain ⟨w6, hw2⟩ : ∃ wz, wz = w5.alloc (.cells #[.string y.pkg, .int .i64 y.major, .string y.mod, .slice A3 y.types.length c3, .slice A4 y.vals.length c4] 44) := ⟨_, rfl⟩;have B2 : Below w5.heap.size w5 w6 := by rw [hw2]; exact below_new (Below.refl _ _) _
    have Z2 : w6.heap[w5.heap.size]? = some (.cells #[.string y.pkg, .int .i64 y.major, .string y.mod, .slice A3 y.types.length c3, .slice A4 y.vals.length c4] 44 (0, 0)) := by rw [hw2]; exact heap_alloc_new w5 _
    have BB2 : Below w3.heap.size w3 w6 := below_over hb2 B2;have HB2 : Hid (Below wl.heap.size wl w6) := hZ (HB1.out.trans (BB2.mono HB1.out.size));have HZ2 := hZ Z2;have HXy := hZ hy;have HW2 := hZ hw2;rw [hq2];have HO2 : Hid (w6.ownsRow wl.heap.size 54 4 (.slice A6 q c6) q (cs.map chL).flatten) := hZ (own_block11 HO1.out (fun b hb => BB2.block b (HO1.out.lt b hb).2));have HZ3 : Hid (w6.heap[w2.heap.size]? = some (.cells #[.string x.pkg, .int .i64 x.major, .string x.mod, .slice A1 x.types.length c1, .slice A2 x.vals.length c2] 44 (0, 0))) := hZ ((BB2.block _ (Array.getElem?_eq_some_iff.1 HZ1.out).1).trans HZ1.out);have DT : Hid (∀ wx, Below wl.heap.size wl wx -> Calls Tryz.prog 22 #[.string s, .bool true, .slice A1 x.types.length c1, .slice A3 y.types.length c3] wx fun e w' => ∃ (A' : Option Addr) (c' : Nat), e = .returned (.slice A' (chRow s true x.types y.types).length c') /\ RowIn chR w' A' (chRow s true x.types y.types) /\ Below wx.heap.size wx w') := hZ (fun wx hb => differ_any s true A1 c1 A3 c3 x.types y.types wx (HIx.out wx (below_over HBL.out hb)).1 (HIy.out wx (below_over HBL.out hb)).1 (by rw [HXx.out]; exact (OKA.out s).1) (by rw [HXy.out]; exact (OKB.out s).1) HSM.out);have DV : Hid (∀ wx, Below wl.heap.size wl wx -> Calls Tryz.prog 22 #[.string s, .bool false, .slice A2 x.vals.length c2, .slice A4 y.vals.length c4] wx fun e w' => ∃ (A' : Option Addr) (c' : Nat), e = .returned (.slice A' (chRow s false x.vals y.vals).length c') /\ RowIn chR w' A' (chRow s false x.vals y.vals) /\ Below wx.heap.size wx w') := hZ (fun wx hb => differ_any s false A2 c2 A4 c4 x.vals y.vals wx (HIx.out wx (below_over HBL.out hb)).2 (HIy.out wx (below_over HBL.out hb)).2 (by rw [HXx.out]; exact (OKA.out s).2) (by rw [HXy.out]; exact (OKB.out s).2) HSM.out)
    have LT : (chRow s true x.types y.types).length <= 40000 := by
     have := chRow_len s true x.types y.types
     have h1 : x.types.length <= 20000 := by rw [HXx.out]; exact (OKA.out s).1.len
     have h2 : y.types.length <= 20000 := by rw [HXy.out]; exact (OKB.out s).1.len
     omega
    have LV : (chRow s false x.vals y.vals).length <= 40000 := by
     have := chRow_len s false x.vals y.vals
     have h1 : x.vals.length <= 20000 := by rw [HXx.out]; exact (OKA.out s).2.len
     have h2 : y.vals.length <= 20000 := by rw [HXy.out]; exact (OKB.out s).2.len
     omega
    have CM : Hid (chMod a b s = chRow s true x.types y.types ++ chRow s false x.vals y.vals) := hZ (by rw [chMod_eq, HXx.out, HXy.out]);obtain ⟨rt, hrt⟩ : ∃ r, r = chRow s true x.types y.types := ⟨_, rfl⟩;obtain ⟨rv, hrv⟩ : ∃ r, r = chRow s false x.vals y.vals := ⟨_, rfl⟩;obtain ⟨nt, hnt⟩ : ∃ k, k = rt.length := ⟨_, rfl⟩;obtain ⟨nv, hnv⟩ : ∃ k, k = rv.length := ⟨_, rfl⟩;rw [<- hrt] at DT CM LT;rw [<- hrv] at DV CM LV;rw [<- hnt] at DT LT;rw [<- hnv] at DV LV;have HLN3 := hZ hnt;have HLN4 := hZ hnv;have HZ4 := hZ HZ2.out;obtain ⟨x0, x1, x2, x3, x4⟩ := cq5 HZ3.out;simp at x0 x1 x2 x3 x4;obtain ⟨y0, y1, y2, y3, y4⟩ := cq5 HZ4.out;simp at y0 y1 y2 y3 y4;clear hL hy hb2 hq2 hw2 B2 Z2 BB2 hrt hrv hnt hnv HIx HIy;go_upto_region 9 with fail
    rw [<- HW2.out];clear HW2;go_wp2_with fail
    refine (DT.out w6 HB2.out).mono ?_; rintro e w7 ⟨A39, c39, rfl, hR7, hb7⟩
    have HRR3 := hZ hR7;have HB3D := hZ (HB2.out.trans (hb7.mono HB2.out.size));have HO3 : Hid (w7.ownsRow wl.heap.size 54 4 (.slice A6 q c6) q (cs.map chL).flatten) := hZ (own_block11 HO2.out (fun b hb => hb7.block b (HO2.out.lt b hb).2));have HZ5 := hZ ((hb7.block _ (Array.getElem?_eq_some_iff.1 HZ3.out).1).trans HZ3.out);have HZ6 := hZ ((hb7.block _ (Array.getElem?_eq_some_iff.1 HZ4.out).1).trans HZ4.out);clear hR7 hb7 x0 x1 x2 x3 x4 y0 y1 y2 y3 y4;obtain ⟨inf, g1', g2', g3', g4'⟩ := info_parts chInfo12;obtain ⟨zA3, sA3⟩ := chs_src HRR3.out;obtain ⟨vN, w8, hr, hO3, hg3⟩ := run_append_src (P := Tryz.prog) (w := w7) wl.heap.size 25 25 54 inf (.agg #[.int .i64 0, .string ⟨#[]⟩, .string ⟨#[]⟩, .bool false]) 4 48 Tryz.underlying25 g1' g2' g3' g4' (by rfl) (by decide) (.slice A6 q c6) q (cs.map chL).flatten HO3.out A39 nt c39 (rt.map chL).flatten (by rw [HLN3.out]; exact zA3) (by rw [HLN3.out]; exact chs_flat _) (sA3 w7 (Below.refl _ _)) (chs_one _) (by unfold maxLen; omega) (by omega) HB3D.out.size;have HR := hZ hr;have HB3E : Hid (Below wl.heap.size wl w8) := hZ (below_grown HB3D.out HB3D.out.size HO3.out hg3);obtain ⟨A63, c63, rfl⟩ := own_slice hO3;have HO5 : Hid (w8.ownsRow wl.heap.size 54 4 (.slice A63 (q + nt) c63) (q + nt) ((cs ++ rt).map chL).flatten) := hZ (by rw [List.map_append, List.flatten_append]; exact hO3);have HK3 : Hid (∀ (bx : Nat) (cs : Array Value) (T : TypeId) (fr : Nat × Nat), w7.heap[bx]? = some (.cells cs T fr) -> 54 ≠ T -> w8.heap[bx]? = some (.cells cs T fr)) := hZ (fun bx cs T fr h hT => (hg3.block bx (Array.getElem?_eq_some_iff.1 h).1 (fun e => own_ne HO3.out h hT e.symm)).trans h);clear hO3 hg3 g1' g2' g3' g4' zA3 sA3;go_upto_region 10 with (first | (at_builtin; go_loud (refine Lib.wpList_append_run _ rfl _ _ _ _ rfl _ _ rfl rfl _ _ HR.out ?_)))
    have HZ7 := hZ (HK3.out _ _ _ _ HZ5.out (by decide));have HZ8 := hZ (HK3.out _ _ _ _ HZ6.out (by decide));clear HR HK3 hr;obtain ⟨x0, x1, x2, x3, x4⟩ := cq5 HZ7.out;simp at x0 x1 x2 x3 x4;obtain ⟨y0, y1, y2, y3, y4⟩ := cq5 HZ8.out;simp at y0 y1 y2 y3 y4;go_wp2_with fail
    refine (DV.out w8 HB3E.out).mono ?_; rintro e w9 ⟨A49, c49, rfl, hR9, hb9⟩
    have HRR4 := hZ hR9;have HB4D := hZ (HB3E.out.trans (hb9.mono HB3E.out.size));have HO6 : Hid (w9.ownsRow wl.heap.size 54 4 (.slice A63 (q + nt) c63) (q + nt) ((cs ++ rt).map chL).flatten) := hZ (own_block11 HO5.out (fun b hb => hb9.block b (HO5.out.lt b hb).2));clear hR9 hb9 x0 x1 x2 x3 x4 y0 y1 y2 y3 y4;obtain ⟨inf, g1', g2', g3', g4'⟩ := info_parts chInfo12;obtain ⟨zA4, sA4⟩ := chs_src HRR4.out;obtain ⟨vN, w10, hr, hO3, hg3⟩ := run_append_src (P := Tryz.prog) (w := w9) wl.heap.size 25 25 54 inf (.agg #[.int .i64 0, .string ⟨#[]⟩, .string ⟨#[]⟩, .bool false]) 4 48 Tryz.underlying25 g1' g2' g3' g4' (by rfl) (by decide) (.slice A63 (q + nt) c63) (q + nt) ((cs ++ rt).map chL).flatten HO6.out A49 nv c49 (rv.map chL).flatten (by rw [HLN4.out]; exact zA4) (by rw [HLN4.out]; exact chs_flat _) (sA4 w9 (Below.refl _ _)) (chs_one _) (by unfold maxLen; omega) (by omega) HB4D.out.size;have HR := hZ hr;have HB4E : Hid (Below wl.heap.size wl w10) := hZ (below_grown HB4D.out HB4D.out.size HO6.out hg3);obtain ⟨A64, c64, rfl⟩ := own_slice hO3;have HO7 : Hid (w10.ownsRow wl.heap.size 54 4 (.slice A64 ((q + nt) + nv) c64) ((q + nt) + nv) (((cs ++ rt) ++ rv).map chL).flatten) := hZ (by rw [List.map_append, List.flatten_append]; exact hO3);have HK4 : Hid (∀ (bx : Nat) (cs : Array Value) (T : TypeId) (fr : Nat × Nat), w9.heap[bx]? = some (.cells cs T fr) -> 54 ≠ T -> w10.heap[bx]? = some (.cells cs T fr)) := hZ (fun bx cs T fr h hT => (hg3.block bx (Array.getElem?_eq_some_iff.1 h).1 (fun e => own_ne HO6.out h hT e.symm)).trans h);clear hO3 hg3 g1' g2' g3' g4' zA4 sA4;have NQ : Hid (q + nt + nv = ((ms.take (k + 1)).flatMap (chMod a b)).length) := hZ (by rw [STEP.out, CM.out, List.length_append, List.length_append, <- HQ.out, HLN3.out, HLN4.out]; omega)
    have NO : Hid (w10.ownsRow wl.heap.size 54 4 (.slice A64 (q + nt + nv) c64) (q + nt + nv) (((ms.take (k + 1)).flatMap (chMod a b)).map chL).flatten) := hZ (by
     rw [STEP.out, CM.out, <- List.append_assoc];exact HO7.out)
    go_wp2_with (first | (at_builtin; go_loud (refine Lib.wpList_append_run _ rfl _ _ _ _ rfl _ _ rfl rfl _ _ HR.out ?_)))
    clear HR hr;go_roundw
    case rel => exact ⟨k + 1, q + nt + nv, A64, c64, by omega, by omega, by go_num, rfl, NQ, NO, HB4E⟩
    case measure => simp [intOf]; omega
   ·obtain rfl : k = n := by omega
    have ET : Hid (ms.take k = ms) := hZ (List.take_of_length_le (by rw [<- HN.out]; exact Nat.le_refl _))
    have FIN : Hid (q = (chP a b).length /\ RowIn chR wo A6 (chP a b) /\ Below w.heap.size w wo) := hZ (by
     have h1 := HQ.out;have h2 := HO.out;rw [ET.out, <- hrow.out] at h1 h2;exact ⟨h1, chs_row h1 h2, below_over HBL.out HB.out⟩)
    have hq32 : q <= 3200000 := by omega
    clear HQ HO;go_wp2_with fail
    go_ret2
    exact ⟨FIN.out.2.2, .inr ⟨HF.out, by rw [<- FIN.out.1]; exact hq32, A6, c6, by (rw [<- FIN.out.1]; try rfl), FIN.out.2.1⟩⟩
theorem bumpOf_any (A : Option Addr) (ca : Nat) (B : Option Addr) (cb : Nat) (a b : List If) (w : World) (hA : RowIn ifR w A a) (hB : RowIn ifR w B b) (hla : a.length <= 9223372036854775807) (hlb : b.length <= 9223372036854775807) (hfa : FewIf a) (hfb : FewIf b) :
  Calls Tryz.prog 8 #[.slice A a.length ca, .slice B b.length cb] w (BoOut a b w) := by
 have CC := hZ (changes_any A ca B cb a b w hA hB hla hlb hfa hfb)
 obtain ⟨na, hna⟩ : ∃ k, k = a.length := ⟨_, rfl⟩
 obtain ⟨nb, hnb⟩ : ∃ k, k = b.length := ⟨_, rfl⟩
 rw [<- hna, <- hnb] at CC ⊢
 clear hA hB hla hlb hfa hfb hna hnb
 go_enter Tryz.func8, Tryz.ntmps8
 go_wp2_with fail
 refine CC.out.mono ?_
 rintro e w2 ⟨hb2, ⟨hf, rfl⟩ | ⟨hf, h32, A2, c2, rfl, hR2⟩⟩
 ·have FIN := hZ (And.intro hb2 hf)
  clear hb2 hf CC;go_wp2_with fail
  go_ret2
  exact ⟨FIN.out.1, .inl ⟨FIN.out.2, rfl⟩⟩
 have HF := hZ hf
 have HB2 := hZ hb2
 have HR2 := hZ hR2
 obtain ⟨cs, hcs⟩ : ∃ cs, cs = chP a b := ⟨_, rfl⟩
 obtain ⟨n, hn⟩ : ∃ n, n = cs.length := ⟨_, rfl⟩
 have HN := hZ hn
 have HCS := hZ hcs
 rw [<- hcs] at HR2 h32
 rw [<- hn] at h32
 rw [<- hcs, <- hn]
 clear hb2 hf hR2 CC hcs hn
 go_wp2_with fail
 go_loopw [8, 22] (fun s8 s22 wr => ∃ (k : Nat) (m : Int), k <= n /\ s22 = .int .i64 k /\ s8 = .int .i64 m /\ Hid (m = ofP (cs.take k)) /\ Hid (Below w2.heap.size w2 wr)) (fun _ s22 _ => n - (intOf s22).toNat)
 case atStart => exact ⟨0, 1, by omega, rfl, rfl, hZ (by simp [ofP]), hZ (Below.refl _ _)⟩
 case round =>
  obtain ⟨k, m, hk, rfl, rfl, HM, HB⟩ := hrel;obtain ⟨wo, rfl⟩ : ∃ wo : World, wo = wr := ⟨_, rfl⟩;by_cases hlt : k < n
  ·obtain ⟨x, hx⟩ : ∃ x, cs[k]? = some x := ⟨_, List.getElem?_eq_getElem (by rw [<- HN.out]; exact hlt)⟩
   obtain ⟨g, o, rfl, hg, a0, a1, a2, a3⟩ := (HR2.out.below HB.out).ch hx;obtain ⟨w4, hw4⟩ : ∃ w4, w4 = wo.alloc (.cells #[.int .i64 x.kind, .string x.mod, .string x.name, .bool x.ofT] 54) := ⟨_, rfl⟩;have B4 : Below wo.heap.size wo w4 := by rw [hw4]; exact below_new (Below.refl _ _) _
   have Y4 : w4.heap[wo.heap.size]? = some (.cells #[.int .i64 x.kind, .string x.mod, .string x.name, .bool x.ofT] 54 (0, 0)) := by rw [hw4]; exact heap_alloc_new wo _
   have HB4 := hZ (HB.out.trans (B4.mono HB.out.size))
   have NM : Hid (max m (stepP x.kind) = ofP (cs.take (k + 1))) := hZ (by
    rw [List.take_add_one, hx, HM.out];simp [ofP])
   have SP := hZ (step_any x.kind w4);have HW4 := hZ hw4;have hk0 : (0 : Int) <= k := by omega
   have hk1 : (k : Int) < n := by omega
   have y0 := cZ Y4 0;simp at y0;clear hx hg B4 hw4 Y4;go_upto_region 8 with fail
   rw [<- HW4.out];clear HW4 a0 a1 a2 a3;go_wp2_with fail
   refine SP.out.mono ?_; rintro e w5 ⟨rfl, rfl⟩
   clear SP y0;go_wp2_with fail
   go_roundw
   case rel => exact ⟨k + 1, max m (stepP x.kind), by omega, by go_num, by first | rfl | go_num, NM, HB4⟩
   case measure => simp [intOf]; omega
  ·obtain rfl : k = n := by omega
   have RES : Hid (m = ofP (chP a b)) := hZ (by rw [HM.out, List.take_of_length_le (by rw [<- HN.out]; exact Nat.le_refl _), HCS.out]);have FIN := hZ (below_over HB2.out HB.out);go_wp2_with fail
   go_ret2
   exact ⟨FIN.out, .inr ⟨HF.out, by (rw [<- RES.out]; try rfl)⟩⟩
def exF12 : Nm := ⟨⟨#[102]⟩, leafK 1⟩
def exG12 : Nm := ⟨⟨#[103]⟩, leafK 1⟩
def exA12 : If := ⟨⟨#[112]⟩, 1, ⟨#[109]⟩, [], [exF12]⟩
def exB12 : If := ⟨⟨#[112]⟩, 1, ⟨#[109]⟩, [], [exF12, exG12]⟩
theorem ex12_fair : fairP [exA12] [exB12] = true := by decide +kernel
theorem ex12_not : fairP [zIf] [exB12] = false := by decide +kernel
theorem ex12_mods : uniN (([exA12].map (·.mod)) ++ [exB12].map (·.mod)) = [⟨#[109]⟩] := by
  refine rising_one _ _ (uniN_rise _) (List.pairwise_singleton _ _) fun s => ?_
  rw [uniN_mem];simp [exA12, exB12]
theorem uniN_nil : uniN ([] ++ []) = [] := by
  refine rising_one _ _ (uniN_rise _) List.Pairwise.nil fun s => ?_
  rw [uniN_mem]; simp
theorem ex12_vals : uniN (([exF12].map (·.name)) ++ [exF12, exG12].map (·.name)) = [⟨#[102]⟩, ⟨#[103]⟩] := by
  refine rising_one _ _ (uniN_rise _) ?_ fun s => ?_
  · refine List.pairwise_cons.2 ⟨fun s hs => ?_, List.pairwise_singleton _ _⟩
    obtain rfl := List.mem_singleton.1 hs;show LtS _ _
    unfold LtS
    decide +kernel
  · rw [uniN_mem]
    simp [exF12, exG12]
theorem ex12_f : oneP false ⟨#[102]⟩ [exF12] [exF12, exG12] = 0 := by
  unfold oneP
  rw [show valAt [exF12, exG12] ⟨#[102]⟩ = some (leafK 1) from rfl, show valAt [exF12] ⟨#[102]⟩ = some (leafK 1) from rfl];dsimp only
  rw [if_pos ((sameT_iff _ _).2 rfl)]
theorem ex12_g : oneP false ⟨#[103]⟩ [exF12] [exF12, exG12] = 4 := by
  unfold oneP
  rw [show valAt [exF12, exG12] ⟨#[103]⟩ = some (leafK 1) from rfl, show valAt [exF12] ⟨#[103]⟩ = none from rfl]
theorem ex12_ch : chP [exA12] [exB12] = [⟨4, ⟨#[109]⟩, ⟨#[103]⟩, false⟩] := by
  unfold chP
  rw [ex12_mods, List.flatMap_cons, List.flatMap_nil, List.append_nil];unfold chMod
  rw [show rowP [exA12] ⟨#[109]⟩ true = [] from rfl, show rowP [exB12] ⟨#[109]⟩ true = [] from rfl, show rowP [exA12] ⟨#[109]⟩ false = [exF12] from rfl, show rowP [exB12] ⟨#[109]⟩ false = [exF12, exG12] from rfl];unfold chRow
  rw [ex12_vals, show (List.map (·.name) ([] : List Nm)) = [] from rfl, uniN_nil, List.flatMap_nil, List.flatMap_cons, List.flatMap_cons, List.flatMap_nil, List.append_nil, List.nil_append];unfold chOne
  rw [ex12_f, ex12_g, if_pos rfl, if_neg (by decide)];rfl
theorem ex12_of : ofP (chP [exA12] [exB12]) = 2 := by rw [ex12_ch]; rfl
theorem ex12_few {x : If} {l : List If} (h : x = exA12 \/ x = exB12 \/ x = zIf) : FewIf [x] := fun y hy => by
  obtain rfl := List.mem_singleton.1 hy;rcases h with rfl | rfl | rfl <;> decide
theorem nm_lit {w : World} {d k : Nat} {cs : List Value} {x : Nm} (hd : w.heap[d]? = some (.cells cs.toArray 52 (0, 0))) (hs : x.name.size <= 9223372036854775807) (h : ∀ j v, ([.string x.name, .int .i64 1, .string ⟨#[]⟩, .int .i64 0, .string ⟨#[]⟩, .string ⟨#[]⟩, .slice none 0 0, .slice none 0 0] : List Value)[j]? = some v -> cs[k * 8 + j]? = some v) (ht : x.typ = leafK 1) :
    ∃ (g o : Nat) (l : List Value), some (⟨d, 0, none⟩ : Addr) = some ⟨g, o, none⟩ /\ g < w.heap.size /\ (∀ j v, l[j]? = some v -> w.cell? ⟨g, o + k * nmR.k + j, none⟩ = some v) /\ nmR.E w l x := by
  refine ⟨d, 0, [.string x.name, .int .i64 1, .string ⟨#[]⟩, .int .i64 0, .string ⟨#[]⟩, .string ⟨#[]⟩, .slice none 0 0, .slice none 0 0], rfl, (Array.getElem?_eq_some_iff.1 hd).1, fun j v hv => ?_, hs, _, rfl, ?_⟩
  · rw [cZ hd, List.getElem?_toArray, show 0 + k * nmR.k + j = k * 8 + j by show 0 + k * 8 + j = _; omega]
    exact h j v hv
  · rw [ht]
    exact .mk 1 ⟨#[]⟩ 0 ⟨#[]⟩ ⟨#[]⟩ [] [] none 0 none 0 (fun _ => [.int .i64 1, .string ⟨#[]⟩, .int .i64 0, .string ⟨#[]⟩, .string ⟨#[]⟩, .slice none 0 0, .slice none 0 0]) (by decide) (by decide) (by decide) (by decide) (by decide) (by decide) (fun i s h => by simp at h) (fun _ => rfl) (fun i t h => by simp at h) (fun i t h => by simp at h)
theorem ex12_a {w : World} {d g : Nat} (hd : w.heap[d]? = some (.cells #[.string ⟨#[102]⟩, .int .i64 1, .string ⟨#[]⟩, .int .i64 0, .string ⟨#[]⟩, .string ⟨#[]⟩, .slice none 0 0, .slice none 0 0] 52 (0, 0))) (hg : w.heap[g]? = some (.cells #[.string ⟨#[112]⟩, .int .i64 1, .string ⟨#[109]⟩, .slice none 0 0, .slice (some ⟨d, 0, none⟩) 1 1] 44 (0, 0))) : RowIn ifR w (some ⟨g, 0, none⟩) [exA12] := fun i x hx => by
  match i, hx with
  | 0, hx =>
    cases hx
    refine ⟨g, 0, [.string ⟨#[112]⟩, .int .i64 1, .string ⟨#[109]⟩, .slice none 0 0, .slice (some ⟨d, 0, none⟩) 1 1], rfl, (Array.getElem?_eq_some_iff.1 hg).1, fun j v hv => ?_, none, 0, some ⟨d, 0, none⟩, 1, rfl, by decide, by decide, by decide, by decide, fun i x h => by simp [exA12] at h, fun i x h => ?_⟩
    · rw [cZ hg, show 0 + 0 * ifR.k + j = j by omega, <- hv, <- List.getElem?_toArray]
    · match i, h with
      | 0, h =>
        cases h
        exact nm_lit (k := 0) (cs := [.string ⟨#[102]⟩, .int .i64 1, .string ⟨#[]⟩, .int .i64 0, .string ⟨#[]⟩, .string ⟨#[]⟩, .slice none 0 0, .slice none 0 0]) hd (by decide) (fun j v hv => by rw [show 0 * 8 + j = j by omega]; exact hv) rfl
      | i + 1, h => simp [exA12] at h
  | i + 1, hx => simp at hx
theorem ex12_b {w : World} {d g : Nat} (hd : w.heap[d]? = some (.cells #[.string ⟨#[102]⟩, .int .i64 1, .string ⟨#[]⟩, .int .i64 0, .string ⟨#[]⟩, .string ⟨#[]⟩, .slice none 0 0, .slice none 0 0, .string ⟨#[103]⟩, .int .i64 1, .string ⟨#[]⟩, .int .i64 0, .string ⟨#[]⟩, .string ⟨#[]⟩, .slice none 0 0, .slice none 0 0] 52 (0, 0))) (hg : w.heap[g]? = some (.cells #[.string ⟨#[112]⟩, .int .i64 1, .string ⟨#[109]⟩, .slice none 0 0, .slice (some ⟨d, 0, none⟩) 2 2] 44 (0, 0))) : RowIn ifR w (some ⟨g, 0, none⟩) [exB12] := fun i x hx => by
  match i, hx with
  | 0, hx =>
    cases hx
    refine ⟨g, 0, [.string ⟨#[112]⟩, .int .i64 1, .string ⟨#[109]⟩, .slice none 0 0, .slice (some ⟨d, 0, none⟩) 2 2], rfl, (Array.getElem?_eq_some_iff.1 hg).1, fun j v hv => ?_, none, 0, some ⟨d, 0, none⟩, 2, rfl, by decide, by decide, by decide, by decide, fun i x h => by simp [exB12] at h, fun i x h => ?_⟩
    · rw [cZ hg, show 0 + 0 * ifR.k + j = j by omega, <- hv, <- List.getElem?_toArray]
    · match i, h with
      | 0, h =>
        cases h
        exact nm_lit (k := 0) (cs := [.string ⟨#[102]⟩, .int .i64 1, .string ⟨#[]⟩, .int .i64 0, .string ⟨#[]⟩, .string ⟨#[]⟩, .slice none 0 0, .slice none 0 0, .string ⟨#[103]⟩, .int .i64 1, .string ⟨#[]⟩, .int .i64 0, .string ⟨#[]⟩, .string ⟨#[]⟩, .slice none 0 0, .slice none 0 0]) hd (by decide) (fun j v hv => by
          rw [show 0 * 8 + j = j by omega];exact List.getElem?_append_left (l₁ := ([.string ⟨#[102]⟩, .int .i64 1, .string ⟨#[]⟩, .int .i64 0, .string ⟨#[]⟩, .string ⟨#[]⟩, .slice none 0 0, .slice none 0 0] : List Value)) (l₂ := [.string ⟨#[103]⟩, .int .i64 1, .string ⟨#[]⟩, .int .i64 0, .string ⟨#[]⟩, .string ⟨#[]⟩, .slice none 0 0, .slice none 0 0]) (List.getElem?_eq_some_iff.1 hv).1 |>.trans hv) rfl
      | 1, h =>
        cases h
        exact nm_lit (k := 1) (cs := [.string ⟨#[102]⟩, .int .i64 1, .string ⟨#[]⟩, .int .i64 0, .string ⟨#[]⟩, .string ⟨#[]⟩, .slice none 0 0, .slice none 0 0, .string ⟨#[103]⟩, .int .i64 1, .string ⟨#[]⟩, .int .i64 0, .string ⟨#[]⟩, .string ⟨#[]⟩, .slice none 0 0, .slice none 0 0]) hd (by decide) (fun j v hv => by
          rw [show 1 * 8 + j = 8 + j by omega];exact ((List.getElem?_append_right (l₁ := ([.string ⟨#[102]⟩, .int .i64 1, .string ⟨#[]⟩, .int .i64 0, .string ⟨#[]⟩, .string ⟨#[]⟩, .slice none 0 0, .slice none 0 0] : List Value)) (l₂ := [.string ⟨#[103]⟩, .int .i64 1, .string ⟨#[]⟩, .int .i64 0, .string ⟨#[]⟩, .string ⟨#[]⟩, .slice none 0 0, .slice none 0 0]) (i := 8 + j) (Nat.le_add_right _ _)).trans (by rw [show 8 + j - ([.string ⟨#[102]⟩, .int .i64 1, .string ⟨#[]⟩, .int .i64 0, .string ⟨#[]⟩, .string ⟨#[]⟩, .slice none 0 0, .slice none 0 0] : List Value).length = j by show 8 + j - 8 = j; omega]; rfl)).trans hv) rfl
      | i + 2, h => simp [exB12] at h
  | i + 1, hx => simp at hx
theorem ex12_z {w : World} {g : Nat} (hg : w.heap[g]? = some (.cells #[.string ⟨#[]⟩, .int .i64 0, .string ⟨#[]⟩, .slice none 0 0, .slice none 0 0] 44 (0, 0))) : RowIn ifR w (some ⟨g, 0, none⟩) [zIf] := fun i x hx => by
  match i, hx with
  | 0, hx =>
    cases hx
    refine ⟨g, 0, [.string ⟨#[]⟩, .int .i64 0, .string ⟨#[]⟩, .slice none 0 0, .slice none 0 0], rfl, (Array.getElem?_eq_some_iff.1 hg).1, fun j v hv => ?_, zero_if w⟩;rw [cZ hg, show 0 + 0 * ifR.k + j = j by omega, <- hv, <- List.getElem?_toArray]
  | i + 1, hx => simp at hx
theorem bo_cases {a b : List If} {w w' : World} {e : Ending} (h : BoOut a b w e w') : Below w.heap.size w w' /\ ∃ (n : Int) (v : Value), e = .returned (.tuple #[.int .i64 n, v]) /\ ((fairP a b = false /\ v = .iface 33 (.int .i64 1) /\ n = 0) \/ (fairP a b = true /\ v = .nilIface /\ n = ofP (chP a b))) := by
  obtain ⟨hb, ⟨hf, he⟩ | ⟨hf, he⟩⟩ := h
  · exact ⟨hb, _, _, he, .inl ⟨hf, rfl, rfl⟩⟩
  · exact ⟨hb, _, _, he, .inr ⟨hf, rfl, rfl⟩⟩
theorem up12_any (w : World) : Calls Tryz.prog 5 #[] w fun e w' => e = .returned (.bool true) /\ Below w.heap.size w w' := by
  obtain ⟨w1, hw1⟩ : ∃ wz, wz = w.alloc (.cells #[.string ⟨#[102]⟩, .int .i64 1, .string ⟨#[]⟩, .int .i64 0, .string ⟨#[]⟩, .string ⟨#[]⟩, .slice none 0 0, .slice none 0 0] 52) := ⟨_, rfl⟩;obtain ⟨w2, hw2⟩ : ∃ wz, wz = w1.alloc (.cells #[.string ⟨#[103]⟩, .int .i64 1, .string ⟨#[]⟩, .int .i64 0, .string ⟨#[]⟩, .string ⟨#[]⟩, .slice none 0 0, .slice none 0 0] 52) := ⟨_, rfl⟩;obtain ⟨w3, hw3⟩ : ∃ wz, wz = w2.alloc (.cells #[.string ⟨#[102]⟩, .int .i64 1, .string ⟨#[]⟩, .int .i64 0, .string ⟨#[]⟩, .string ⟨#[]⟩, .slice none 0 0, .slice none 0 0] 52) := ⟨_, rfl⟩;obtain ⟨w4, hw4⟩ : ∃ wz, wz = w3.alloc (.cells #[.string ⟨#[112]⟩, .int .i64 1, .string ⟨#[109]⟩, .slice none 0 0, .slice (some ⟨w.heap.size + 1 + 1, 0, none⟩) 1 1] 44) := ⟨_, rfl⟩;obtain ⟨w5, hw5⟩ : ∃ wz, wz = w4.alloc (.cells #[.string ⟨#[102]⟩, .int .i64 1, .string ⟨#[]⟩, .int .i64 0, .string ⟨#[]⟩, .string ⟨#[]⟩, .slice none 0 0, .slice none 0 0, .string ⟨#[103]⟩, .int .i64 1, .string ⟨#[]⟩, .int .i64 0, .string ⟨#[]⟩, .string ⟨#[]⟩, .slice none 0 0, .slice none 0 0] 52) := ⟨_, rfl⟩;obtain ⟨w6, hw6⟩ : ∃ wz, wz = w5.alloc (.cells #[.string ⟨#[112]⟩, .int .i64 1, .string ⟨#[109]⟩, .slice none 0 0, .slice (some ⟨w.heap.size + 1 + 1 + 1 + 1, 0, none⟩) 2 2] 44) := ⟨_, rfl⟩;have B1 : Below w.heap.size w w1 := by rw [hw1]; exact below_new (Below.refl _ _) _
  have l1 : w.heap.size < w1.heap.size := by rw [hw1]; simp
  have sz1 : w1.heap.size = w.heap.size + 1 := by rw [hw1]; simp
  have Z1 : w1.heap[w.heap.size]? = some (.cells #[.string ⟨#[102]⟩, .int .i64 1, .string ⟨#[]⟩, .int .i64 0, .string ⟨#[]⟩, .string ⟨#[]⟩, .slice none 0 0, .slice none 0 0] 52 (0, 0)) := by rw [hw1]; exact heap_alloc_new w _
  have B2 : Below w1.heap.size w1 w2 := by rw [hw2]; exact below_new (Below.refl _ _) _
  have l2 : w1.heap.size < w2.heap.size := by rw [hw2]; simp
  have sz2 : w2.heap.size = w.heap.size + 1 + 1 := by rw [hw2]; simp [sz1]
  have Z2 : w2.heap[w.heap.size + 1]? = some (.cells #[.string ⟨#[103]⟩, .int .i64 1, .string ⟨#[]⟩, .int .i64 0, .string ⟨#[]⟩, .string ⟨#[]⟩, .slice none 0 0, .slice none 0 0] 52 (0, 0)) := by rw [hw2, <- sz1]; exact heap_alloc_new w1 _
  have B3 : Below w2.heap.size w2 w3 := by rw [hw3]; exact below_new (Below.refl _ _) _
  have l3 : w2.heap.size < w3.heap.size := by rw [hw3]; simp
  have sz3 : w3.heap.size = w.heap.size + 1 + 1 + 1 := by rw [hw3]; simp [sz2]
  have Z3 : w3.heap[w.heap.size + 1 + 1]? = some (.cells #[.string ⟨#[102]⟩, .int .i64 1, .string ⟨#[]⟩, .int .i64 0, .string ⟨#[]⟩, .string ⟨#[]⟩, .slice none 0 0, .slice none 0 0] 52 (0, 0)) := by rw [hw3, <- sz2]; exact heap_alloc_new w2 _
  have B4 : Below w3.heap.size w3 w4 := by rw [hw4]; exact below_new (Below.refl _ _) _
  have l4 : w3.heap.size < w4.heap.size := by rw [hw4]; simp
  have sz4 : w4.heap.size = w.heap.size + 1 + 1 + 1 + 1 := by rw [hw4]; simp [sz3]
  have Z4 : w4.heap[w.heap.size + 1 + 1 + 1]? = some (.cells #[.string ⟨#[112]⟩, .int .i64 1, .string ⟨#[109]⟩, .slice none 0 0, .slice (some ⟨w.heap.size + 1 + 1, 0, none⟩) 1 1] 44 (0, 0)) := by rw [hw4, <- sz3]; exact heap_alloc_new w3 _
  have B5 : Below w4.heap.size w4 w5 := by rw [hw5]; exact below_new (Below.refl _ _) _
  have l5 : w4.heap.size < w5.heap.size := by rw [hw5]; simp
  have sz5 : w5.heap.size = w.heap.size + 1 + 1 + 1 + 1 + 1 := by rw [hw5]; simp [sz4]
  have Z5 : w5.heap[w.heap.size + 1 + 1 + 1 + 1]? = some (.cells #[.string ⟨#[102]⟩, .int .i64 1, .string ⟨#[]⟩, .int .i64 0, .string ⟨#[]⟩, .string ⟨#[]⟩, .slice none 0 0, .slice none 0 0, .string ⟨#[103]⟩, .int .i64 1, .string ⟨#[]⟩, .int .i64 0, .string ⟨#[]⟩, .string ⟨#[]⟩, .slice none 0 0, .slice none 0 0] 52 (0, 0)) := by rw [hw5, <- sz4]; exact heap_alloc_new w4 _
  have B6 : Below w5.heap.size w5 w6 := by rw [hw6]; exact below_new (Below.refl _ _) _
  have l6 : w5.heap.size < w6.heap.size := by rw [hw6]; simp
  have sz6 : w6.heap.size = w.heap.size + 1 + 1 + 1 + 1 + 1 + 1 := by rw [hw6]; simp [sz5]
  have Z6 : w6.heap[w.heap.size + 1 + 1 + 1 + 1 + 1]? = some (.cells #[.string ⟨#[112]⟩, .int .i64 1, .string ⟨#[109]⟩, .slice none 0 0, .slice (some ⟨w.heap.size + 1 + 1 + 1 + 1, 0, none⟩) 2 2] 44 (0, 0)) := by rw [hw6, <- sz5]; exact heap_alloc_new w5 _
  have B36 := below_over B4 (below_over B5 B6);have RA := ex12_a ((B36.block _ (by omega)).trans Z3) (((below_over B5 B6).block _ (by omega)).trans Z4);have RB := ex12_b ((B6.block _ (by omega)).trans Z5) Z6;have B06 := below_over B1 (below_over B2 (below_over B3 B36));have OF1 : Hid (Calls Tryz.prog 8 #[.slice (some ⟨w.heap.size + 1 + 1 + 1, 0, none⟩) 1 1, .slice (some ⟨w.heap.size + 1 + 1 + 1 + 1 + 1, 0, none⟩) 1 1] w6 (BoOut [exA12] [exB12] w6)) := hZ (bumpOf_any (some ⟨w.heap.size + 1 + 1 + 1, 0, none⟩) 1 (some ⟨w.heap.size + 1 + 1 + 1 + 1 + 1, 0, none⟩) 1 [exA12] [exB12] w6 RA RB (by decide) (by decide) (ex12_few (l := []) (.inl rfl)) (ex12_few (l := []) (.inr (.inl rfl))));have CH1 : Hid (∀ wx, Below w6.heap.size w6 wx -> Calls Tryz.prog 7 #[.slice (some ⟨w.heap.size + 1 + 1 + 1, 0, none⟩) 1 1, .slice (some ⟨w.heap.size + 1 + 1 + 1 + 1 + 1, 0, none⟩) 1 1] wx (CgOut [exA12] [exB12] wx)) := hZ (fun wx hb => changes_any (some ⟨w.heap.size + 1 + 1 + 1, 0, none⟩) 1 (some ⟨w.heap.size + 1 + 1 + 1 + 1 + 1, 0, none⟩) 1 [exA12] [exB12] wx (RA.below hb) (RB.below hb) (by decide) (by decide) (ex12_few (l := []) (.inl rfl)) (ex12_few (l := []) (.inr (.inl rfl))));have RBH := hZ RB;have HB06 := hZ B06;have HW1 := hZ hw1;have HW2 := hZ hw2;have HW3 := hZ hw3;have HW4 := hZ hw4;have HW5 := hZ hw5;have HW6 := hZ hw6;clear hw1 hw2 hw3 hw4 hw5 hw6 B1 B2 B3 B4 B5 B6 B36 B06 Z1 Z2 Z3 Z4 Z5 Z6 RA RB l1 l2 l3 l4 l5 l6 sz1 sz2 sz3 sz4 sz5 sz6;go_enter Tryz.func5, Tryz.ntmps5
  go_upto_region 5 with fail
  rw [<- HW1.out, <- HW2.out, <- HW3.out, <- HW4.out, <- HW5.out, <- HW6.out];clear HW1 HW2 HW3 HW4 HW5 HW6;go_wp2_with fail
  refine OF1.out.mono ?_; rintro e w7 ⟨hb7, ⟨hf, -⟩ | ⟨-, rfl⟩⟩
  · rw [ex12_fair] at hf; cases hf
  rw [ex12_of];have HB7 := hZ hb7;clear hb7 OF1;go_wp2_with fail
  refine (CH1.out w7 HB7.out).mono ?_; rintro e w8 ⟨hb8, ⟨hf, -⟩ | ⟨-, -, A8, c8, rfl, hR8⟩⟩
  · rw [ex12_fair] at hf; cases hf
  rw [ex12_ch] at hR8 ⊢;have HB8 := hZ (below_over HB7.out hb8);have HR8 := hZ hR8;obtain ⟨w9, hw9⟩ : ∃ wz, wz = w8.alloc (.cells #[.string ⟨#[]⟩, .int .i64 0, .string ⟨#[]⟩, .slice none 0 0, .slice none 0 0] 44) := ⟨_, rfl⟩;have B9 : Below w8.heap.size w8 w9 := by rw [hw9]; exact below_new (Below.refl _ _) _
  have Z9 : w9.heap[w8.heap.size]? = some (.cells #[.string ⟨#[]⟩, .int .i64 0, .string ⟨#[]⟩, .slice none 0 0, .slice none 0 0] 44 (0, 0)) := by rw [hw9]; exact heap_alloc_new w8 _
  have HB9 := hZ (below_over HB8.out B9);have HR9 := hZ (HR8.out.below B9);have OF2 : Hid (Calls Tryz.prog 8 #[.slice (some ⟨w8.heap.size, 0, none⟩) 1 1, .slice (some ⟨w.heap.size + 1 + 1 + 1 + 1 + 1, 0, none⟩) 1 1] w9 (BoOut [zIf] [exB12] w9)) := hZ (bumpOf_any (some ⟨w8.heap.size, 0, none⟩) 1 (some ⟨w.heap.size + 1 + 1 + 1 + 1 + 1, 0, none⟩) 1 [zIf] [exB12] w9 (ex12_z Z9) (RBH.out.below HB9.out) (by decide) (by decide) (ex12_few (l := []) (.inr (.inr rfl))) (ex12_few (l := []) (.inr (.inl rfl))));have HW9 := hZ hw9;clear hb8 hR8 CH1 hw9 B9 Z9;simp only [List.length_cons, List.length_nil];go_wp2_with fail
  rw [<- HW9.out];refine OF2.out.mono ?_; rintro e w10 ⟨hb10, ⟨-, rfl⟩ | ⟨hf, -⟩⟩
  rotate_left
  · rw [ex12_not] at hf; cases hf
  obtain ⟨g, o, rfl, hg, a0, -⟩ := (HR9.out.below hb10).ch (i := 0) (x := ⟨4, ⟨#[109]⟩, ⟨#[103]⟩, false⟩) rfl;simp at a0;have FIN := hZ (below_over HB06.out (below_over HB9.out hb10));have heq := eqErr 1 1 w10;clear OF2 hg hb10;go_wp2_with fail
  go_ret;exact ⟨rfl, FIN.out⟩
theorem fewE_few {l : List If} (h : fewE l = true) : FewIf l := fun x hx => by
  unfold fewE at h
  simp only [Bool.and_eq_true, List.all_eq_true] at h;have h1 := h.2 x hx;unfold fewI at h1
  simp only [Bool.and_eq_true, decide_eq_true_eq] at h1;omega
end Go.Proofs.YtddlmigofilejaaGreat
namespace Go.Proofs.YtddlmigofilejaaGreat
open Go Go.RowKit Go.Shelf
open Go.Sort Go.Maps
open M
structure RxN (w4 : World) (g : Nat) (tt : Ty) (A6 : Option Addr) (n c6 : Nat) (A5 : Option Addr) (c5 : Nat) (wr : World) : Prop where
  below : ∀ b, b < g -> wr.heap[b]? = w4.heap[b]?
  stay : wr.os = w4.os /\ wr.tape = w4.tape /\ wr.output = w4.output /\ w4.heap.size <= wr.heap.size
  box : wr.heap[g]? = some (.cells #[.int .i64 tt.kind, .string tt.pkg, .int .i64 tt.major, .string tt.mod, .string tt.name, .slice A5 tt.names.length c5, .slice A6 n c6] 50 (0, 0))
  own : wr.ownsRow (g + 1) 9 1 (.slice A5 tt.names.length c5) tt.names.length (tt.names.map Value.string)
structure RxI (wb : World) (l2 : Nat) (tt : Ty) (A5 : Option Addr) (c5 : Nat) (xs : List Ty) (A6 : Option Addr) (c6 : Nat) (wr : World) : Prop where
  below : Below wb.heap.size wb wr
  box : wr.heap[wb.heap.size]? = some (.cells #[.int .i64 tt.kind, .string tt.pkg, .int .i64 tt.major, .string tt.mod, .string tt.name, .slice A5 tt.names.length c5, .slice A6 xs.length c6] 50 (0, 0))
  names : NamesAt (strike (fun b => b < wb.heap.size + 1 \/ l2 <= b) wr) A5 tt.names
  rows : Row tR l2 xs A6 c6 wr
  lo : wb.heap.size + 1 <= l2
  lole : l2 <= wr.heap.size
end Go.Proofs.YtddlmigofilejaaGreat
namespace Go.Proofs.YtddlmigofilejaaGreat
open Go.RowKit Go.Shelf
open Go.Sort Go.Maps
open M
structure Rq (m : Mo) (t : Ty) (fb n lo : Nat) (W : World) (F : Nat -> Bool) (L : List Ty) (A : Option Addr) (c : Nat) (wr : World) : Prop where
  below : Below fb W wr
  found : FoundAt wr fb n F
  rch : Rch m t F L
  own : OwnL wr lo (.slice A L.length c) L
  most : L.length + 9000 * unf n F <= 9000 * (n + 1)
end Go.Proofs.YtddlmigofilejaaGreat
namespace Go.Proofs.YtddlmigofilejaaGreat
open Go Go.RowKit Go.Shelf
open Go.Sort Go.Maps
open M
theorem ep_one {m : Mo} {pkg : ByteArray} {major : Int} {env : List If} {t u u' : Ty} {c c' : Int} (h : EpIs m pkg major env t c u) (h' : EpIs m pkg major env t c' u') : c = c' /\ u = u' := by
  rcases h with ⟨rfl, rfl, h⟩ | ⟨h1, h2, h⟩
  · rcases h' with ⟨rfl, rfl, -⟩ | ⟨h1, h2, -⟩
    · exact ⟨rfl, rfl⟩
    · exact absurd ⟨h1, h2⟩ h
  · rcases h' with ⟨-, -, h'⟩ | ⟨-, -, h'⟩
    · exact absurd ⟨h1, h2⟩ h'
    · rcases h with ⟨rfl, rfl, h⟩ | ⟨hk, h⟩
      · rcases h' with ⟨rfl, rfl, -⟩ | ⟨hk, -⟩
        · exact ⟨rfl, rfl⟩
        · rw [h] at hk; cases hk
      · rcases h' with ⟨-, -, h'⟩ | ⟨-, h'⟩
        · rw [hk] at h'; cases h'
        · rcases h with ⟨rfl, rfl, h⟩ | ⟨hl, h⟩
          · rcases h' with ⟨rfl, rfl, -⟩ | ⟨hl, -⟩
            · exact ⟨rfl, rfl⟩
            · rw [h] at hl; cases hl
          · rcases h' with ⟨-, -, h'⟩ | ⟨-, h'⟩
            · rw [hl] at h'; cases h'
            · obtain ⟨k, x, hx, h⟩ := h
              obtain ⟨k', x', hx', h'⟩ := h';obtain rfl := exp_one _ _ _ _ _ hx hx';rcases h with ⟨rfl, rfl, h⟩ | ⟨rfl, rfl, ha, hb⟩
              · rcases h' with ⟨rfl, rfl, -⟩ | ⟨-, -, ha, hb⟩
                · exact ⟨rfl, rfl⟩
                · omega
              · rcases h' with ⟨-, -, h'⟩ | ⟨rfl, rfl, -⟩
                · omega
                · exact ⟨rfl, rfl⟩
end Go.Proofs.YtddlmigofilejaaGreat
namespace Go.Proofs.YtddlmigofilejaaGreat
open Go
open M
def nmC : ByteArray := ⟨#[99]⟩
def modU (u : Us) : Mo := ⟨nmC, u.imps, []⟩
def rowU (x : If) (k : Int) : List Nm := if k = 2 then x.types else x.vals
noncomputable def fitsU (k : Int) (y t : Ty) : Bool := (mayT y && plainT y) && (if k = 1 then subB y t else sameT y t)
noncomputable def lineC (u : Us) (env : List If) (l : Ln) (c : Int) (t : Ty) : Int :=
  match impAt (modU u) l.mod with
  | none => 4
  | some k => if c = 4 then 4 else match u.imps[k]? with
    | none => 9
    | some x => match findI env x.pkg x.major x.mod with
      | none => 9
      | some f => match env[f]? with
        | none => 9
        | some i => match ofI (rowU i l.kind) l.name with
          | none => 9
          | some n => match (rowU i l.kind)[n]? with
            | none => 9
            | some y => if c ≠ 0 then c else if fitsU l.kind y.typ t = true then 0 else 12
def LnIs (u : Us) (env : List If) (l : Ln) (c : Int) : Prop := (impAt (modU u) l.mod = none /\ c = 4) \/ ∃ (e : Int) (t : Ty), EpIs (modU u) nmC 1 env l.typ e t /\ c = lineC u env l e t
theorem lineC_none {u : Us} {env : List If} {l : Ln} {c : Int} {t : Ty} (h : impAt (modU u) l.mod = none) : lineC u env l c t = 4 := by unfold lineC; rw [h]
theorem LnIs.one {u : Us} {env : List If} {l : Ln} {c c' : Int} (h : LnIs u env l c) (h' : LnIs u env l c') : c = c' := by
  rcases h with ⟨hn, rfl⟩ | ⟨e, t, h1, rfl⟩
  · rcases h' with ⟨-, rfl⟩ | ⟨e', t', -, rfl⟩
    · rfl
    · rw [lineC_none hn]
  · rcases h' with ⟨hn, rfl⟩ | ⟨e', t', h2, rfl⟩
    · rw [lineC_none hn]
    · obtain ⟨rfl, rfl⟩ := ep_one h1 h2
      rfl
def UkIs (u : Us) (env : List If) (c a : Int) : Prop :=
  (¬ (mayU u = true /\ env.length <= 100) /\ c = 1 /\ a = -1) \/ ((mayU u = true /\ env.length <= 100) /\
    ((∃ i : Nat, i < u.imps.length /\ dupB (·.asn) u.imps i = true /\ (∀ j, j < i -> dupB (·.asn) u.imps j = false) /\ c = 5 /\ a = i) \/
     ((∀ i, i < u.imps.length -> dupB (·.asn) u.imps i = false) /\
       ((∃ (i : Nat) (l : Ln), u.lines[i]? = some l /\ LnIs u env l c /\ c ≠ 0 /\ a = i /\ ∀ (j : Nat) (d : Ln), j < i -> u.lines[j]? = some d -> LnIs u env d 0) \/
        (c = 0 /\ a = -1 /\ ∀ l ∈ u.lines, LnIs u env l 0)))))
theorem UkIs.one {u : Us} {env : List If} {c a c' a' : Int} (h : UkIs u env c a) (h' : UkIs u env c' a') : c = c' /\ a = a' := by
  rcases h with ⟨n, rfl, rfl⟩ | ⟨m, h⟩
  · rcases h' with ⟨-, rfl, rfl⟩ | ⟨m, -⟩
    · exact ⟨rfl, rfl⟩
    · exact absurd m n
  rcases h' with ⟨n, -, -⟩ | ⟨-, h'⟩
  · exact absurd m n
  rcases h with ⟨i, hi, d, n, rfl, rfl⟩ | ⟨no, h⟩
  · rcases h' with ⟨j, hj, e, k, rfl, rfl⟩ | ⟨no, -⟩
    · have : i = j := by
        rcases Nat.lt_trichotomy i j with h | h | h
        · rw [k i h] at d; cases d
        · exact h
        · rw [n j h] at e; cases e
      subst this; exact ⟨rfl, rfl⟩
    · rw [no i hi] at d; cases d
  rcases h' with ⟨j, hj, e, -, -, -⟩ | ⟨-, h'⟩
  · rw [no j hj] at e; cases e
  rcases h with ⟨i, l, hl, hc, h0, rfl, ha⟩ | ⟨rfl, rfl, ha⟩
  · rcases h' with ⟨j, d, hd, hc', h0', rfl, ha'⟩ | ⟨rfl, rfl, ha'⟩
    · have : i = j := by
        rcases Nat.lt_trichotomy i j with h | h | h
        · exact absurd (hc.one (ha' i l h hl)) h0
        · exact h
        · exact absurd (hc'.one (ha j d h hd)) h0'
      subst this;rw [hl] at hd;cases hd
      exact ⟨hc.one hc', rfl⟩
    · exact absurd (hc.one (ha' l (List.mem_of_getElem? hl))) h0
  · rcases h' with ⟨j, d, hd, hc', h0', rfl, ha'⟩ | ⟨rfl, rfl, -⟩
    · exact absurd (hc'.one (ha d (List.mem_of_getElem? hd))) h0'
    · exact ⟨rfl, rfl⟩
theorem UkIs.zero {u : Us} {env : List If} {a : Int} (h : UkIs u env 0 a) : mayU u = true /\ env.length <= 100 /\ (∀ i, i < u.imps.length -> dupB (·.asn) u.imps i = false) /\ ∀ l ∈ u.lines, LnIs u env l 0 := by
  rcases h with ⟨-, h, -⟩ | ⟨⟨m1, m2⟩, h⟩
  · cases h
  rcases h with ⟨i, -, -, -, h, -⟩ | ⟨no, h⟩
  · cases h
  rcases h with ⟨i, l, -, -, h, -⟩ | ⟨-, -, ha⟩
  · exact absurd rfl h
  · exact ⟨m1, m2, no, ha⟩
theorem UkIs.of {u : Us} {env : List If} (h1 : mayU u = true) (h2 : env.length <= 100) (h3 : ∀ i, i < u.imps.length -> dupB (·.asn) u.imps i = false) (h4 : ∀ l ∈ u.lines, LnIs u env l 0) : UkIs u env 0 (-1) :=
  .inr ⟨⟨h1, h2⟩, .inr ⟨h3, .inr ⟨rfl, rfl, h4⟩⟩⟩
theorem exp_more {f g : Ty -> Option Ty} (hfg : ∀ y s, f y = some s -> g y = some s) : ∀ {h : Nat} {t u : Ty}, ExpH f h t u -> ExpH g h t u
  | 0, _, _, hx => hx.elim
  | h + 1, t, u, hx => by
    rcases hx with ⟨h8, s, hs, hx⟩ | ⟨h8, us, rfl, hl, hx⟩
    · exact .inl ⟨h8, s, hfg _ _ hs, exp_more hfg hx⟩
    · exact .inr ⟨h8, us, rfl, hl, fun i s v hs hv => exp_more hfg (hx i s v hs hv)⟩
theorem lineC_zero {u : Us} {env : List If} {l : Ln} {c : Int} {t : Ty} (h : lineC u env l c t = 0) : c = 0 /\ ∃ k x f i n y, impAt (modU u) l.mod = some k /\ u.imps[k]? = some x /\ findI env x.pkg x.major x.mod = some f /\ env[f]? = some i /\ ofI (rowU i l.kind) l.name = some n /\ (rowU i l.kind)[n]? = some y /\ fitsU l.kind y.typ t = true := by
  unfold lineC at h
  split at h
  · cases h
  rename_i k e1
  split at h
  · cases h
  split at h
  · cases h
  rename_i x e2
  split at h
  · cases h
  rename_i f e3
  split at h
  · cases h
  rename_i i e4
  split at h
  · cases h
  rename_i n e5
  split at h
  · cases h
  rename_i y e6
  split at h
  · rename_i hc; exact absurd h hc
  rename_i hc
  split at h
  · rename_i hf
    exact ⟨by simpa using hc, k, x, f, i, n, y, e1, e2, e3, e4, e5, e6, hf⟩
  · cases h
theorem lineC_of {u : Us} {env : List If} {l : Ln} {t : Ty} {k f n : Nat} {x : Im} {i : If} {y : Nm} (e1 : impAt (modU u) l.mod = some k) (e2 : u.imps[k]? = some x) (e3 : findI env x.pkg x.major x.mod = some f) (e4 : env[f]? = some i) (e5 : ofI (rowU i l.kind) l.name = some n) (e6 : (rowU i l.kind)[n]? = some y) (hf : fitsU l.kind y.typ t = true) : lineC u env l 0 t = 0 := by
  unfold lineC
  rw [e1];dsimp only
  rw [if_neg (by decide), e2];dsimp only
  rw [e3];dsimp only
  rw [e4];dsimp only
  rw [e5];dsimp only
  rw [e6];dsimp only
  rw [if_neg (by decide), if_pos hf]
end Go.Proofs.YtddlmigofilejaaGreat
