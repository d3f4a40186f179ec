/-
  Several texts in one.
-/
import Derived.Test.YtddlmigofilejaaGreatK05
import Derived.Maps.OwnSet
import Derived.Maps.AppendAt
open List (getElem_toArray getElem_cons_succ getElem_cons_zero set_cons_zero set_cons_succ setIfInBounds_toArray)
set_option maxRecDepth 100000
set_option maxHeartbeats 8000000
namespace Go.Proofs.YtddlmigofilejaaGreat
open Go.RowKit
open Go.Sort Go.Maps
open M
theorem lawStr : Go.Maps.Keyed Tryz.prog 9 := Go.Maps.string_keyed Tryz.underlying9
theorem zeroInt (w : World) : (zeroValue 3).run Tryz.prog w = .ok (.int .i64 0) w := by kernel_rfl
def MapS (w : World) (b n : Nat) (p : ByteArray -> Bool) (f : ByteArray -> Int -> Prop) : Prop :=
  ∃ D : DataW Unit, w.ownsMap Tryz.prog 9 (plainElem Tryz.prog 3) b n D /\ Go.Maps.IsMap D /\ ∀ s : ByteArray, s.size <= maxLen -> Go.Maps.has D (.string s.data.toList) = p s /\ (p s = true -> ∀ c, D.atKey (.string s.data.toList) (.lit (.int .i64 0)) = .lit (.int .i64 c) -> f s c)
theorem MapS.below {w w' : World} {b n : Nat} {p : ByteArray -> Bool} {f : ByteArray -> Int -> Prop} (h : MapS w b n p f) (hb : Below w.heap.size w w') : MapS w' b n p f := by
  obtain ⟨D, ⟨es, clock, h1, h2, h3, h4⟩, hm, h5⟩ := h;exact ⟨D, ⟨es, clock, (hb.block b (Array.getElem?_eq_some_iff.1 h1).1).trans h1, h2, h3, h4⟩, hm, h5⟩
structure NmS (w : World) (b0 b1 : Nat) (m : Mo) : Prop where
  ims : ∃ n, MapS w b0 n (impHas m) (fun _ _ => True)
  tys : ∃ n, MapS w b1 n (fun s => (typAt m s).isSome) (fun s c => typAt m s = some c.toNat /\ 0 <= c)
theorem NmS.below {w w' : World} {b0 b1 : Nat} {m : Mo} (h : NmS w b0 b1 m) (hb : Below w.heap.size w w') : NmS w' b0 b1 m :=
  ⟨h.ims.imp fun _ h => h.below hb, h.tys.imp fun _ h => h.below hb⟩
def natCells (l : List Nat) : List Value := l.map fun (i : Nat) => Value.int .i64 (i : Int)
def OwnN (w : World) (lo : Nat) (v : Value) (l : List Nat) : Prop := w.ownsRow lo 3 1 v l.length (natCells l)
theorem own_nilN (w : World) (lo : Nat) : OwnN w lo (.slice none 0 0) [] := World.ownsRow_nil _ _ _ _
theorem local_said (m : Mo) (t : Ty) (b0 b1 : Nat) (A : Option Addr) (n c : Nat) (v : Value) (w : World) (hk : t.kind = 8) (hN : NmS w b0 b1 m) (hv : TyV w v t) :
    Calls Tryz.prog 184 #[.agg #[.map (some b0), .map (some b1), .slice A n c], v] w fun e w' => ∃ v' : Value, e = .returned (.tuple #[v', .bool (wholeT m t)]) /\ OwnN w' w.heap.size v' (saidT m t) /\ Below w.heap.size w w' := by
  obtain ⟨l, rfl, hT⟩ := hv;obtain ⟨An, cn, As, cs, rfl, zp, zm, za, zn, zs, -, -⟩ := hT.parts;rw [saidT_local m t hk, wholeT_local m t hk];have hz1 : t.mod.size <= maxLen := by unfold maxLen; omega
  have hz2 : t.name.size <= maxLen := by unfold maxLen; omega
  obtain ⟨W2, hW2⟩ : ∃ W2, W2 = (w.alloc (.cells #[.map (some b0), .map (some b1), .slice A n c] 212)).alloc (.cells #[.int .i64 t.kind, .string t.pkg, .int .i64 t.major, .string t.mod, .string t.name, .slice An t.names.length cn, .slice As t.subs.length cs] 50) := ⟨_, rfl⟩;have hB : Below w.heap.size w W2 := by rw [hW2]; exact below_new (below_new (Below.refl _ _) _) _
  have hs1 : (w.alloc (.cells #[.map (some b0), .map (some b1), .slice A n c] 212)).heap.size = w.heap.size + 1 := by simp
  have X1 : W2.heap[w.heap.size]? = some (.cells #[.map (some b0), .map (some b1), .slice A n c] 212 (0, 0)) := by
    rw [hW2, Lib.alloc_old _ _ _ (by rw [hs1]; omega)]; exact heap_alloc_new w _
  have X2 : W2.heap[w.heap.size + 1]? = some (.cells #[.int .i64 t.kind, .string t.pkg, .int .i64 t.major, .string t.mod, .string t.name, .slice An t.names.length cn, .slice As t.subs.length cs] 50 (0, 0)) := by
    rw [hW2, <- hs1]; exact heap_alloc_new _ _
  obtain ⟨⟨n0, D0, o0, -, k0⟩, ⟨n1, D1, o1, -, k1⟩⟩ := hN.below hB;obtain ⟨x0, x1⟩ := cq2 X1;have y3 := cZ X2 3;have y4 := cZ X2 4;simp at x0 x1 y3 y4;have kk0 := Go.WideMaps.keyOf_string_mk (P := Tryz.prog) Tryz.underlying9 hz1;have kk1 := Go.WideMaps.keyOf_string_mk (P := Tryz.prog) Tryz.underlying9 hz2;have HB := hZ hB;have HW2 := hZ hW2;have hlo : w.heap.size <= W2.heap.size := hB.size;clear hT hN hk hB hW2 X1 X2 hs1;by_cases hz : t.mod.size = 0
  · rw [if_pos hz, if_pos hz]
    obtain ⟨e1, e2⟩ := empty_facts _ hz;have h1 : has D1 (.string t.name.data.toList) = (typAt m t.name).isSome := (k1 t.name hz2).1;have h2 : (typAt m t.name).isSome = true -> ∀ c, D1.atKey (.string t.name.data.toList) (.lit (.int .i64 0)) = .lit (.int .i64 c) -> typAt m t.name = some c.toNat /\ 0 <= c := (k1 t.name hz2).2;clear k0 k1 o0 kk0 hz x0;cases hq : typAt m t.name with
    | none =>
      rw [hq] at h1;simp only [Option.isSome_none] at h1;have H1 := hZ h1;have FIN := hZ (own_nilN W2 w.heap.size);clear h1 h2 hq;go_enter Tryz.func184, Tryz.ntmps184
      go_upto_region 1 with fail
      rw [<- HW2.out];go_wp2_with (at_lookup; refine Go.wpList_lookup_own_ok_int _ rfl _ _ 209 rfl 9 3 .i64 lawStr Tryz.underlying209 Tryz.underlying3 (zeroInt _) b1 n1 D1 rfl o1 _ _ rfl kk1 ?_; intro c hat hwc; rw [H1.out])
      go_ret2
      exact ⟨_, rfl, FIN.out, HB.out⟩
    | some i =>
      rw [hq] at h1;simp only [Option.isSome_some] at h1;have H1 := hZ h1
      have HC : Hid (∀ c, D1.atKey (.string t.name.data.toList) (.lit (.int .i64 0)) = .lit (.int .i64 c) -> c = (i : Int)) := hZ (fun c hc => by
        obtain ⟨a, b⟩ := h2 (by rw [hq]; rfl) c hc;rw [hq] at a;have := Option.some.inj a
        omega)
      have FIN : Hid (OwnN (W2.alloc (.cells #[.int .i64 i] 3)) w.heap.size (.slice (some ⟨W2.heap.size, 0, none⟩) 1 1) [i]) := hZ (World.ownsRow_lit (base := w.heap.size) (e := 3) (size := 1) W2 #[.int .i64 i] 1 hlo (by decide) rfl);have FB : Hid (Below w.heap.size w (W2.alloc (.cells #[.int .i64 i] 3))) := hZ (below_new HB.out _);clear h1 h2 hq;go_enter Tryz.func184, Tryz.ntmps184
      go_upto_region 1 with fail
      rw [<- HW2.out];go_wp2_with (at_lookup; refine Go.wpList_lookup_own_ok_int _ rfl _ _ 209 rfl 9 3 .i64 lawStr Tryz.underlying209 Tryz.underlying3 (zeroInt _) b1 n1 D1 rfl o1 _ _ rfl kk1 ?_; intro c hat hwc; rw [H1.out]; obtain rfl := HC.out c hat)
      go_ret2
      exact ⟨_, rfl, FIN.out, FB.out⟩
  · rw [if_neg hz, if_neg hz]
    obtain ⟨e1, e2⟩ := full_facts _ hz;obtain ⟨h1, -⟩ := k0 t.mod hz1;have FIN := hZ (own_nilN W2 w.heap.size);obtain ⟨q, hq⟩ : ∃ q, impHas m t.mod = q := ⟨_, rfl⟩;rw [hq] at h1 ⊢;have H1 := hZ h1;clear k0 k1 o1 kk1 hz x1 h1 hq;go_enter Tryz.func184, Tryz.ntmps184
    go_upto_region 1 with fail
    rw [<- HW2.out];go_wp2_with (at_lookup; refine Go.wpList_lookup_own_ok_int _ rfl _ _ 209 rfl 9 3 .i64 lawStr Tryz.underlying209 Tryz.underlying3 (zeroInt _) b0 n0 D0 rfl o0 _ _ rfl kk0 ?_; intro c hat hwc; rw [H1.out])
    go_ret2
    exact ⟨_, rfl, FIN.out, HB.out⟩
end Go.Proofs.YtddlmigofilejaaGreat
namespace Go.Proofs.YtddlmigofilejaaGreat
open Go.RowKit
open M
structure Cp1 (w : World) (t : Ty) (As : Option Addr) (n cs : Nat) (A5 : Option Addr) (c5 : Nat) (wr : World) : Prop where
  below : Below w.heap.size w wr
  box : wr.heap[w.heap.size]? = some (.cells #[.int .i64 t.kind, .string t.pkg, .int .i64 t.major, .string t.mod, .string t.name, .slice A5 t.names.length c5, .slice As n cs] 50 (0, 0))
  res : wr.heap[w.heap.size + 1]? = some (.cells #[.int .i64 0, .string ⟨#[]⟩, .int .i64 0, .string ⟨#[]⟩, .string ⟨#[]⟩, .slice none 0 0, .slice none 0 0] 50 (0, 0))
  own : wr.ownsRow (w.heap.size + 2) 9 1 (.slice A5 t.names.length c5) t.names.length (t.names.map Value.string)
end Go.Proofs.YtddlmigofilejaaGreat
namespace Go.Proofs.YtddlmigofilejaaGreat
open Go.RowKit
open Go.Sort
open M
theorem own_slice {w : World} {base : Nat} {e : TypeId} {z : Nat} {v : Value} {n : Nat} {xs : List Value} (h : w.ownsRow base e z v n xs) : ∃ A c, v = .slice A n c := by
  rcases h.2 with ⟨rfl, h0⟩ | ⟨g, cap, cur, rfl, -⟩
  · exact ⟨none, 0, by rw [h0]⟩
  · exact ⟨_, _, rfl⟩
end Go.Proofs.YtddlmigofilejaaGreat
namespace Go.Proofs.YtddlmigofilejaaGreat
open Go.RowKit
open Go.Sort Go.Maps
open M
theorem OwnN.mono {w : World} {lo lo' : Nat} {v : Value} {l : List Nat} (h : OwnN w lo v l) (hl : lo' <= lo) : OwnN w lo' v l := by
 refine ⟨h.1, ?_⟩
 rcases h.2 with h | ⟨g, cap, cur, hv, hB, rest⟩
 ·exact .inl h
 ·exact .inr ⟨g, cap, cur, hv, Nat.le_trans hl hB, rest⟩
theorem OwnN.keep {w w' : World} {lo : Nat} {v : Value} {l : List Nat} (h : OwnN w lo v l) (hb : ∀ b, lo <= b -> b < w.heap.size -> w'.heap[b]? = w.heap[b]?) : OwnN w' lo v l := own_from h hb
theorem natCells_len (l : List Nat) : (natCells l).length = l.length := by simp [natCells]
theorem int_info : (Tryz.prog.info? 3).map (fun i => (i.zero, i.size, i.bytes)) = some (some (.int .i64 0), 1, 8) := by kernel_rfl
theorem OwnN.read {w : World} {lo g c n : Nat} {o : Nat} {sp : Option Nat} {l : List Nat} (h : OwnN w lo (.slice (some ⟨g, o, none⟩) n c) l) : o = 0 /\ n = l.length /\ lo <= g /\ g < w.heap.size /\ ∀ j u, (natCells l)[j]? = some u -> w.cell? ⟨g, j, none⟩ = some u := by
 rcases h.2 with ⟨e, -⟩ | ⟨g', cap, cur, hv, hB, hg, hnc, hcm, hcs, htake⟩
 ·cases e
 ·cases hv
  refine ⟨rfl, rfl, hB, (Array.getElem?_eq_some_iff.1 hg).1, fun j u hj => ?_⟩;have hj' := (List.getElem?_eq_some_iff.1 hj).1
  rw [natCells_len] at hj';rw [cZ hg, <- Array.getElem?_toList];have e : (cur.toList.take (l.length * 1))[j]? = some u := by rw [htake, hj]
  rw [List.getElem?_take] at e;split at e
  ·exact e
  ·cases e
theorem said_any (m : Mo) (b0 b1 : Nat) (A : Option Addr) (n c : Nat) (N : Nat) : ∀ (t : Ty), many t <= N -> many t <= 9000 -> ∀ (v : Value) (w : World), NmS w b0 b1 m -> TyV w v t ->
  Calls Tryz.prog 173 #[.agg #[.map (some b0), .map (some b1), .slice A n c], v] w fun e w' => ∃ v' : Value, e = .returned (.tuple #[v', .bool (wholeT m t)]) /\ OwnN w' w.heap.size v' (saidT m t) /\ Below w.heap.size w w' := by
 induction N with
 | zero => intro t h; have := many_pos t; omega
 | succ N ih =>
 intro t hN hM v w hm hv
 have HV := hZ hv
 obtain ⟨l, rfl, hT⟩ := hv
 obtain ⟨An, cn, As, cs, rfl, -, -, -, -, hz, -, hS⟩ := hT.parts
 obtain ⟨W2, hW2⟩ : ∃ W2, W2 = (w.alloc (.cells #[.map (some b0), .map (some b1), .slice A n c] 212)).alloc (.cells #[.int .i64 t.kind, .string t.pkg, .int .i64 t.major, .string t.mod, .string t.name, .slice An t.names.length cn, .slice As t.subs.length cs] 50) := ⟨_, rfl⟩
 have hB : Below w.heap.size w W2 := by rw [hW2]; exact below_new (below_new (Below.refl _ _) _) _
 have hs1 : (w.alloc (.cells #[.map (some b0), .map (some b1), .slice A n c] 212)).heap.size = w.heap.size + 1 := by simp
 have X1 : W2.heap[w.heap.size]? = some (.cells #[.map (some b0), .map (some b1), .slice A n c] 212 (0, 0)) := by
  rw [hW2, Lib.alloc_old _ _ _ (by rw [hs1]; omega)]; exact heap_alloc_new w _
 have X2 : W2.heap[w.heap.size + 1]? = some (.cells #[.int .i64 t.kind, .string t.pkg, .int .i64 t.major, .string t.mod, .string t.name, .slice An t.names.length cn, .slice As t.subs.length cs] 50 (0, 0)) := by
  rw [hW2, <- hs1]; exact heap_alloc_new _ _
 have hlo : w.heap.size + 1 < W2.heap.size := (Array.getElem?_eq_some_iff.1 X2).1
 have HM := hZ (hm.below hB)
 have HV2 := hZ (HV.out.below hB)
 have HB := hZ hB
 have HW2 := hZ hW2
 have HX1 := hZ X1
 have HX2 := hZ X2
 have HS := hZ (hS.below hB)
 clear hT hS hB hW2 hs1 hm HV
 by_cases hk : t.kind = 8
 ·have LC := hZ (local_said m t b0 b1 A n c _ W2 hk HM.out HV2.out)
  have q8 : (t.kind == 8) = true := by rw [hk]; rfl
  obtain ⟨x0, x1, x2⟩ := cq3 X1;obtain ⟨y0, y1, y2, y3, y4, y5, y6⟩ := cq7 X2;simp at x0 x1 x2 y0 y1 y2 y3 y4 y5 y6;clear hk X1 X2;go_enter Tryz.func173, Tryz.ntmps173
  go_upto_region 1 with fail
  rw [<- HW2.out];go_wp2_with fail
  refine LC.out.mono ?_; rintro e w3 ⟨v', rfl, ho, hb3⟩
  have FIN := hZ (ho.mono (show w.heap.size <= W2.heap.size by omega));have FB := hZ (below_over HB.out hb3);clear ho hb3;go_wp2_with fail
  go_ret2
  exact ⟨v', rfl, FIN.out, FB.out⟩
 ·have q8 : (t.kind == 8) = false := by simpa using hk
  have RS : Hid (saidT m t = saidL m t.subs) := hZ (saidT_sub m t hk);have RW : Hid (wholeT m t = wholeL m t.subs) := hZ (wholeT_sub m t hk);have HMN : Hid (∀ s ∈ t.subs, many s <= N /\ many s <= 9000) := hZ (fun s hs => by have h1 := manyL_mem _ _ hs; have h2 := manyL_eq t; omega);have hml : t.subs.length <= 9000 := by have := manyL_len t.subs; have := manyL_eq t; omega
  have HLN : Hid (∀ k, (saidL m (t.subs.take k)).length <= 9000) := hZ (fun k => by
   have h1 := said_len m (many t) t (Nat.le_refl _);rw [RS.out] at h1;have h2 : saidL m t.subs = saidL m (t.subs.take k) ++ saidL m (t.subs.drop k) := by rw [<- saidL_append, List.take_append_drop]
   have h3 := congrArg List.length h2;rw [List.length_append] at h3;omega)
  obtain ⟨q, hq⟩ : ∃ q, q = t.subs.length := ⟨_, rfl⟩;have HQ := hZ hq;rw [RS.out, RW.out];have y0 := cZ X2 0;have y6 := cZ X2 6;simp at y0 y6;rw [<- hq] at y6 hml;obtain ⟨i0, hi, hz0, hz1, hz2⟩ := info_parts int_info;clear hk X1 X2 hN hM hz hq HX2 HV2;go_enter Tryz.func173, Tryz.ntmps173
  go_upto_region 1 with fail
  rw [<- HW2.out];go_wp2_with fail
  clear y0 y6 HW2;go_loopw [6, 7, 23] (fun s6 s7 iv wr => ∃ (k : Nat) (v6 : Value), v6 = s6 /\ k <= q /\ iv = .int .i64 k /\ Hid (OwnN wr W2.heap.size v6 (saidL m (t.subs.take k))) /\ s7 = .bool (wholeL m (t.subs.take k)) /\ Hid (Below W2.heap.size W2 wr)) (fun _ _ iv _ => q - (intOf iv).toNat)
  case atStart => exact ⟨0, _, rfl, by omega, rfl, hZ (own_nilN _ _), by simp [wholeL], hZ (Below.refl _ _)⟩
  case round =>
   obtain ⟨k, v6, rfl, hkq, rfl, HO, rfl, HBo⟩ := hrel;obtain ⟨wo, rfl⟩ : ∃ wo : World, wo = wr := ⟨_, rfl⟩;by_cases hlt : k < q
   ·obtain ⟨s, hs⟩ : ∃ s, t.subs[k]? = some s := ⟨_, List.getElem?_eq_getElem (by rw [<- HQ.out]; exact hlt)⟩
    obtain ⟨g, o, v0, v1, v2, v3, v4, v5, v6, rfl, hg, h0, h1, h2, h3, h4, h5, h6, hs7⟩ := HS.out.below HBo.out k s hs;obtain ⟨Am, cm, At, ct, rfl, rfl, rfl, rfl, rfl, rfl, rfl⟩ := hs7.seven;obtain ⟨w3, hw3⟩ : ∃ w3, w3 = wo.alloc (.cells #[.int .i64 s.kind, .string s.pkg, .int .i64 s.major, .string s.mod, .string s.name, .slice Am s.names.length cm, .slice At s.subs.length ct] 50) := ⟨_, rfl⟩;have B3 : Below wo.heap.size wo w3 := by rw [hw3]; exact below_new (Below.refl _ _) _
    have X3 : w3.heap[wo.heap.size]? = some (.cells #[.int .i64 s.kind, .string s.pkg, .int .i64 s.major, .string s.mod, .string s.name, .slice Am s.names.length cm, .slice At s.subs.length ct] 50 (0, 0)) := by rw [hw3]; exact heap_alloc_new wo _
    have IH := hZ (ih s (HMN.out s (List.mem_of_getElem? hs)).1 (HMN.out s (List.mem_of_getElem? hs)).2 (.agg #[.int .i64 s.kind, .string s.pkg, .int .i64 s.major, .string s.mod, .string s.name, .slice Am s.names.length cm, .slice At s.subs.length ct]) w3 (HM.out.below (below_over HBo.out B3)) (TyV.below ⟨_, rfl, hs7⟩ B3));have hs3 : w3.heap.size = wo.heap.size + 1 := by rw [hw3]; simp
    have hWo := HBo.out.size;have O3 := HO.out.keep (w' := w3) (fun b _ h => B3.block b h);have N3 := (below_over HBo.out B3).block w.heap.size (by omega) |>.trans HX1.out
    have HO3 := hZ O3;have HB3 := hZ (below_over HBo.out B3);have HX3 := hZ X3;have HN3 := hZ N3;have HW3 := hZ hw3;have HSS := hZ hs;clear hs7 hs B3 hw3 O3;go_upto_region 8 with fail
    rw [<- HW3.out];clear h0 h1 h2 h3 h4 h5 h6;obtain ⟨x0, x1, x2⟩ := cq3 N3;obtain ⟨y0, y1, y2, y3, y4, y5, y6⟩ := cq7 X3;simp at x0 x1 x2 y0 y1 y2 y3 y4 y5 y6;clear N3 X3;go_wp2_with fail
    refine IH.out.mono ?_; rintro e w4 ⟨v', rfl, ho4, hb4⟩
    have hs4 := hb4.size;have O4 := HO3.out.keep (w' := w4) (fun b _ h => hb4.block b h);have B4 : Below W2.heap.size W2 w4 := below_over HB3.out hb4;have hlen := HLN.out (k + 1);rw [saidL_take m _ _ _ HSS.out, List.length_append] at hlen;obtain ⟨L, hL⟩ : ∃ L, L = saidL m (t.subs.take k) := ⟨_, rfl⟩;obtain ⟨P, hP⟩ : ∃ P, P = saidT m s := ⟨_, rfl⟩;obtain ⟨b, hb⟩ : ∃ b, b = wholeT m s := ⟨_, rfl⟩;obtain ⟨a, ha⟩ : ∃ a, a = wholeL m (t.subs.take k) := ⟨_, rfl⟩;rw [<- hL] at O4 hlen;rw [<- hP] at ho4 hlen;rw [<- ha, <- hb];have RL : Hid (saidL m (t.subs.take (k + 1)) = L ++ P) := hZ (by rw [saidL_take m _ _ _ HSS.out, hL, hP]);have RB : Hid (wholeL m (t.subs.take (k + 1)) = (a && b)) := hZ (by rw [wholeL_take m _ _ _ HSS.out, ha, hb]);clear x0 x1 x2 y0 y1 y2 y3 y4 y5 y6 IH HO3 HO hL hP ha hb hb4 HN3 HX3 HW3 HB3 HSS;go_upto_region 9 with fail
    go_cut [6] (fun s6 wx => OwnN wx W2.heap.size s6 (L ++ P) /\ Below W2.heap.size W2 wx)
    case first =>
     obtain ⟨Ap, cp, rfl⟩ := own_slice ho4;cases Ap with
     | none =>
      have hP0 : P = [] := by
       rcases ho4.2 with ⟨e, h0⟩ | ⟨g, cap, cur, e, -⟩
       ·exact List.length_eq_zero_iff.1 h0
       ·cases e
      subst hP0;have FIN : OwnN w4 W2.heap.size v6 (L ++ []) := by rw [List.append_nil]; exact O4
      go_wp2_with (at_builtin; refine wpList_append_empty rfl _ _ 217 rfl W2.heap.size 3 i0 1 Tryz.underlying217 hi v6 L.length cp (natCells L) rfl O4 rfl ?_)
      go_meet
      exact ⟨FIN, B4⟩
     | some ad =>
      have ho5 := ho4;rcases ho4.2 with ⟨e, -⟩ | ⟨g, cap, cur, e, -⟩
      ·cases e
      cases e
      obtain ⟨-, -, -, -, hrd⟩ := ho5.read (sp := none)
      have hnews : ∀ j u, (natCells P)[j]? = some u -> w4.cell? ((⟨g, 0, none⟩ : Addr).add j) = some u := fun j u hj => by
       rw [WideShapes.add_plain, Nat.zero_add]; exact hrd j u hj
      have hone : ∀ u ∈ natCells P, u.oneCell' = true := fun u hu => by
       obtain ⟨x, -, rfl⟩ := List.mem_map.1 hu;rfl
      have hlow : ∀ b, v6.ownBlock = some b -> W2.heap.size <= b := fun b e => (O4.lt b e).1
      go_wp2_with (at_builtin; go_loud (refine wpList_append_own_at _ rfl _ _ 217 rfl W2.heap.size 3 i0 _ 1 8 Tryz.underlying217 hi hz0 hz1 hz2 rfl (by decide) v6 L.length (natCells L) rfl O4 ⟨g, 0, none⟩ P.length cp (natCells P) rfl ?c0 hnews hone ?c3 ?c4 ?c5 ?_))
      case c0 => rw [natCells_len]; omega
      case c3 => unfold maxLen; omega
      case c4 => omega
      case c5 => exact B4.size
      intro v5 w5 hown hgrow _ hat
      have FIN : OwnN w5 W2.heap.size v5 (L ++ P) := by
       unfold OwnN natCells
       rw [List.map_append, List.length_append];exact hown
      have FB : Below W2.heap.size W2 w5 := B4.trans ⟨hgrow.os, hgrow.tape, hgrow.output, hgrow.size, fun b hb => hgrow.block b (by have := B4.size; omega) (fun e => by have := hlow b e.symm; omega)⟩;clear hown hgrow hat;go_wp2_with fail
      go_meet
      exact ⟨FIN, FB⟩
    case rest =>
     obtain ⟨O5, B5⟩ := hcut;have HO5 := hZ O5;have HB5 := hZ B5;clear O5 B5 ho4 O4 B4;cases a with
     | false =>
      go_wp2_with fail
      go_roundw
      case rel => exact ⟨k + 1, _, rfl, by omega, by go_num, hZ (by rw [RL.out]; exact HO5.out), by rw [RB.out]; rfl, HB5⟩
      case measure => simp [intOf]; omega
     | true =>
      go_wp2_with fail
      go_roundw
      case rel => exact ⟨k + 1, _, rfl, by omega, by go_num, hZ (by rw [RL.out]; exact HO5.out), by rw [RB.out]; cases b <;> rfl, HB5⟩
      case measure => simp [intOf]; omega
   ·obtain rfl : k = q := by omega
    have hfull : t.subs.take k = t.subs := List.take_of_length_le (by rw [<- HQ.out]; exact Nat.le_refl _);have FIN := hZ (HO.out.mono (show w.heap.size <= W2.heap.size by omega));have FB := hZ (HB.out.trans (HBo.out.mono HB.out.size));rw [hfull] at FIN ⊢;clear HO HBo;go_wp2_with fail
    go_ret2
    exact ⟨_, rfl, FIN.out, FB.out⟩
def NatsAt (w : World) (A : Option Addr) (l : List Nat) : Prop :=
 ∀ (i x : Nat), l[i]? = some x -> ∃ g o : Nat, A = some ⟨g, o, none⟩ /\ g < w.heap.size /\ w.cell? ⟨g, o + i, none⟩ = some (.int .i64 x)
theorem NatsAt.move {S S' : Nat -> Prop} {w w' : World} {A : Option Addr} {l : List Nat} (h : NatsAt (strike S w) A l) (hz : w.heap.size <= w'.heap.size) (hb : ∀ b, b < w.heap.size -> ¬ S b -> ¬ S' b /\ w'.heap[b]? = w.heap[b]?) : NatsAt (strike S' w') A l := fun i x hx => by
 obtain ⟨g, o, hA, hg, hc⟩ := h i x hx
 obtain ⟨h1, h2⟩ := strike_cell.1 hc
 obtain ⟨h3, h4⟩ := hb g (World.block_lt_of_cell? _ _ h2) h1
 exact ⟨g, o, hA, by rw [strike_size] at hg ⊢; omega, strike_cell.2 ⟨h3, by rw [World.cell?_of_block (w := w) (a := ⟨g, _, none⟩) h4]; exact h2⟩⟩
theorem NatsAt.free {S : Nat -> Prop} {w : World} {A : Option Addr} {l : List Nat} (h : NatsAt (strike S w) A l) : NatsAt w A l := fun i x hx => by
 obtain ⟨g, o, hA, hg, hc⟩ := h i x hx
 exact ⟨g, o, hA, by rwa [strike_size] at hg, (strike_cell.1 hc).2⟩
theorem NatsAt.below {w w' : World} {A : Option Addr} {l : List Nat} (h : NatsAt w A l) (hb : Below w.heap.size w w') : NatsAt w' A l := fun i x hx => by
 obtain ⟨g, o, hA, hg, hc⟩ := h i x hx
 exact ⟨g, o, hA, Nat.lt_of_lt_of_le hg hb.size, (hb.cell (p := ⟨g, _, none⟩) hg).trans hc⟩
def enE (w : World) (l : List Value) (x : En) : Prop := ∃ (As : Option Addr) (cs : Nat), l = [.int .i64 x.at_, .int .i64 x.kind, .slice As x.said.length cs, .bool x.whole] /\ NatsAt w As x.said /\ x.said.length <= 1000000
def enR : Reads En := ⟨4, 219, enE, fun _ _ _ _ _ _ ⟨A, c, e, h, z⟩ hz hb => ⟨A, c, e, h.move hz hb, z⟩, fun _ _ _ _ ⟨A, c, e, h, z⟩ hb => ⟨A, c, e, h.below hb, z⟩, fun _ _ _ _ ⟨A, c, e, h, z⟩ => ⟨A, c, e, h.free, z⟩, fun _ l x ⟨A, c, e, _⟩ => by rw [e]; rfl⟩
def FoundAt (w : World) (fb n : Nat) (F : Nat -> Bool) : Prop := w.heap[fb]? = some (.cells ((List.range n).map fun i => Value.bool (F i)).toArray 4 (0, 0))
theorem FoundAt.cell {w : World} {fb n : Nat} {F : Nat -> Bool} (h : FoundAt w fb n F) {i : Nat} (hi : i < n) : w.cell? ⟨fb, i, none⟩ = some (.bool (F i)) := by
 rw [cZ h]; simp [hi]
theorem FoundAt.lt {w : World} {fb n : Nat} {F : Nat -> Bool} (h : FoundAt w fb n F) : fb < w.heap.size := (Array.getElem?_eq_some_iff.1 h).1
theorem FoundAt.put {w : World} {fb n : Nat} {F : Nat -> Bool} (h : FoundAt w fb n F) {i : Nat} (hi : i < n) : FoundAt (w.setCell ⟨fb, i, none⟩ (.bool true)) fb n (fun j => if j = i then true else F j) := by
 have := Joins.block_setCell (i := i) h (.bool true)
 unfold FoundAt
 rw [this]
 congr 2
 apply Array.ext'
 simp only [setIfInBounds_toArray]
 apply List.ext_getElem
 ·simp
 ·intro k h1 h2
  simp only [List.getElem_set, List.getElem_map, List.getElem_range];by_cases e : i = k
  ·subst e; simp
  ·rw [if_neg e, if_neg (fun x => e x.symm)]
def unf (n : Nat) (F : Nat -> Bool) : Nat := ((List.range n).filter fun i => !F i).length
theorem filter_le (F F' : Nat -> Bool) (h : ∀ i, F i = true -> F' i = true) : ∀ l : List Nat, (l.filter fun j => !F' j).length <= (l.filter fun j => !F j).length
 | [] => Nat.le_refl _
 | a :: l => by
  have ih := filter_le F F' h l;cases hF : F a with
  | true => simp [hF, h a hF]; exact ih
  | false =>
   cases hF' : F' a with
   | true => simp [hF, hF']; omega
   | false => simp [hF, hF']; exact ih
theorem filter_lt (F F' : Nat -> Bool) (h : ∀ i, F i = true -> F' i = true) {i : Nat} (hF : F i = false) (hF' : F' i = true) : ∀ l : List Nat, i ∈ l -> (l.filter fun j => !F' j).length < (l.filter fun j => !F j).length
 | [], hm => by cases hm
 | a :: l, hm => by
  have le := filter_le F F' h l;by_cases e : i = a
  ·subst e
   simp [hF, hF']; omega
  ·have ih := filter_lt F F' h hF hF' l ((List.mem_cons.1 hm).resolve_left e)
   cases hA : F a with
   | true => simp [hA, h a hA]; exact ih
   | false =>
    cases hA' : F' a with
    | true => simp [hA, hA']; omega
    | false => simp [hA, hA']; exact ih
theorem unf_put {n : Nat} {F : Nat -> Bool} {i : Nat} (hi : i < n) (hF : F i = false) : unf n (fun j => if j = i then true else F j) < unf n F :=
 filter_lt F (fun j => if j = i then true else F j) (fun j hj => by show (if j = i then true else F j) = true; split; rfl; exact hj) hF (by simp) (List.range n) (List.mem_range.2 hi)
theorem unf_le {n : Nat} {F F' : Nat -> Bool} (h : ∀ i, F i = true -> F' i = true) : unf n F' <= unf n F := filter_le F F' h _
theorem grown_of {w w' : World} {r : Option Nat} (h : Below w.heap.size w w') : w.grownBy w' r := ⟨h.os, h.tape, h.output, h.size, fun b hb _ => h.block b hb⟩
def Valid (E : List En) : Prop := ∀ x ∈ E, ∀ j ∈ x.said, j < E.length
theorem grown_over {a b c : World} {r : Nat} (h : a.grownBy b (some r)) (h' : b.grownBy c (some r)) : a.grownBy c (some r) := h.trans h'
theorem mark_any (E : List En) (hE : Valid E) (hE2 : E.length <= 1000000) (Ae : Option Addr) (ce b0 b1 cf : Nat) (U : Nat) : ∀ (F : Nat -> Bool) (fb : Nat) (l : List Nat) (As : Option Addr) (cs : Nat) (w : World), unf E.length F < U ->
  RowIn enR (strike (fun b => fb <= b) w) Ae E -> NatsAt (strike (fun b => fb <= b) w) As l -> (∀ i ∈ l, i < E.length) -> l.length <= 1000000 -> FoundAt w fb E.length F ->
  Calls Tryz.prog 185 #[.agg #[.map (some b0), .map (some b1), .slice Ae E.length ce], .slice As l.length cs, .slice (some ⟨fb, 0, none⟩) E.length cf] w fun e w' => e = .returned (.tuple #[]) /\ ∃ F', FoundAt w' fb E.length F' /\ Found E F l F' /\ w.grownBy w' (some fb) := by
 induction U with
 | zero => intro F fb l As cs w h; omega
 | succ U ih =>
 intro F fb l As cs w hU hR hl hv hll hF
 obtain ⟨wb, hwb⟩ : ∃ wb, wb = w.alloc (.cells #[.map (some b0), .map (some b1), .slice Ae E.length ce] 212) := ⟨_, rfl⟩
 have B0 : Below w.heap.size w wb := by rw [hwb]; exact below_new (Below.refl _ _) _
 have X0 : wb.heap[w.heap.size]? = some (.cells #[.map (some b0), .map (some b1), .slice Ae E.length ce] 212 (0, 0)) := by rw [hwb]; exact heap_alloc_new w _
 have hfb := hF.lt
 have HR := hZ hR
 have HL := hZ hl
 have HVL := hZ hv
 have HFb : Hid (FoundAt wb fb E.length F) := hZ ((B0.block fb hfb).trans hF)
 have HG0 : Hid (w.grownBy wb (some fb)) := hZ (grown_of B0)
 have HX0 := hZ X0
 have hbs : w.heap.size < wb.heap.size := by rw [hwb]; simp
 have HWB := hZ hwb
 have HEE := hZ hE
 obtain ⟨n, hn⟩ : ∃ n, n = E.length := ⟨_, rfl⟩
 have HN := hZ hn
 obtain ⟨q, hq⟩ : ∃ q, q = l.length := ⟨_, rfl⟩
 have HQ := hZ hq
 rw [<- hn] at hE2 ⊢
 rw [<- hn] at HX0 HFb HWB
 rw [<- hq] at hll ⊢
 clear hR hl hv hF B0 X0 hwb hE hn hq
 go_enter Tryz.func185, Tryz.ntmps185
 go_upto_region 1 with fail
 rw [<- HWB.out]
 go_wp2_with fail
 go_loopw [10] (fun iv wr => ∃ (k : Nat) (F1 : Nat -> Bool), k <= q /\ iv = .int .i64 k /\ Hid (FoundAt wr fb n F1) /\ Hid (Found E F (l.take k) F1) /\ Hid (wb.grownBy wr (some fb))) (fun iv _ => q - (intOf iv).toNat)
 case atStart => exact ⟨0, F, by omega, rfl, HFb, hZ (by simpa using Found.nil E F), hZ (grown_of (Below.refl _ _))⟩
 case round =>
  obtain ⟨k, F1, hk, rfl, HF1, HFD, HG⟩ := hrel;obtain ⟨wo, rfl⟩ : ∃ wo : World, wo = wr := ⟨_, rfl⟩;by_cases hlt : k < q
  ·obtain ⟨x, hx⟩ : ∃ x, l[k]? = some x := ⟨_, List.getElem?_eq_getElem (by rw [<- HQ.out]; exact hlt)⟩
   have hxn : x < n := by rw [HN.out]; exact HVL.out x (List.mem_of_getElem? hx)
   have hGw : w.grownBy wo (some fb) := grown_over HG0.out HG.out
   have mv : ∀ (wx : World), w.grownBy wx (some fb) -> NatsAt (strike (fun b => fb <= b) wx) As l /\ RowIn enR (strike (fun b => fb <= b) wx) Ae E := fun wx hg =>
    ⟨HL.out.move hg.size fun b hb hS => ⟨hS, hg.block b hb (by simp; omega)⟩, HR.out.move hg.size fun b hb hS => ⟨hS, hg.block b hb (by simp; omega)⟩⟩
   obtain ⟨g, o, rfl, hg, hc⟩ := (mv wo hGw).1.free k x hx;have hfc := HF1.out.cell hxn;have hff := Lib.frozen_of_heap HF1.out x;have hxi : (0 : Int) <= x := by omega
   have hxi2 : (x : Int) < n := by omega
   have htk : l.take (k + 1) = l.take k ++ [x] := by rw [List.take_add_one, hx]; rfl
   have HTK := hZ htk;clear htk;cases hFx : F1 x with
   | true =>
    rw [hFx] at hfc;have FD2 : Hid (Found E F (l.take (k + 1)) F1) := hZ (by rw [HTK.out]; exact HFD.out.skip hFx);clear hFx hx mv hGw;go_wp2_with fail
    go_roundw
    case rel => exact ⟨k + 1, F1, by omega, by go_num, HF1, FD2, HG⟩
    case measure => simp [intOf]; omega
   | false =>
    rw [hFx] at hfc;obtain ⟨w5, hw5⟩ : ∃ w5, w5 = wo.setCell ⟨fb, x, none⟩ (.bool true) := ⟨_, rfl⟩
    have hg5 : wo.grownBy w5 (some fb) := by
     rw [hw5];exact ⟨rfl, rfl, rfl, by simp, fun b _ hne => Below.heap_setCell _ _ _ _ (by show b ≠ fb; exact fun e => hne (by rw [e]))⟩
    have hF5 : FoundAt w5 fb n (fun j => if j = x then true else F1 j) := by rw [hw5]; exact HF1.out.put hxn
    have hgd : w5.grownBy w5.drew (some fb) := grown_of (Below.drew (Below.refl _ _));have hg5d : w.grownBy w5.drew (some fb) := grown_over (grown_over hGw hg5) hgd;have hgb : wb.grownBy w5.drew (some fb) := grown_over (grown_over HG.out hg5) hgd;have hy : E[x]? = some E[x] := List.getElem?_eq_getElem (by rw [<- HN.out]; exact hxn);obtain ⟨y, hyy⟩ : ∃ y, y = E[x] := ⟨_, rfl⟩;rw [<- hyy] at hy;obtain ⟨g2, o2, lv, rfl, hg2, hc2, As2, cs2, rfl, hNs, hlen2⟩ := (mv w5.drew hg5d).2 x y hy;have hb0 := hgb.block w.heap.size hbs (by simp; omega) |>.trans HX0.out
    have e2 := (strike_cell.1 (hc2 2 _ rfl)).2;have e2' : w5.drew.cell? ⟨g2, o2 + x * 4 + 2, none⟩ = some (.slice As2 y.said.length cs2) := e2
    have hH0 : w5.drew.cell? ⟨w.heap.size, 0, none⟩ = some (.map (some b0)) /\ w5.drew.cell? ⟨w.heap.size, 1, none⟩ = some (.map (some b1)) /\ w5.drew.cell? ⟨w.heap.size, 2, none⟩ = some (.slice (some ⟨g2, o2, none⟩) n ce) /\ w5.drew.cell? ⟨g2, o2 + x * 4 + 2, none⟩ = some (.slice As2 y.said.length cs2) :=
     ⟨cZ hb0 0, cZ hb0 1, cZ hb0 2, e2'⟩
    have hlt2 : unf E.length (fun j => if j = x then true else F1 j) < U := by
     rw [<- HN.out];have h1 := unf_put hxn hFx;have h2 := unf_le (n := n) (HFD.out.old);rw [<- HN.out] at hU;omega
    have IH := hZ (ih (fun j => if j = x then true else F1 j) fb y.said As2 cs2 w5.drew hlt2 (mv w5.drew hg5d).2 hNs (HEE.out y (List.mem_of_getElem? hy)) hlen2 (by rw [<- HN.out]; exact hF5));rw [<- HN.out] at IH;have HHG := hZ hgb;have HY := hZ hy;have HW5 := hZ hw5;clear hw5 hg5 hF5 hgd hg5d hgb hy hyy hc2 hNs hb0 e2 e2' hlt2 hFx hx mv hGw;go_upto_region 6 with fail
    rw [<- HW5.out];clear hfc hff hc;refine AnyX.start (fun wx => wx.cell? ⟨w.heap.size, 0, none⟩ = some (.map (some b0)) /\ wx.cell? ⟨w.heap.size, 1, none⟩ = some (.map (some b1)) /\ wx.cell? ⟨w.heap.size, 2, none⟩ = some (.slice (some ⟨g2, o2, none⟩) n ce) /\ wx.cell? ⟨g2, o2 + x * 4 + 2, none⟩ = some (.slice As2 y.said.length cs2)) (fun k => k == 8) (by kernel_rfl) ?_;refine AnyX.tk (i := 0) (v := ?_) rfl (fun _ _ _ h => h) hH0 (Or.inl ⟨by rfl, ?_⟩) ?_;rotate_left
    ·(intro wS hS; (try obtain ⟨c0, c1, c2, c3⟩ := hS); go_simp; try with_reducible rfl)
    simp only [getElem_toArray, getElem_cons_succ, getElem_cons_zero];simp only [Act.put, setIfInBounds_toArray, set_cons_zero, set_cons_succ];refine AnyX.mv (i := 1) (v := ?_) rfl (fun _ _ _ h => h) (Or.inl ⟨by rfl, ?_⟩) ?_;rotate_left
    ·(intro wS _; go_simp; try with_reducible rfl)
    simp only [getElem_toArray, getElem_cons_succ, getElem_cons_zero];simp only [Act.put, setIfInBounds_toArray, set_cons_zero, set_cons_succ];refine AnyX.tk (i := 2) (v := ?_) rfl (fun _ _ _ h => h) hH0 (Or.inl ⟨by rfl, ?_⟩) ?_;rotate_left
    ·(intro wS hS; (try obtain ⟨c0, c1, c2, c3⟩ := hS); go_simp; try with_reducible rfl)
    simp only [getElem_toArray, getElem_cons_succ, getElem_cons_zero];simp only [Act.put, setIfInBounds_toArray, set_cons_zero, set_cons_succ];refine AnyX.mv (i := 3) (v := ?_) rfl (fun _ _ _ h => h) (Or.inl ⟨by rfl, ?_⟩) ?_;rotate_left
    ·(intro wS _; go_simp; try with_reducible rfl)
    simp only [getElem_toArray, getElem_cons_succ, getElem_cons_zero];simp only [Act.put, setIfInBounds_toArray, set_cons_zero, set_cons_succ];refine AnyX.mv (i := 4) (v := ?_) rfl (fun _ _ _ h => h) (Or.inl ⟨by rfl, ?_⟩) ?_;rotate_left
    ·(intro wS _; go_simp; try with_reducible rfl)
    simp only [getElem_toArray, getElem_cons_succ, getElem_cons_zero];simp only [Act.put, setIfInBounds_toArray, set_cons_zero, set_cons_succ];refine AnyX.mv (i := 5) (v := ?_) rfl (fun _ _ _ h => h) (Or.inl ⟨by rfl, ?_⟩) ?_;rotate_left
    ·(intro wS _; go_simp; try with_reducible rfl)
    simp only [getElem_toArray, getElem_cons_succ, getElem_cons_zero];simp only [Act.put, setIfInBounds_toArray, set_cons_zero, set_cons_succ];refine AnyX.tk (i := 6) (v := ?_) rfl (fun _ _ _ h => h) hH0 (Or.inl ⟨by rfl, ?_⟩) ?_;rotate_left
    ·(intro wS hS; (try obtain ⟨c0, c1, c2, c3⟩ := hS); go_simp; try with_reducible rfl)
    simp only [getElem_toArray, getElem_cons_succ, getElem_cons_zero];simp only [Act.put, setIfInBounds_toArray, set_cons_zero, set_cons_succ];refine AnyX.mv (i := 7) (v := ?_) rfl (fun _ _ _ h => h) (Or.inl ⟨by rfl, ?_⟩) ?_;rotate_left
    ·(intro wS _; go_simp; try with_reducible rfl)
    simp only [getElem_toArray, getElem_cons_succ, getElem_cons_zero];simp only [Act.put, setIfInBounds_toArray, set_cons_zero, set_cons_succ];refine AnyX.go 8 (by kernel_rfl) rfl rfl (fun K hK => ?_);simp only [getElem_toArray, getElem_cons_succ, getElem_cons_zero];go_simp
    refine IH.out.mono ?_;rintro e w6 ⟨rfl, F3, hF3, hFD3, hg3⟩;have FD3 : Hid (Found E F (l.take (k + 1)) F3) := hZ (by rw [HTK.out]; exact HFD.out.more HY.out hFD3);have HF3 := hZ hF3;have HG3 := hZ (grown_over HHG.out hg3);clear hF3 hFD3 hg3;refine hK.out _ _ (fun hoff _ => absurd hoff (by decide)) ?_;clear hK;(try simp only [Act.put, setIfInBounds_toArray, set_cons_zero, set_cons_succ]);refine AnyX.done (by kernel_rfl) ?_ _;go_wp2_with fail
    go_roundw
    case rel => exact ⟨k + 1, F3, by omega, by go_num, HF3, FD3, HG3⟩
    case measure => simp [intOf]; omega
  ·obtain rfl : k = q := by omega
   have hfull : l.take k = l := List.take_of_length_le (by rw [<- HQ.out]; exact Nat.le_refl _);have FIN : Hid (Found E F l F1) := hZ (by have := HFD.out; rwa [hfull] at this);go_wp2_with fail
   go_end0
   exact ⟨rfl, F1, HF1.out, FIN.out, grown_over HG0.out HG.out⟩
theorem strike_none (w : World) : strike (fun _ => False) w = w := by
  unfold strike
  have : (w.heap.mapIdx fun i o => if False then Obj.cells #[] 0 (0, 0) else o) = w.heap := by
    apply Array.ext
    · simp
    · intro i h1 h2; simp
  simp only [if_false] at this ⊢;rw [this]
theorem row_ahead {α : Type} {R : Reads α} {w w' : World} {A : Option Addr} {xs : List α} {fb : Nat} (h : RowIn R w A xs) (hb : Below w.heap.size w w') (hf : w.heap.size <= fb) : RowIn R (strike (fun b => fb <= b) w') A xs := by
  rw [<- strike_none w] at h;exact h.move hb.size fun b hlt _ => ⟨by omega, hb.block b hlt⟩
theorem nats_ahead {w w' : World} {A : Option Addr} {xs : List Nat} {fb : Nat} (h : NatsAt w A xs) (hb : Below w.heap.size w w') (hf : w.heap.size <= fb) : NatsAt (strike (fun b => fb <= b) w') A xs := by
  rw [<- strike_none w] at h;exact h.move hb.size fun b hlt _ => ⟨by omega, hb.block b hlt⟩
theorem bool_info : (Tryz.prog.info? 4).map (fun i => (i.zero, i.size, i.bytes)) = some (some (.bool false), 1, 1) := by kernel_rfl
theorem made_bools (n : Nat) : madeCells (Value.bool false).cells (n * 1) = ((List.range n).map fun _ => Value.bool false).toArray := by
  apply Array.ext
  · simp [madeCells, Value.cells]
  · intro i h1 h2; simp [madeCells, Value.cells, Nat.mod_one]
theorem found_any (E : List En) (hE : Valid E) (hE2 : E.length <= 1000000) (Ae : Option Addr) (ce b0 b1 : Nat) (l : List Nat) (As : Option Addr) (cs : Nat) (w : World)
    (hR : RowIn enR w Ae E) (hl : NatsAt w As l) (hv : ∀ i ∈ l, i < E.length) (hll : l.length <= 1000000) :
    Calls Tryz.prog 174 #[.agg #[.map (some b0), .map (some b1), .slice Ae E.length ce], .slice As l.length cs] w fun e w' => ∃ fb, e = .returned (.slice (some ⟨fb, 0, none⟩) E.length E.length) /\ w.heap.size <= fb /\ FoundAt w' fb E.length (reachB E l) /\ Below w.heap.size w w' := by
  obtain ⟨w1, hw1⟩ : ∃ w1, w1 = w.alloc (.cells #[.map (some b0), .map (some b1), .slice Ae E.length ce] 212) := ⟨_, rfl⟩;have B1 : Below w.heap.size w w1 := by rw [hw1]; exact below_new (Below.refl _ _) _
  have X1 : w1.heap[w.heap.size]? = some (.cells #[.map (some b0), .map (some b1), .slice Ae E.length ce] 212 (0, 0)) := by rw [hw1]; exact heap_alloc_new w _
  have s1 : w1.heap.size = w.heap.size + 1 := by rw [hw1]; simp
  obtain ⟨w2, hw2⟩ : ∃ w2, w2 = w1.alloc (.cells (madeCells (Value.bool false).cells (E.length * 1)) 4) := ⟨_, rfl⟩;have B2 : Below w1.heap.size w1 w2 := by rw [hw2]; exact below_new (Below.refl _ _) _
  have F2 : FoundAt w2 w1.heap.size E.length (fun _ => false) := by
    unfold FoundAt
    rw [hw2, <- made_bools]; exact heap_alloc_new w1 _
  have B02 := below_over B1 B2;have MK := hZ (mark_any E hE hE2 Ae ce b0 b1 E.length (unf E.length (fun _ => false) + 1) (fun _ => false) w1.heap.size l As cs w2 (Nat.lt_succ_self _) (row_ahead hR B02 (by omega)) (nats_ahead hl B02 (by omega)) hv hll F2);obtain ⟨i0, hi, hz0, hz1, hz2⟩ := info_parts bool_info;have MS := run_makeSlice (P := Tryz.prog) (w := w1) 224 4 i0 (.bool false) Tryz.underlying224 hi hz0 .i64 .i64 (E.length : Int) (E.length : Int) (by omega) (by omega) (by rw [hz1]; simp; omega) (by rw [hz2]; omega) (by omega);rw [hz1] at MS;simp only [Int.toNat_natCast] at MS;rw [<- hw2] at MS;obtain ⟨x0, x1, x2⟩ := cq3 X1;simp at x0 x1 x2;have Y := (B2.block w.heap.size (by omega)).trans X1;have HY := hZ Y;have HB := hZ B02;have HW1 := hZ hw1;obtain ⟨n, hn⟩ : ∃ n, n = E.length := ⟨_, rfl⟩;have HN := hZ hn;rw [<- hn] at MS x2 HY HW1 MK hE2 ⊢;have hlo : w.heap.size <= w1.heap.size := by omega
  have HS2 : Hid (w2.heap.size = w1.heap.size + 1) := hZ (by rw [hw2]; simp);have HS1 := hZ s1;clear B1 X1 hw2 B2 F2 B02 Y hR hl hw1 hn s1;go_enter Tryz.func174, Tryz.ntmps174
  go_upto_region 1 with fail
  rw [<- HW1.out];go_upto_region 2 with fail
  clear MS x0 x1 x2;obtain ⟨x0, x1, x2⟩ := cq3 HY.out;simp at x0 x1 x2;go_wp2_with fail
  refine MK.out.mono ?_;rintro e w3 ⟨rfl, F, hF, hFD, hg⟩
  have FA : Hid (FoundAt w3 w1.heap.size n (reachB E l)) := hZ (by
    have : F = reachB E l := funext fun i => hFD.all i
    rw [<- this]; exact hF)
  have FB : Hid (Below w.heap.size w w3) := hZ (HB.out.trans ⟨hg.os, hg.tape, hg.output, hg.size, fun b hb => hg.block b (by have := HS1.out; have := HS2.out; omega) (by have := HS1.out; simp; omega)⟩);clear hF hFD hg x0 x1 x2;go_wp2_with fail
  go_ret;exact ⟨_, rfl, hlo, FA.out, FB.out⟩
theorem mis_any (at_ kind : Int) (As : Option Addr) (n cs : Nat) (b : Bool) (w : World) : Calls Tryz.prog 170 #[.agg #[.int .i64 at_, .int .i64 kind, .slice As n cs, .bool b]] w fun e w' => e = .returned (.bool (!b)) /\ Below w.heap.size w w' := by
  go_enter Tryz.func170, Tryz.ntmps170
  go_wp2_with fail
  go_ret;exact ⟨rfl, below_new (Below.refl _ _) _⟩
theorem two_boxes (w : World) (c1 c2 : Array Value) (t1 t2 : TypeId) : ∃ W2, W2 = (w.alloc (.cells c1 t1)).alloc (.cells c2 t2) /\ Below w.heap.size w W2 /\ W2.heap[w.heap.size]? = some (.cells c1 t1 (0, 0)) /\ W2.heap[w.heap.size + 1]? = some (.cells c2 t2 (0, 0)) /\ w.heap.size + 1 < W2.heap.size := by
  have hs1 : (w.alloc (.cells c1 t1)).heap.size = w.heap.size + 1 := by simp
  refine ⟨_, rfl, below_new (below_new (Below.refl _ _) _) _, ?_, ?_, by simp⟩
  · rw [Lib.alloc_old _ _ _ (by rw [hs1]; omega)]; exact heap_alloc_new w _
  · rw [<- hs1]; exact heap_alloc_new _ _
noncomputable def hidB (E : List En) (l : List Nat) : Bool := (List.range E.length).any fun i => reachB E l i && (match E[i]? with | some y => y.kind == 2 | none => false)
theorem circ_any (E : List En) (hE : Valid E) (hE2 : E.length <= 1000000) (Ae : Option Addr) (ce b0 b1 : Nat) (x : En) (As : Option Addr) (cs : Nat) (w : World)
    (hR : RowIn enR w Ae E) (hl : NatsAt w As x.said) (hv : ∀ i ∈ x.said, i < E.length) (hll : x.said.length <= 1000000) (hx : x.at_ < E.length) :
    Calls Tryz.prog 171 #[.agg #[.map (some b0), .map (some b1), .slice Ae E.length ce], .agg #[.int .i64 x.at_, .int .i64 x.kind, .slice As x.said.length cs, .bool x.whole]] w fun e w' => e = .returned (.bool (reachB E x.said x.at_)) /\ Below w.heap.size w w' := by
  obtain ⟨W2, hW2, hB, X1, X2, hlo⟩ := two_boxes w #[.map (some b0), .map (some b1), .slice Ae E.length ce] #[.int .i64 x.at_, .int .i64 x.kind, .slice As x.said.length cs, .bool x.whole] 212 219;have BD : Below W2.heap.size W2 W2.drew := Below.drew (Below.refl _ _);have BW := below_over hB BD;have AL := hZ (found_any E hE hE2 Ae ce b0 b1 x.said As cs W2.drew (hR.below BW) (hl.below BW) hv hll);have Y1 := (BD.block _ (by omega)).trans X1;have Y2 := (BD.block _ hlo).trans X2
  have hH0 : (W2.drew.cell? ⟨w.heap.size, 0, none⟩ = some (.map (some b0)) /\ W2.drew.cell? ⟨w.heap.size, 1, none⟩ = some (.map (some b1)) /\ W2.drew.cell? ⟨w.heap.size, 2, none⟩ = some (.slice Ae E.length ce)) /\ W2.drew.cell? ⟨w.heap.size + 1, 0, none⟩ = some (.int .i64 x.at_) /\ W2.drew.cell? ⟨w.heap.size + 1, 2, none⟩ = some (.slice As x.said.length cs) :=
    ⟨⟨cZ Y1 0, cZ Y1 1, cZ Y1 2⟩, cZ Y2 0, cZ Y2 2⟩
  have HBW := hZ BW;have HW2 := hZ hW2;have hsd : W2.drew.heap.size = W2.heap.size := rfl;have HSD := hZ hsd;have hx1 : (0 : Int) <= x.at_ := by omega
  have hx2 : (x.at_ : Int) < E.length := by omega
  obtain ⟨n, hn⟩ : ∃ n, n = E.length := ⟨_, rfl⟩;rw [<- hn] at hH0 HW2 AL hx hx2 hE2 ⊢;clear hB X1 X2 BD BW hW2 Y1 Y2 hR hl hsd hn;go_enter Tryz.func171, Tryz.ntmps171
  go_upto_region 1 with fail
  rw [<- HW2.out];refine AnyX.start (fun wx => (wx.cell? ⟨w.heap.size, 0, none⟩ = some (.map (some b0)) /\ wx.cell? ⟨w.heap.size, 1, none⟩ = some (.map (some b1)) /\ wx.cell? ⟨w.heap.size, 2, none⟩ = some (.slice Ae n ce)) /\ wx.cell? ⟨w.heap.size + 1, 0, none⟩ = some (.int .i64 x.at_) /\ wx.cell? ⟨w.heap.size + 1, 2, none⟩ = some (.slice As x.said.length cs)) (fun _ => false) (by kernel_rfl) ?_;refine AnyX.tk (i := 0) (v := ?_) rfl (fun _ _ _ h => h) hH0 (Or.inl ⟨by rfl, ?_⟩) ?_;rotate_left
  · (intro wS hS; (try obtain ⟨⟨c0, c1, c2⟩, c3, c4⟩ := hS); go_simp; try with_reducible rfl)
  simp only [getElem_toArray, getElem_cons_succ, getElem_cons_zero];simp only [Act.put, setIfInBounds_toArray, set_cons_zero, set_cons_succ];refine AnyX.mv (i := 1) (v := ?_) rfl (fun _ _ _ h => h) (Or.inl ⟨by rfl, ?_⟩) ?_;rotate_left
  · (intro wS _; go_simp; try with_reducible rfl)
  simp only [getElem_toArray, getElem_cons_succ, getElem_cons_zero];simp only [Act.put, setIfInBounds_toArray, set_cons_zero, set_cons_succ];refine AnyX.tk (i := 2) (v := ?_) rfl (fun _ _ _ h => h) hH0 (Or.inl ⟨by rfl, ?_⟩) ?_;rotate_left
  · (intro wS hS; (try obtain ⟨⟨c0, c1, c2⟩, c3, c4⟩ := hS); go_simp; try with_reducible rfl)
  simp only [getElem_toArray, getElem_cons_succ, getElem_cons_zero];simp only [Act.put, setIfInBounds_toArray, set_cons_zero, set_cons_succ];refine AnyX.mv (i := 4) (v := ?_) rfl (fun _ _ _ h => h) (Or.inl ⟨by rfl, ?_⟩) ?_;rotate_left
  · (intro wS _; go_simp; try with_reducible rfl)
  simp only [getElem_toArray, getElem_cons_succ, getElem_cons_zero];simp only [Act.put, setIfInBounds_toArray, set_cons_zero, set_cons_succ];refine AnyX.tk (i := 5) (v := ?_) rfl (fun _ _ _ h => h) hH0 (Or.inl ⟨by rfl, ?_⟩) ?_;rotate_left
  · (intro wS hS; (try obtain ⟨⟨c0, c1, c2⟩, c3, c4⟩ := hS); go_simp; try with_reducible rfl)
  simp only [getElem_toArray, getElem_cons_succ, getElem_cons_zero];simp only [Act.put, setIfInBounds_toArray, set_cons_zero, set_cons_succ];refine AnyX.go 3 (by kernel_rfl) rfl rfl (fun K hK => ?_);simp only [getElem_toArray, getElem_cons_succ, getElem_cons_zero];go_simp
  refine AL.out.mono ?_;rintro e w3 ⟨fb, rfl, hfb, hF, hb⟩;have hc := hF.cell hx;have HF := hZ (below_over HBW.out hb)
  have hH3 : (w3.cell? ⟨w.heap.size, 0, none⟩ = some (.map (some b0)) /\ w3.cell? ⟨w.heap.size, 1, none⟩ = some (.map (some b1)) /\ w3.cell? ⟨w.heap.size, 2, none⟩ = some (.slice Ae n ce)) /\ w3.cell? ⟨w.heap.size + 1, 0, none⟩ = some (.int .i64 x.at_) /\ w3.cell? ⟨w.heap.size + 1, 2, none⟩ = some (.slice As x.said.length cs) := by
    have hw : ∀ (b o : Nat) (v : Value), b <= w.heap.size + 1 -> W2.drew.cell? ⟨b, o, none⟩ = some v -> w3.cell? ⟨b, o, none⟩ = some v := fun b o v h1 h2 => (hb.cell (p := ⟨b, o, none⟩) (by show b < W2.drew.heap.size; rw [HSD.out]; omega)).trans h2
    exact ⟨⟨hw _ _ _ (by omega) hH0.1.1, hw _ _ _ (by omega) hH0.1.2.1, hw _ _ _ (by omega) hH0.1.2.2⟩, hw _ _ _ (by omega) hH0.2.1, hw _ _ _ (by omega) hH0.2.2⟩
  clear hF hb;refine hK.out _ _ (fun hoff _ => hH3) ?_;clear hK;(try simp only [Act.put, setIfInBounds_toArray, set_cons_zero, set_cons_succ]);refine AnyX.mv (i := 6) (v := ?_) rfl (fun _ _ _ h => h) (Or.inl ⟨by rfl, ?_⟩) ?_;rotate_left
  · (intro wS _; go_simp; try with_reducible rfl)
  simp only [getElem_toArray, getElem_cons_succ, getElem_cons_zero];simp only [Act.put, setIfInBounds_toArray, set_cons_zero, set_cons_succ];refine AnyX.go 7 (by kernel_rfl) rfl rfl (fun K hK => ?_);simp only [getElem_toArray, getElem_cons_succ, getElem_cons_zero];go_simp
  refine hK.out _ _ (fun hoff _ => hH3) ?_;clear hK;(try simp only [Act.put, setIfInBounds_toArray, set_cons_zero, set_cons_succ]);refine AnyX.mv (i := 8) (v := ?_) rfl (fun _ _ _ h => h) (Or.inl ⟨by rfl, ?_⟩) ?_;rotate_left
  · (intro wS _; go_simp; try with_reducible rfl)
  simp only [getElem_toArray, getElem_cons_succ, getElem_cons_zero];simp only [Act.put, setIfInBounds_toArray, set_cons_zero, set_cons_succ];refine AnyX.done (by kernel_rfl) ?_ _;go_wp2_with fail
  go_ret;exact ⟨rfl, HF.out⟩
theorem hid_at {E : List En} {l : List Nat} {k : Nat} {x : En} (hx : E[k]? = some x) : (match E[k]? with | some y => y.kind == 2 | none => false) = (x.kind == 2) := by rw [hx]
theorem hid_snoc (E : List En) (l : List Nat) (k : Nat) : ((List.range (k + 1)).any fun i => reachB E l i && (match E[i]? with | some y => y.kind == 2 | none => false)) = (((List.range k).any fun i => reachB E l i && (match E[i]? with | some y => y.kind == 2 | none => false)) || (reachB E l k && (match E[k]? with | some y => y.kind == 2 | none => false))) := by
  rw [List.range_succ, List.any_append]; simp
theorem hid_yes {E : List En} {l : List Nat} {k : Nat} {x : En} (hk : k < E.length) (hx : E[k]? = some x) (h1 : reachB E l k = true) (h2 : (x.kind == 2) = true) : hidB E l = true := by
  unfold hidB
  rw [List.any_eq_true];exact ⟨k, List.mem_range.2 hk, by rw [h1, hx]; exact h2⟩
theorem hid_any (E : List En) (hE : Valid E) (hE2 : E.length <= 1000000) (Ae : Option Addr) (ce b0 b1 : Nat) (x : En) (As : Option Addr) (cs : Nat) (w : World)
    (hR : RowIn enR w Ae E) (hl : NatsAt w As x.said) (hv : ∀ i ∈ x.said, i < E.length) (hll : x.said.length <= 1000000) :
    Calls Tryz.prog 172 #[.agg #[.map (some b0), .map (some b1), .slice Ae E.length ce], .agg #[.int .i64 x.at_, .int .i64 x.kind, .slice As x.said.length cs, .bool x.whole]] w fun e w' => e = .returned (.bool (hidB E x.said)) /\ Below w.heap.size w w' := by
  obtain ⟨W2, hW2, hB, X1, X2, hlo⟩ := two_boxes w #[.map (some b0), .map (some b1), .slice Ae E.length ce] #[.int .i64 x.at_, .int .i64 x.kind, .slice As x.said.length cs, .bool x.whole] 212 219;have AL := hZ (found_any E hE hE2 Ae ce b0 b1 x.said As cs W2 (hR.below hB) (hl.below hB) hv hll);obtain ⟨x0, x1, x2⟩ := cq3 X1;have z2 := cZ X2 2;simp at x0 x1 x2 z2;have HX1 := hZ X1;have HB := hZ hB;have HW2 := hZ hW2;have HR := hZ (hR.below hB);obtain ⟨V, hV⟩ : ∃ V, V = hidB E x.said := ⟨_, rfl⟩;have HV := hZ hV;obtain ⟨n, hn⟩ : ∃ n, n = E.length := ⟨_, rfl⟩;have HN := hZ hn;rw [<- hn] at x2 HX1 HW2 AL hE2 ⊢;rw [<- hV];clear hB X1 X2 hW2 hR hl hn hV;go_enter Tryz.func172, Tryz.ntmps172
  go_upto_region 1 with fail
  rw [<- HW2.out];go_wp2_with fail
  refine AL.out.mono ?_;rintro e w3 ⟨fb, rfl, hfb, hF, hb⟩;have HF := hZ hF;have HB3 := hZ (below_over HB.out hb);have Y1 := (hb.block w.heap.size (by omega)).trans HX1.out;have HR3 := hZ (HR.out.below hb);have y2 := cZ Y1 2;simp at y2;clear hF hb x0 x1 x2 z2 Y1;go_wp2_with fail
  go_loopw [12] (fun iv wr => ∃ k : Nat, k <= n /\ iv = .int .i64 k /\ wr = w3 /\ Hid (((List.range k).any fun i => reachB E x.said i && (match E[i]? with | some y => y.kind == 2 | none => false)) = false)) (fun iv _ => n - (intOf iv).toNat)
  case atStart => exact ⟨0, by omega, rfl, rfl, hZ rfl⟩
  case round =>
    obtain ⟨k, hk, rfl, rfl, HQ⟩ := hrel;by_cases hlt : k < n
    · have hc := HF.out.cell hlt
      have hy : E[k]? = some E[k] := List.getElem?_eq_getElem (by rw [<- HN.out]; exact hlt);obtain ⟨y, hyy⟩ : ∃ y, y = E[k] := ⟨_, rfl⟩;rw [<- hyy] at hy;obtain ⟨g2, o2, lv, rfl, hg2, hc2, As2, cs2, rfl, hNs, hlen2⟩ := HR3.out k y hy;have u1 := hc2 1 _ rfl;have u1' : wr.cell? ⟨g2, o2 + k * 4 + 1, none⟩ = some (.int .i64 y.kind) := u1
      have HY := hZ hy;have hNE : k < E.length := by rw [<- HN.out]; exact hlt
      obtain ⟨r, hr⟩ : ∃ r, reachB E x.said k = r := ⟨_, rfl⟩;obtain ⟨p, hp⟩ : ∃ p, (y.kind == 2) = p := ⟨_, rfl⟩;rw [hr] at hc
      have NX : Hid ((r && p) = false -> ((List.range (k + 1)).any fun i => reachB E x.said i && (match E[i]? with | some y => y.kind == 2 | none => false)) = false) := hZ (fun h => by
        rw [hid_snoc, HQ.out, hid_at HY.out (l := []), hr, hp, h]; rfl)
      have YS : Hid (r = true -> p = true -> V = true) := hZ (fun h1 h2 => by rw [HV.out]; exact hid_yes hNE HY.out (by rw [hr, h1]) (by rw [hp, h2]));clear hy hyy hc2 hNs u1 hr HY;cases r with
      | false =>
        go_wp2_with fail
        go_roundw
        case rel => exact ⟨k + 1, by omega, by go_num, by first | rfl | trivial, hZ (NX.out rfl)⟩
        case measure => simp [intOf]; omega
      | true =>
        cases p with
        | false =>
          go_wp2_with fail
          go_roundw
          case rel => exact ⟨k + 1, by omega, by go_num, by first | rfl | trivial, hZ (NX.out rfl)⟩
          case measure => simp [intOf]; omega
        | true =>
          have RV := YS.out rfl rfl;subst RV;go_wp2_with fail
          go_ret;exact ⟨rfl, HB3.out⟩
    · obtain rfl : k = n := by omega
      have RV : V = false := by rw [HV.out]; unfold hidB; rw [<- HN.out]; exact HQ.out
      subst RV;go_wp2_with fail
      go_ret;exact ⟨rfl, HB3.out⟩
end Go.Proofs.YtddlmigofilejaaGreat
