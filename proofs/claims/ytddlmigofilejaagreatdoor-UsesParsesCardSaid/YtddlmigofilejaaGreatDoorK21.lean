/-
  Several texts in one.
-/
import Derived.Test.YtddlmigofilejaaGreatDoorK20
import Derived.Maps.OwnSet
import Derived.Maps.AppendAt
import Derived.Laws.MakeOwn
set_option maxRecDepth 100000
set_option maxHeartbeats 8000000
namespace Go.Proofs.YtddlmigofilejaaGreatDoor
open Go.RowKit
open Go.Sort Go.Maps
open M
theorem lawStr : Go.Maps.Keyed Tryz.prog 9 := Go.Maps.string_keyed Tryz.underlying9
theorem zeroInt (w : World) : (zeroValue 3).run Tryz.prog w = .ok (.int .i64 0) w := by kernel_rfl
def MapS (w : World) (b n : Nat) (p : ByteArray -> Bool) (f : ByteArray -> Int -> Prop) : Prop :=
  ∃ D : DataW Unit, w.ownsMap Tryz.prog 9 (plainElem Tryz.prog 3) b n D /\ Go.Maps.IsMap D /\ ∀ s : ByteArray, s.size <= maxLen -> Go.Maps.has D (.string s.data.toList) = p s /\ (p s = true -> ∀ c, D.atKey (.string s.data.toList) (.lit (.int .i64 0)) = .lit (.int .i64 c) -> f s c)
theorem MapS.below {w w' : World} {b n : Nat} {p : ByteArray -> Bool} {f : ByteArray -> Int -> Prop} (h : MapS w b n p f) (hb : Below w.heap.size w w') : MapS w' b n p f := by
  obtain ⟨D, ⟨es, clock, h1, h2, h3, h4⟩, hm, h5⟩ := h;exact ⟨D, ⟨es, clock, (hb.block b (Array.getElem?_eq_some_iff.1 h1).1).trans h1, h2, h3, h4⟩, hm, h5⟩
structure NmS (w : World) (b0 b1 : Nat) (m : Mo) : Prop where
  ims : ∃ n, MapS w b0 n (impHas m) (fun _ _ => True)
  tys : ∃ n, MapS w b1 n (fun s => (typAt m s).isSome) (fun s c => typAt m s = some c.toNat /\ 0 <= c)
theorem NmS.below {w w' : World} {b0 b1 : Nat} {m : Mo} (h : NmS w b0 b1 m) (hb : Below w.heap.size w w') : NmS w' b0 b1 m :=
  ⟨h.ims.imp fun _ h => h.below hb, h.tys.imp fun _ h => h.below hb⟩
def natCells (l : List Nat) : List Value := l.map fun (i : Nat) => Value.int .i64 (i : Int)
def OwnN (w : World) (lo : Nat) (v : Value) (l : List Nat) : Prop := w.ownsRow lo 3 1 v l.length (natCells l)
theorem own_nilN (w : World) (lo : Nat) : OwnN w lo (.slice none 0 0) [] := World.ownsRow_nil _ _ _ _
theorem local_said (m : Mo) (t : Ty) (b0 b1 : Nat) (A : Option Addr) (n c : Nat) (v : Value) (w : World) (hk : t.kind = 8) (hN : NmS w b0 b1 m) (hv : TyV w v t) :
    Calls Tryz.prog 242 #[.agg #[.map (some b0), .map (some b1), .slice A n c], v] w fun e w' => ∃ v' : Value, e = .returned (.tuple #[v', .bool (wholeT m t)]) /\ OwnN w' w.heap.size v' (saidT m t) /\ Below w.heap.size w w' := by
  obtain ⟨l, rfl, hT⟩ := hv;obtain ⟨An, cn, As, cs, rfl, zp, zm, za, zn, zs, -, -⟩ := hT.parts;rw [saidT_local m t hk, wholeT_local m t hk];have hz1 : t.mod.size <= maxLen := by unfold maxLen; omega
  have hz2 : t.name.size <= maxLen := by unfold maxLen; omega
  obtain ⟨W2, hW2⟩ : ∃ W2, W2 = (w.alloc (.cells #[.map (some b0), .map (some b1), .slice A n c] 247)).alloc (.cells #[.int .i64 t.kind, .string t.pkg, .int .i64 t.major, .string t.mod, .string t.name, .slice An t.names.length cn, .slice As t.subs.length cs] 48) := ⟨_, rfl⟩;have hB : Below w.heap.size w W2 := by rw [hW2]; exact below_new (below_new (Below.refl _ _) _) _
  have hs1 : (w.alloc (.cells #[.map (some b0), .map (some b1), .slice A n c] 247)).heap.size = w.heap.size + 1 := by simp
  have X1 : W2.heap[w.heap.size]? = some (.cells #[.map (some b0), .map (some b1), .slice A n c] 247 (0, 0)) := by
    rw [hW2, Lib.alloc_old _ _ _ (by rw [hs1]; omega)]; exact heap_alloc_new w _
  have X2 : W2.heap[w.heap.size + 1]? = some (.cells #[.int .i64 t.kind, .string t.pkg, .int .i64 t.major, .string t.mod, .string t.name, .slice An t.names.length cn, .slice As t.subs.length cs] 48 (0, 0)) := by
    rw [hW2, <- hs1]; exact heap_alloc_new _ _
  obtain ⟨⟨n0, D0, o0, -, k0⟩, ⟨n1, D1, o1, -, k1⟩⟩ := hN.below hB;obtain ⟨x0, x1⟩ := cq2 X1;have y3 := cZ X2 3;have y4 := cZ X2 4;simp at x0 x1 y3 y4;have kk0 := Go.WideMaps.keyOf_string_mk (P := Tryz.prog) Tryz.underlying9 hz1;have kk1 := Go.WideMaps.keyOf_string_mk (P := Tryz.prog) Tryz.underlying9 hz2;have HB := zH hB;have HW2 := zH hW2;have hlo : w.heap.size <= W2.heap.size := hB.size;clear hT hN hk hB hW2 X1 X2 hs1;by_cases hz : t.mod.size = 0
  · rw [if_pos hz, if_pos hz]
    obtain ⟨e1, e2⟩ := empty_facts _ hz;have h1 : has D1 (.string t.name.data.toList) = (typAt m t.name).isSome := (k1 t.name hz2).1;have h2 : (typAt m t.name).isSome = true -> ∀ c, D1.atKey (.string t.name.data.toList) (.lit (.int .i64 0)) = .lit (.int .i64 c) -> typAt m t.name = some c.toNat /\ 0 <= c := (k1 t.name hz2).2;clear k0 k1 o0 kk0 hz x0;cases hq : typAt m t.name with
    | none =>
      rw [hq] at h1;simp only [Option.isSome_none] at h1;have H1 := zH h1;have FIN := zH (own_nilN W2 w.heap.size);clear h1 h2 hq;go_enter Tryz.func242, Tryz.ntmps242
      go_upto_region 1 with fail
      rw [<- HW2.out];go_wp2_with (at_lookup; refine Go.wpList_lookup_own_ok_int _ rfl _ _ 244 rfl 9 3 .i64 lawStr Tryz.underlying244 Tryz.underlying3 (zeroInt _) b1 n1 D1 rfl o1 _ _ rfl kk1 ?_; intro c hat hwc; rw [H1.out])
      go_ret2
      exact ⟨_, rfl, FIN.out, HB.out⟩
    | some i =>
      rw [hq] at h1;simp only [Option.isSome_some] at h1;have H1 := zH h1
      have HC : Hid (∀ c, D1.atKey (.string t.name.data.toList) (.lit (.int .i64 0)) = .lit (.int .i64 c) -> c = (i : Int)) := zH (fun c hc => by
        obtain ⟨a, b⟩ := h2 (by rw [hq]; rfl) c hc;rw [hq] at a;have := Option.some.inj a
        omega)
      have FIN : Hid (OwnN (W2.alloc (.cells #[.int .i64 i] 3)) w.heap.size (.slice (some ⟨W2.heap.size, 0, none⟩) 1 1) [i]) := zH (World.ownsRow_lit (base := w.heap.size) (e := 3) (size := 1) W2 #[.int .i64 i] 1 hlo (by decide) rfl);have FB : Hid (Below w.heap.size w (W2.alloc (.cells #[.int .i64 i] 3))) := zH (below_new HB.out _);clear h1 h2 hq;go_enter Tryz.func242, Tryz.ntmps242
      go_upto_region 1 with fail
      rw [<- HW2.out];go_wp2_with (at_lookup; refine Go.wpList_lookup_own_ok_int _ rfl _ _ 244 rfl 9 3 .i64 lawStr Tryz.underlying244 Tryz.underlying3 (zeroInt _) b1 n1 D1 rfl o1 _ _ rfl kk1 ?_; intro c hat hwc; rw [H1.out]; obtain rfl := HC.out c hat)
      go_ret2
      exact ⟨_, rfl, FIN.out, FB.out⟩
  · rw [if_neg hz, if_neg hz]
    obtain ⟨e1, e2⟩ := full_facts _ hz;obtain ⟨h1, -⟩ := k0 t.mod hz1;have FIN := zH (own_nilN W2 w.heap.size);obtain ⟨q, hq⟩ : ∃ q, impHas m t.mod = q := ⟨_, rfl⟩;rw [hq] at h1 ⊢;have H1 := zH h1;clear k0 k1 o1 kk1 hz x1 h1 hq;go_enter Tryz.func242, Tryz.ntmps242
    go_upto_region 1 with fail
    rw [<- HW2.out];go_wp2_with (at_lookup; refine Go.wpList_lookup_own_ok_int _ rfl _ _ 244 rfl 9 3 .i64 lawStr Tryz.underlying244 Tryz.underlying3 (zeroInt _) b0 n0 D0 rfl o0 _ _ rfl kk0 ?_; intro c hat hwc; rw [H1.out])
    go_ret2
    exact ⟨_, rfl, FIN.out, HB.out⟩
end Go.Proofs.YtddlmigofilejaaGreatDoor
namespace Go.Proofs.YtddlmigofilejaaGreatDoor
open Go.RowKit
open M
structure Cp1 (w : World) (t : Ty) (As : Option Addr) (n cs : Nat) (A5 : Option Addr) (c5 : Nat) (wr : World) : Prop where
  below : Below w.heap.size w wr
  box : wr.heap[w.heap.size]? = some (.cells #[.int .i64 t.kind, .string t.pkg, .int .i64 t.major, .string t.mod, .string t.name, .slice A5 t.names.length c5, .slice As n cs] 48 (0, 0))
  res : wr.heap[w.heap.size + 1]? = some (.cells #[.int .i64 0, .string ⟨#[]⟩, .int .i64 0, .string ⟨#[]⟩, .string ⟨#[]⟩, .slice none 0 0, .slice none 0 0] 48 (0, 0))
  own : wr.ownsRow (w.heap.size + 2) 9 1 (.slice A5 t.names.length c5) t.names.length (t.names.map Value.string)
end Go.Proofs.YtddlmigofilejaaGreatDoor
namespace Go.Proofs.YtddlmigofilejaaGreatDoor
open Go.RowKit
open Go.Sort
open M
theorem own_slice {w : World} {base : Nat} {e : TypeId} {z : Nat} {v : Value} {n : Nat} {xs : List Value} (h : w.ownsRow base e z v n xs) : ∃ A c, v = .slice A n c := by
  rcases h.2 with ⟨rfl, h0⟩ | ⟨g, cap, cur, rfl, -⟩
  · exact ⟨none, 0, by rw [h0]⟩
  · exact ⟨_, _, rfl⟩
end Go.Proofs.YtddlmigofilejaaGreatDoor
namespace Go.Proofs.YtddlmigofilejaaGreatDoor
open Go.RowKit
open Go.Sort Go.Maps
open M
theorem OwnN.mono {w : World} {lo lo' : Nat} {v : Value} {l : List Nat} (h : OwnN w lo v l) (hl : lo' <= lo) : OwnN w lo' v l := by
 refine ⟨h.1, ?_⟩
 rcases h.2 with h | ⟨g, cap, cur, hv, hB, rest⟩
 ·exact .inl h
 ·exact .inr ⟨g, cap, cur, hv, Nat.le_trans hl hB, rest⟩
theorem OwnN.keep {w w' : World} {lo : Nat} {v : Value} {l : List Nat} (h : OwnN w lo v l) (hb : ∀ b, lo <= b -> b < w.heap.size -> w'.heap[b]? = w.heap[b]?) : OwnN w' lo v l := own_from h hb
theorem natCells_len (l : List Nat) : (natCells l).length = l.length := by simp [natCells]
theorem int_info : (Tryz.prog.info? 3).map (fun i => (i.zero, i.size, i.bytes)) = some (some (.int .i64 0), 1, 8) := by kernel_rfl
theorem OwnN.read {w : World} {lo g c n : Nat} {o : Nat} {sp : Option Nat} {l : List Nat} (h : OwnN w lo (.slice (some ⟨g, o, none⟩) n c) l) : o = 0 /\ n = l.length /\ lo <= g /\ g < w.heap.size /\ ∀ j u, (natCells l)[j]? = some u -> w.cell? ⟨g, j, none⟩ = some u := by
 rcases h.2 with ⟨e, -⟩ | ⟨g', cap, cur, hv, hB, hg, hnc, hcm, hcs, htake⟩
 ·cases e
 ·cases hv
  refine ⟨rfl, rfl, hB, (Array.getElem?_eq_some_iff.1 hg).1, fun j u hj => ?_⟩;have hj' := (List.getElem?_eq_some_iff.1 hj).1
  rw [natCells_len] at hj';rw [cZ hg, <- Array.getElem?_toList];have e : (cur.toList.take (l.length * 1))[j]? = some u := by rw [htake, hj]
  rw [List.getElem?_take] at e;split at e
  ·exact e
  ·cases e
theorem said_any (m : Mo) (b0 b1 : Nat) (A : Option Addr) (n c : Nat) (N : Nat) : ∀ (t : Ty), many t <= N -> many t <= 9000 -> ∀ (v : Value) (w : World), NmS w b0 b1 m -> TyV w v t ->
  Calls Tryz.prog 215 #[.agg #[.map (some b0), .map (some b1), .slice A n c], v] w fun e w' => ∃ v' : Value, e = .returned (.tuple #[v', .bool (wholeT m t)]) /\ OwnN w' w.heap.size v' (saidT m t) /\ Below w.heap.size w w' := by
 induction N with
 | zero => intro t h; have := many_pos t; omega
 | succ N ih =>
 intro t hN hM v w hm hv
 have HV := zH hv
 obtain ⟨l, rfl, hT⟩ := hv
 obtain ⟨An, cn, As, cs, rfl, -, -, -, -, hz, -, hS⟩ := hT.parts
 obtain ⟨W2, hW2⟩ : ∃ W2, W2 = (w.alloc (.cells #[.map (some b0), .map (some b1), .slice A n c] 247)).alloc (.cells #[.int .i64 t.kind, .string t.pkg, .int .i64 t.major, .string t.mod, .string t.name, .slice An t.names.length cn, .slice As t.subs.length cs] 48) := ⟨_, rfl⟩
 have hB : Below w.heap.size w W2 := by rw [hW2]; exact below_new (below_new (Below.refl _ _) _) _
 have hs1 : (w.alloc (.cells #[.map (some b0), .map (some b1), .slice A n c] 247)).heap.size = w.heap.size + 1 := by simp
 have X1 : W2.heap[w.heap.size]? = some (.cells #[.map (some b0), .map (some b1), .slice A n c] 247 (0, 0)) := by
  rw [hW2, Lib.alloc_old _ _ _ (by rw [hs1]; omega)]; exact heap_alloc_new w _
 have X2 : W2.heap[w.heap.size + 1]? = some (.cells #[.int .i64 t.kind, .string t.pkg, .int .i64 t.major, .string t.mod, .string t.name, .slice An t.names.length cn, .slice As t.subs.length cs] 48 (0, 0)) := by
  rw [hW2, <- hs1]; exact heap_alloc_new _ _
 have hlo : w.heap.size + 1 < W2.heap.size := (Array.getElem?_eq_some_iff.1 X2).1
 have HM := zH (hm.below hB)
 have HV2 := zH (HV.out.below hB)
 have HB := zH hB
 have HW2 := zH hW2
 have HX1 := zH X1
 have HX2 := zH X2
 have HS := zH (hS.below hB)
 clear hT hS hB hW2 hs1 hm HV
 by_cases hk : t.kind = 8
 ·have LC := zH (local_said m t b0 b1 A n c _ W2 hk HM.out HV2.out)
  have q8 : (t.kind == 8) = true := by rw [hk]; rfl
  obtain ⟨x0, x1, x2⟩ := cq3 X1;obtain ⟨y0, y1, y2, y3, y4, y5, y6⟩ := cq7 X2;simp at x0 x1 x2 y0 y1 y2 y3 y4 y5 y6;clear hk X1 X2;go_enter Tryz.func215, Tryz.ntmps215
  go_upto_region 1 with fail
  rw [<- HW2.out];go_wp2_with fail
  refine LC.out.mono ?_; rintro e w3 ⟨v', rfl, ho, hb3⟩
  have FIN := zH (ho.mono (show w.heap.size <= W2.heap.size by omega));have FB := zH (below_over HB.out hb3);clear ho hb3;go_wp2_with fail
  go_ret2
  exact ⟨v', rfl, FIN.out, FB.out⟩
 ·have q8 : (t.kind == 8) = false := by simpa using hk
  have RS : Hid (saidT m t = saidL m t.subs) := zH (saidT_sub m t hk);have RW : Hid (wholeT m t = wholeL m t.subs) := zH (wholeT_sub m t hk);have HMN : Hid (∀ s ∈ t.subs, many s <= N /\ many s <= 9000) := zH (fun s hs => by have h1 := manyL_mem _ _ hs; have h2 := manyL_eq t; omega);have hml : t.subs.length <= 9000 := by have := manyL_len t.subs; have := manyL_eq t; omega
  have HLN : Hid (∀ k, (saidL m (t.subs.take k)).length <= 9000) := zH (fun k => by
   have h1 := said_len m (many t) t (Nat.le_refl _);rw [RS.out] at h1;have h2 : saidL m t.subs = saidL m (t.subs.take k) ++ saidL m (t.subs.drop k) := by rw [<- saidL_append, List.take_append_drop]
   have h3 := congrArg List.length h2;rw [List.length_append] at h3;omega)
  obtain ⟨q, hq⟩ : ∃ q, q = t.subs.length := ⟨_, rfl⟩;have HQ := zH hq;rw [RS.out, RW.out];have y0 := cZ X2 0;have y6 := cZ X2 6;simp at y0 y6;rw [<- hq] at y6 hml;obtain ⟨i0, hi, hz0, hz1, hz2⟩ := info_parts int_info;clear hk X1 X2 hN hM hz hq HX2 HV2;go_enter Tryz.func215, Tryz.ntmps215
  go_upto_region 1 with fail
  rw [<- HW2.out];go_wp2_with fail
  clear y0 y6 HW2;go_loopw [6, 7, 23] (fun s6 s7 iv wr => ∃ (k : Nat) (v6 : Value), v6 = s6 /\ k <= q /\ iv = .int .i64 k /\ Hid (OwnN wr W2.heap.size v6 (saidL m (t.subs.take k))) /\ s7 = .bool (wholeL m (t.subs.take k)) /\ Hid (Below W2.heap.size W2 wr)) (fun _ _ iv _ => q - (intOf iv).toNat)
  case atStart => exact ⟨0, _, rfl, by omega, rfl, zH (own_nilN _ _), by simp [wholeL], zH (Below.refl _ _)⟩
  case round =>
   obtain ⟨k, v6, rfl, hkq, rfl, HO, rfl, HBo⟩ := hrel;obtain ⟨wo, rfl⟩ : ∃ wo : World, wo = wr := ⟨_, rfl⟩;by_cases hlt : k < q
   ·obtain ⟨s, hs⟩ : ∃ s, t.subs[k]? = some s := ⟨_, List.getElem?_eq_getElem (by rw [<- HQ.out]; exact hlt)⟩
    obtain ⟨g, o, v0, v1, v2, v3, v4, v5, v6, rfl, hg, h0, h1, h2, h3, h4, h5, h6, hs7⟩ := HS.out.below HBo.out k s hs;obtain ⟨Am, cm, At, ct, rfl, rfl, rfl, rfl, rfl, rfl, rfl⟩ := hs7.seven;obtain ⟨w3, hw3⟩ : ∃ w3, w3 = wo.alloc (.cells #[.int .i64 s.kind, .string s.pkg, .int .i64 s.major, .string s.mod, .string s.name, .slice Am s.names.length cm, .slice At s.subs.length ct] 48) := ⟨_, rfl⟩;have B3 : Below wo.heap.size wo w3 := by rw [hw3]; exact below_new (Below.refl _ _) _
    have X3 : w3.heap[wo.heap.size]? = some (.cells #[.int .i64 s.kind, .string s.pkg, .int .i64 s.major, .string s.mod, .string s.name, .slice Am s.names.length cm, .slice At s.subs.length ct] 48 (0, 0)) := by rw [hw3]; exact heap_alloc_new wo _
    have IH := zH (ih s (HMN.out s (List.mem_of_getElem? hs)).1 (HMN.out s (List.mem_of_getElem? hs)).2 (.agg #[.int .i64 s.kind, .string s.pkg, .int .i64 s.major, .string s.mod, .string s.name, .slice Am s.names.length cm, .slice At s.subs.length ct]) w3 (HM.out.below (below_over HBo.out B3)) (TyV.below ⟨_, rfl, hs7⟩ B3));have hs3 : w3.heap.size = wo.heap.size + 1 := by rw [hw3]; simp
    have hWo := HBo.out.size;have O3 := HO.out.keep (w' := w3) (fun b _ h => B3.block b h);have N3 := (below_over HBo.out B3).block w.heap.size (by omega) |>.trans HX1.out
    have HO3 := zH O3;have HB3 := zH (below_over HBo.out B3);have HX3 := zH X3;have HN3 := zH N3;have HW3 := zH hw3;have HSS := zH hs;clear hs7 hs B3 hw3 O3;go_upto_region 8 with fail
    rw [<- HW3.out];clear h0 h1 h2 h3 h4 h5 h6;obtain ⟨x0, x1, x2⟩ := cq3 N3;obtain ⟨y0, y1, y2, y3, y4, y5, y6⟩ := cq7 X3;simp at x0 x1 x2 y0 y1 y2 y3 y4 y5 y6;clear N3 X3;go_wp2_with fail
    refine IH.out.mono ?_; rintro e w4 ⟨v', rfl, ho4, hb4⟩
    have hs4 := hb4.size;have O4 := HO3.out.keep (w' := w4) (fun b _ h => hb4.block b h);have B4 : Below W2.heap.size W2 w4 := below_over HB3.out hb4;have hlen := HLN.out (k + 1);rw [saidL_take m _ _ _ HSS.out, List.length_append] at hlen;obtain ⟨L, hL⟩ : ∃ L, L = saidL m (t.subs.take k) := ⟨_, rfl⟩;obtain ⟨P, hP⟩ : ∃ P, P = saidT m s := ⟨_, rfl⟩;obtain ⟨b, hb⟩ : ∃ b, b = wholeT m s := ⟨_, rfl⟩;obtain ⟨a, ha⟩ : ∃ a, a = wholeL m (t.subs.take k) := ⟨_, rfl⟩;rw [<- hL] at O4 hlen;rw [<- hP] at ho4 hlen;rw [<- ha, <- hb];have RL : Hid (saidL m (t.subs.take (k + 1)) = L ++ P) := zH (by rw [saidL_take m _ _ _ HSS.out, hL, hP]);have RB : Hid (wholeL m (t.subs.take (k + 1)) = (a && b)) := zH (by rw [wholeL_take m _ _ _ HSS.out, ha, hb]);clear x0 x1 x2 y0 y1 y2 y3 y4 y5 y6 IH HO3 HO hL hP ha hb hb4 HN3 HX3 HW3 HB3 HSS;go_upto_region 9 with fail
    go_cut [6] (fun s6 wx => OwnN wx W2.heap.size s6 (L ++ P) /\ Below W2.heap.size W2 wx)
    case first =>
     obtain ⟨Ap, cp, rfl⟩ := own_slice ho4;cases Ap with
     | none =>
      have hP0 : P = [] := by
       rcases ho4.2 with ⟨e, h0⟩ | ⟨g, cap, cur, e, -⟩
       ·exact List.length_eq_zero_iff.1 h0
       ·cases e
      subst hP0;have FIN : OwnN w4 W2.heap.size v6 (L ++ []) := by rw [List.append_nil]; exact O4
      go_wp2_with (at_builtin; refine wpList_append_empty rfl _ _ 193 rfl W2.heap.size 3 i0 1 Tryz.underlying193 hi v6 L.length cp (natCells L) rfl O4 rfl ?_)
      go_meet
      exact ⟨FIN, B4⟩
     | some ad =>
      have ho5 := ho4;rcases ho4.2 with ⟨e, -⟩ | ⟨g, cap, cur, e, -⟩
      ·cases e
      cases e
      obtain ⟨-, -, -, -, hrd⟩ := ho5.read (sp := none)
      have hnews : ∀ j u, (natCells P)[j]? = some u -> w4.cell? ((⟨g, 0, none⟩ : Addr).add j) = some u := fun j u hj => by
       rw [WideShapes.add_plain, Nat.zero_add]; exact hrd j u hj
      have hone : ∀ u ∈ natCells P, u.oneCell' = true := fun u hu => by
       obtain ⟨x, -, rfl⟩ := List.mem_map.1 hu;rfl
      have hlow : ∀ b, v6.ownBlock = some b -> W2.heap.size <= b := fun b e => (O4.lt b e).1
      go_wp2_with (at_builtin; go_loud (refine wpList_append_own_at _ rfl _ _ 193 rfl W2.heap.size 3 i0 _ 1 8 Tryz.underlying193 hi hz0 hz1 hz2 rfl (by decide) v6 L.length (natCells L) rfl O4 ⟨g, 0, none⟩ P.length cp (natCells P) rfl ?c0 hnews hone ?c3 ?c4 ?c5 ?_))
      case c0 => rw [natCells_len]; omega
      case c3 => unfold maxLen; omega
      case c4 => omega
      case c5 => exact B4.size
      intro v5 w5 hown hgrow _ hat
      have FIN : OwnN w5 W2.heap.size v5 (L ++ P) := by
       unfold OwnN natCells
       rw [List.map_append, List.length_append];exact hown
      have FB : Below W2.heap.size W2 w5 := B4.trans ⟨hgrow.os, hgrow.tape, hgrow.output, hgrow.size, fun b hb => hgrow.block b (by have := B4.size; omega) (fun e => by have := hlow b e.symm; omega)⟩;clear hown hgrow hat;go_wp2_with fail
      go_meet
      exact ⟨FIN, FB⟩
    case rest =>
     obtain ⟨O5, B5⟩ := hcut;have HO5 := zH O5;have HB5 := zH B5;clear O5 B5 ho4 O4 B4;cases a with
     | false =>
      go_wp2_with fail
      go_roundw
      case rel => exact ⟨k + 1, _, rfl, by omega, by go_num, zH (by rw [RL.out]; exact HO5.out), by rw [RB.out]; rfl, HB5⟩
      case measure => simp [intOf]; omega
     | true =>
      go_wp2_with fail
      go_roundw
      case rel => exact ⟨k + 1, _, rfl, by omega, by go_num, zH (by rw [RL.out]; exact HO5.out), by rw [RB.out]; cases b <;> rfl, HB5⟩
      case measure => simp [intOf]; omega
   ·obtain rfl : k = q := by omega
    have hfull : t.subs.take k = t.subs := List.take_of_length_le (by rw [<- HQ.out]; exact Nat.le_refl _);have FIN := zH (HO.out.mono (show w.heap.size <= W2.heap.size by omega));have FB := zH (HB.out.trans (HBo.out.mono HB.out.size));rw [hfull] at FIN ⊢;clear HO HBo;go_wp2_with fail
    go_ret2
    exact ⟨_, rfl, FIN.out, FB.out⟩
def NatsAt (w : World) (A : Option Addr) (l : List Nat) : Prop :=
  ∀ (i x : Nat), l[i]? = some x -> ∃ g o : Nat, A = some ⟨g, o, none⟩ /\ g < w.heap.size /\ w.cell? ⟨g, o + i, none⟩ = some (.int .i64 x)
theorem NatsAt.move {S S' : Nat -> Prop} {w w' : World} {A : Option Addr} {l : List Nat} (h : NatsAt (strike S w) A l) (hz : w.heap.size <= w'.heap.size) (hb : ∀ b, b < w.heap.size -> ¬ S b -> ¬ S' b /\ w'.heap[b]? = w.heap[b]?) : NatsAt (strike S' w') A l := fun i x hx => by
  obtain ⟨g, o, hA, hg, hc⟩ := h i x hx;obtain ⟨h1, h2⟩ := strike_cell.1 hc;obtain ⟨h3, h4⟩ := hb g (World.block_lt_of_cell? _ _ h2) h1;exact ⟨g, o, hA, by rw [strike_size] at hg ⊢; omega, strike_cell.2 ⟨h3, by rw [World.cell?_of_block (w := w) (a := ⟨g, _, none⟩) h4]; exact h2⟩⟩
theorem NatsAt.free {S : Nat -> Prop} {w : World} {A : Option Addr} {l : List Nat} (h : NatsAt (strike S w) A l) : NatsAt w A l := fun i x hx => by
  obtain ⟨g, o, hA, hg, hc⟩ := h i x hx;exact ⟨g, o, hA, by rwa [strike_size] at hg, (strike_cell.1 hc).2⟩
theorem NatsAt.below {w w' : World} {A : Option Addr} {l : List Nat} (h : NatsAt w A l) (hb : Below w.heap.size w w') : NatsAt w' A l := fun i x hx => by
  obtain ⟨g, o, hA, hg, hc⟩ := h i x hx;exact ⟨g, o, hA, Nat.lt_of_lt_of_le hg hb.size, (hb.cell (p := ⟨g, _, none⟩) hg).trans hc⟩
def enE (w : World) (l : List Value) (x : En) : Prop := ∃ (As : Option Addr) (cs : Nat), l = [.int .i64 x.at_, .int .i64 x.kind, .slice As x.said.length cs, .bool x.whole] /\ NatsAt w As x.said /\ x.said.length <= 1000000
def enR : Reads En := ⟨4, 253, enE, fun _ _ _ _ _ _ ⟨A, c, e, h, z⟩ hz hb => ⟨A, c, e, h.move hz hb, z⟩, fun _ _ _ _ ⟨A, c, e, h, z⟩ hb => ⟨A, c, e, h.below hb, z⟩, fun _ _ _ _ ⟨A, c, e, h, z⟩ => ⟨A, c, e, h.free, z⟩, fun _ l x ⟨A, c, e, _⟩ => by rw [e]; rfl⟩
def FoundAt (w : World) (fb n : Nat) (F : Nat -> Bool) : Prop := w.heap[fb]? = some (.cells ((List.range n).map fun i => Value.bool (F i)).toArray 4 (0, 0))
def unf (n : Nat) (F : Nat -> Bool) : Nat := ((List.range n).filter fun i => !F i).length
theorem grown_of {w w' : World} {r : Option Nat} (h : Below w.heap.size w w') : w.grownBy w' r := ⟨h.os, h.tape, h.output, h.size, fun b hb _ => h.block b hb⟩
theorem grown_over {a b c : World} {r : Nat} (h : a.grownBy b (some r)) (h' : b.grownBy c (some r)) : a.grownBy c (some r) := h.trans h'
theorem bool_info : (Tryz.prog.info? 4).map (fun i => (i.zero, i.size, i.bytes)) = some (some (.bool false), 1, 1) := by kernel_rfl
theorem two_boxes (w : World) (c1 c2 : Array Value) (t1 t2 : TypeId) : ∃ W2, W2 = (w.alloc (.cells c1 t1)).alloc (.cells c2 t2) /\ Below w.heap.size w W2 /\ W2.heap[w.heap.size]? = some (.cells c1 t1 (0, 0)) /\ W2.heap[w.heap.size + 1]? = some (.cells c2 t2 (0, 0)) /\ w.heap.size + 1 < W2.heap.size := by
  have hs1 : (w.alloc (.cells c1 t1)).heap.size = w.heap.size + 1 := by simp
  refine ⟨_, rfl, below_new (below_new (Below.refl _ _) _) _, ?_, ?_, by simp⟩
  · rw [Lib.alloc_old _ _ _ (by rw [hs1]; omega)]; exact heap_alloc_new w _
  · rw [<- hs1]; exact heap_alloc_new _ _
end Go.Proofs.YtddlmigofilejaaGreatDoor
namespace Go.Proofs.YtddlmigofilejaaGreatDoor
open Go.RowKit
open Go.Sort
open M
theorem csmall_b (s : ByteArray) (w : World) (hs : s.size <= 9223372036854775807) : Calls Tryz.prog 98 #[.string s] w fun e w' => e = .returned (.bool (smallB s.data.toList)) /\ Below w.heap.size w w' :=
  (small_any s w hs).mono fun e w' ⟨h, hw⟩ => ⟨h, by rw [<- hw]; exact Below.refl _ _⟩
theorem cgreat_b (s : ByteArray) (w : World) (hs : s.size <= 9223372036854775807) : Calls Tryz.prog 122 #[.string s] w fun e w' => e = .returned (.bool (greatB s.data.toList)) /\ Below w.heap.size w w' :=
  (great_any s w hs).mono fun e w' ⟨h, hw⟩ => ⟨h, by rw [<- hw]; exact Below.refl _ _⟩
theorem cmayNotI_any (x : Im) (w : World) (z0 : x.pkg.size <= 9223372036854775807) (z1 : x.mod.size <= 9223372036854775807) (z2 : x.asn.size <= 9223372036854775807) :
    Calls Tryz.prog 95 #[.agg #[.string x.pkg, .int .i64 x.major, .string x.mod, .string x.asn]] w fun e w' => e = .returned (.bool (!mayI x)) /\ Below w.heap.size w w' := by
  obtain ⟨w0, hw0⟩ : ∃ w0, w0 = w.alloc (.cells #[.string x.pkg, .int .i64 x.major, .string x.mod, .string x.asn] 57) := ⟨_, rfl⟩;have B0 : Below w.heap.size w w0 := by rw [hw0]; exact below_new (Below.refl _ _) _
  have O0 : w0.heap[w.heap.size]? = some (.cells #[.string x.pkg, .int .i64 x.major, .string x.mod, .string x.asn] 57 (0, 0)) := by rw [hw0]; exact heap_alloc_new w _
  have hl0 : w.heap.size < w0.heap.size := by rw [hw0]; simp
  obtain ⟨V, hV⟩ : ∃ V, (!mayI x) = V := ⟨_, rfl⟩;rw [hV];have HV : Hid ((!(smallB x.pkg.data.toList && (smallB x.mod.data.toList && (smallB x.asn.data.toList && (decide (1 <= x.major) && decide (x.major <= 999999999)))))) = V) := zH hV;have S0 := zH (fun w => csmall_b x.pkg w z0);have S1 := zH (fun w => csmall_b x.mod w z1);have S2 := zH (fun w => csmall_b x.asn w z2);generalize smallB x.pkg.data.toList = b0 at S0 HV
  generalize smallB x.mod.data.toList = b1 at S1 HV
  generalize smallB x.asn.data.toList = b2 at S2 HV
  have x0 := cZ O0 0;simp at x0;have HO := zH O0;have HB := zH B0;have HW0 := zH hw0;clear hw0 B0 O0 hV z0 z1 z2;go_enter Tryz.func95, Tryz.ntmps95
  go_upto_region 1 with fail
  rw [<- HW0.out];clear HW0;go_wp2_with fail
  refine (S0.out _).mono ?_; rintro e w1 ⟨rfl, hb1⟩
  have O1 := (hb1.block _ hl0).trans HO.out;have x1 := cZ O1 1;have x2 := cZ O1 2;simp at x1 x2;have HB1 := zH (below_over HB.out hb1);have hl1 := Nat.lt_of_lt_of_le hl0 hb1.size;clear x0 hb1 HO HB S0;cases b0 with
  | false =>
    go_wp2_with fail
    go_ret;exact ⟨by rw [<- HV.out]; rfl, HB1.out⟩
  | true =>
  by_cases hm : x.major < 1
  · have e1 : decide (1 <= x.major) = false := by simp; omega
    go_wp2_with fail
    go_ret;exact ⟨by rw [<- HV.out, e1]; simp, HB1.out⟩
  by_cases hm2 : 999999999 < x.major
  · have e1 : decide (x.major <= 999999999) = false := by simp; omega
    go_wp2_with fail
    go_ret;exact ⟨by rw [<- HV.out, e1]; simp, HB1.out⟩
  have HV1 : Hid ((!(b1 && b2)) = V) := zH (by
    rw [<- HV.out, decide_eq_true (show 1 <= x.major by omega), decide_eq_true (show x.major <= 999999999 by omega)]; simp)
  clear HV;go_wp2_with fail
  refine (S1.out _).mono ?_; rintro e w2 ⟨rfl, hb2⟩
  have O2 := (hb2.block _ hl1).trans O1;have x3 := cZ O2 3;simp at x3;have HB2 := zH (below_over HB1.out hb2);clear x1 x2 hb2 O1 O2 S1 HB1;cases b1 with
  | false =>
    go_wp2_with fail
    go_ret;exact ⟨by rw [<- HV1.out]; rfl, HB2.out⟩
  | true =>
    go_wp2_with fail
    refine (S2.out _).mono ?_; rintro e w3 ⟨rfl, hb3⟩
    have HB3 := zH (below_over HB2.out hb3);clear hb3 x3 S2 HB2;go_wp2_with fail
    go_ret;exact ⟨by rw [<- HV1.out]; cases b2 <;> simp <;> omega, HB3.out⟩
theorem indexI_any (A : Option Addr) (c n : Nat) (xs : List Im) (w : World) (hn : xs.length = n) (hz : n <= 9223372036854775807) (hS : RowIn imR w A xs) :
    Calls Tryz.prog 100 #[.slice A n c, .func (.func 95) #[] #[]] w fun e w' => ∃ r : Int, e = .returned (.int .i64 r) /\ decide (0 <= r) = !xs.all mayI /\ Below w.heap.size w w' := by
  have HS := zH hS;have HN := zH hn;clear hS hn;go_enter Tryz.func100, Tryz.ntmps100
  go_wp2_with fail
  go_loopw [8] (fun i wr => ∃ k : Nat, k <= n /\ i = .int .i64 k /\ Hid ((xs.take k).all mayI = true) /\ Below w.heap.size w wr) (fun i _ => n - (intOf i).toNat)
  case atStart => exact ⟨0, by omega, rfl, zH (by simp), Below.refl _ _⟩
  case round =>
    obtain ⟨k, hk, rfl, HP, hb⟩ := hrel;obtain ⟨wo, rfl⟩ : ∃ wo : World, wo = wr := ⟨_, rfl⟩;by_cases hlt : k < n
    · obtain ⟨x, hx⟩ : ∃ x, xs[k]? = some x := ⟨_, List.getElem?_eq_getElem (by rw [HN.out]; exact hlt)⟩
      obtain ⟨g, o, rfl, -, a0, a1, a2, a3, y1, y2, y3⟩ := (HS.out.below hb).im hx;have IM := zH (cmayNotI_any x wo y1 y2 y3);have HX := zH hx;clear hx y1 y2 y3;obtain ⟨q, hq⟩ : ∃ q, mayI x = q := ⟨_, rfl⟩;rw [hq] at IM;have HQ := zH hq;clear hq;cases q with
      | false =>
        have R : Hid (decide (0 <= (k : Int)) = !xs.all mayI) := zH (by
          have : xs.all mayI = false := by rw [List.all_eq_false]; exact ⟨x, List.mem_of_getElem? HX.out, by rw [HQ.out]; decide⟩
          rw [this]; simp)
        go_wp2_with fail
        refine IM.out.mono ?_; rintro e w2 ⟨rfl, hb2⟩
        have hb3 := below_over hb hb2;clear a0 a1 a2 a3 hb hb2;go_wp2_with fail
        go_ret;exact ⟨_, rfl, R.out, hb3⟩
      | true =>
        go_wp2_with fail
        refine IM.out.mono ?_; rintro e w2 ⟨rfl, hb2⟩
        have hb3 := below_over hb hb2;clear a0 a1 a2 a3 hb hb2;go_wp2_with fail
        go_roundw
        case rel => exact ⟨k + 1, by omega, by go_num, zH (by rw [all_snoc _ _ _ _ HX.out, HP.out, HQ.out]; rfl), hb3⟩
        case measure => simp [intOf]; omega
    · have R : Hid (decide (0 <= (-1 : Int)) = !xs.all mayI) := zH (by
        have h := HP.out;rw [List.take_of_length_le (by rw [HN.out]; omega)] at h;rw [h]; rfl)
      go_wp2_with fail
      go_ret;exact ⟨_, rfl, R.out, hb⟩
theorem containsI_any (A : Option Addr) (c n : Nat) (xs : List Im) (w : World) (hn : xs.length = n) (hz : n <= 9223372036854775807) (hS : RowIn imR w A xs) :
    Calls Tryz.prog 61 #[.slice A n c, .func (.func 95) #[] #[]] w fun e w' => e = .returned (.bool (!xs.all mayI)) /\ Below w.heap.size w w' := by
  have HC := zH (indexI_any A c n xs w hn hz hS);clear hn hS;go_enter Tryz.func61, Tryz.ntmps61
  go_wp2_with fail
  refine HC.out.mono ?_; rintro e w2 ⟨r, rfl, hr, hb2⟩
  have HR := zH hr;clear hr HC;go_wp2_with fail
  go_ret;exact ⟨ret_bool HR.out.symm, hb2⟩
theorem cmayI_any (A : Option Addr) (c n : Nat) (xs : List Im) (w : World) (hn : xs.length = n) (hz : n <= 9223372036854775807) (hS : RowIn imR w A xs) :
    Calls Tryz.prog 57 #[.slice A n c] w fun e w' => e = .returned (.bool (decide (n <= 20) && xs.all mayI)) /\ Below w.heap.size w w' := by
  have HC := zH (containsI_any A c n xs w hn hz hS);clear hn hS;generalize xs.all mayI = q at HC
  by_cases h : n <= 20
  · have e1 : (n : Int) <= 20 := by omega
    have e2 : decide (n <= 20) = true := by simp [h]
    rw [e2];clear e2 h;go_enter Tryz.func57, Tryz.ntmps57
    go_wp2_with fail
    refine HC.out.mono ?_; rintro e w2 ⟨rfl, hb2⟩
    cases q
    all_goals (go_wp2_with fail; go_ret; exact ⟨rfl, hb2⟩)
  · have e1 : ¬ (n : Int) <= 20 := by omega
    have e2 : decide (n <= 20) = false := by simp; omega
    rw [e2];clear e2 h HC;go_enter Tryz.func57, Tryz.ntmps57
    go_wp2_with fail
    go_ret;exact ⟨rfl, Below.refl _ _⟩
end Go.Proofs.YtddlmigofilejaaGreatDoor
namespace Go.Proofs.YtddlmigofilejaaGreatDoor
open Go.RowKit
open Go.Sort Go.Maps
open M
def dupB {α : Type} (key : α -> ByteArray) (l : List α) (i : Nat) : Bool := match l[i]? with | some x => (l.take i).any fun y => decide (key y = key x) | none => false
theorem any_snoc {α : Type} (p : α -> Bool) (l : List α) (j : Nat) (x : α) (h : l[j]? = some x) : (l.take (j + 1)).any p = ((l.take j).any p || p x) := by
  rw [List.take_add_one, h, List.any_append]; simp
end Go.Proofs.YtddlmigofilejaaGreatDoor
namespace Go.Proofs.YtddlmigofilejaaGreatDoor
open Go Go.RowKit Go.Shelf
open Go.Sort
open M
theorem unnZ (An : Option Addr) (cn : Nat) (As : Option Addr) (cs : Nat) (w : World) : Calls Tryz.prog 234 #[.agg #[.int .i64 1, .string ⟨#[]⟩, .int .i64 0, .string ⟨#[]⟩, .string ⟨#[]⟩, .slice An 0 cn, .slice As 0 cs]] w fun e w' => e = .returned (.bool true) /\ Below w.heap.size w w' := by
  obtain ⟨wb, hwb⟩ : ∃ wb, wb = w.alloc (.cells #[.int .i64 1, .string ⟨#[]⟩, .int .i64 0, .string ⟨#[]⟩, .string ⟨#[]⟩, .slice An 0 cn, .slice As 0 cs] 48) := ⟨_, rfl⟩;have B0 : Below w.heap.size w wb := by rw [hwb]; exact below_new (Below.refl _ _) _
  have X0 : wb.heap[w.heap.size]? = some (.cells #[.int .i64 1, .string ⟨#[]⟩, .int .i64 0, .string ⟨#[]⟩, .string ⟨#[]⟩, .slice An 0 cn, .slice As 0 cs] 48 (0, 0)) := by rw [hwb]; exact heap_alloc_new w _
  obtain ⟨x0, x1, x2, x3, x4, x5, x6⟩ := cq7 X0;simp at x0 x1 x2 x3 x4 x5 x6;have HB0 := zH B0;have HX0 := zH X0;have HWB := zH hwb;clear B0 X0 hwb;go_enter Tryz.func234, Tryz.ntmps234
  go_upto_region 1 with fail
  rw [<- HWB.out];go_wp2_with fail
  go_ret;exact ⟨rfl, HB0.out⟩
theorem formZ (An : Option Addr) (cn : Nat) (As : Option Addr) (cs : Nat) (w : World) : Calls Tryz.prog 205 #[.agg #[.int .i64 1, .string ⟨#[]⟩, .int .i64 0, .string ⟨#[]⟩, .string ⟨#[]⟩, .slice An 0 cn, .slice As 0 cs]] w fun e w' => e = .returned (.bool true) /\ Below w.heap.size w w' := by
  obtain ⟨wb, hwb⟩ : ∃ wb, wb = w.alloc (.cells #[.int .i64 1, .string ⟨#[]⟩, .int .i64 0, .string ⟨#[]⟩, .string ⟨#[]⟩, .slice An 0 cn, .slice As 0 cs] 48) := ⟨_, rfl⟩;have B0 : Below w.heap.size w wb := by rw [hwb]; exact below_new (Below.refl _ _) _
  have X0 : wb.heap[w.heap.size]? = some (.cells #[.int .i64 1, .string ⟨#[]⟩, .int .i64 0, .string ⟨#[]⟩, .string ⟨#[]⟩, .slice An 0 cn, .slice As 0 cs] 48 (0, 0)) := by rw [hwb]; exact heap_alloc_new w _
  obtain ⟨x0, x1, x2, x3, x4, x5, x6⟩ := cq7 X0;simp at x0 x1 x2 x3 x4 x5 x6;have HB0 := zH B0;have HX0 := zH X0;have HWB := zH hwb;clear B0 X0 hwb;go_enter Tryz.func205, Tryz.ntmps205
  go_upto_region 1 with fail
  rw [<- HWB.out];go_quiet (fail)
  generalize hwq : World.drewN wb _ = wq
  have HBq : Hid (Below w.heap.size w wq) := zH (by rw [<- hwq]; exact below_drewN HB0.out _);have X1 : wq.heap[w.heap.size]? = some (.cells #[.int .i64 1, .string ⟨#[]⟩, .int .i64 0, .string ⟨#[]⟩, .string ⟨#[]⟩, .slice An 0 cn, .slice As 0 cs] 48 (0, 0)) := by rw [<- hwq]; exact HX0.out
  replace x0 := cZ X1 0
  replace x1 := cZ X1 1
  replace x2 := cZ X1 2
  replace x3 := cZ X1 3
  replace x4 := cZ X1 4
  replace x5 := cZ X1 5
  replace x6 := cZ X1 6
  simp at x0 x1 x2 x3 x4 x5 x6;clear X1 hwq;go_wp2_with fail
  refine (unnZ An cn As cs wq).mono ?_; rintro e w2 ⟨rfl, hb2⟩
  have HB2 := zH (below_over HBq.out hb2);clear hb2;go_wp2_with fail
  go_ret;exact ⟨rfl, HB2.out⟩
theorem countZ (An : Option Addr) (cn : Nat) (As : Option Addr) (cs : Nat) (B : Nat) (w : World) (hC : Cnt B 0 w) : Calls Tryz.prog 178 #[.agg #[.int .i64 1, .string ⟨#[]⟩, .int .i64 0, .string ⟨#[]⟩, .string ⟨#[]⟩, .slice An 0 cn, .slice As 0 cs], .int .i64 1, .pointer (some ⟨B, 0, none⟩)] w fun e w' => e = .returned (.bool true) /\ Cnt B 1 w' /\ Below B w w' := by
  have hBl := hC.lt;obtain ⟨w2, hw2⟩ : ∃ w2, w2 = (w.setCell ⟨B, 0, none⟩ (.int .i64 1)).alloc (.cells #[.int .i64 1, .string ⟨#[]⟩, .int .i64 0, .string ⟨#[]⟩, .string ⟨#[]⟩, .slice An 0 cn, .slice As 0 cs] 48) := ⟨_, rfl⟩;have hss : (w.setCell ⟨B, 0, none⟩ (.int .i64 1)).heap.size = w.heap.size := by simp
  have HC2 : Hid (Cnt B 1 w2) := zH (by rw [hw2]; exact (hC.put 1).alloc _);have HBW : Hid (Below B w w2) := zH (by rw [hw2]; exact ((Below.refl B w).setCell (p := ⟨B, 0, none⟩) (Nat.le_refl _) _).alloc (by omega) _);have hsz : w.heap.size < w2.heap.size := by rw [hw2]; simp
  have X0 : w2.heap[w.heap.size]? = some (.cells #[.int .i64 1, .string ⟨#[]⟩, .int .i64 0, .string ⟨#[]⟩, .string ⟨#[]⟩, .slice An 0 cn, .slice As 0 cs] 48 (0, 0)) := by rw [hw2, <- hss]; exact heap_alloc_new _ _
  have HX0 := zH X0;have c0 := hC.cell;have f0 := hC.frozen;have HW2 := zH hw2;clear hC hw2 hss X0;go_enter Tryz.func178, Tryz.ntmps178
  go_upto_region 2 with fail
  rw [<- HW2.out];clear c0 f0 HW2;have c2 := HC2.out.cell;obtain ⟨x0, x1, x2, x3, x4, x5, x6⟩ := cq7 HX0.out;simp at x0 x1 x2 x3 x4 x5 x6;go_wp2_with fail
  refine (formZ An cn As cs w2).mono ?_; rintro e w3 ⟨rfl, hb3⟩
  have y6 := cZ ((hb3.block _ hsz).trans HX0.out) 6;simp at y6;have HC3 := zH (HC2.out.below hb3);have HB3 := zH (HBW.out.trans (hb3.mono (by omega)));clear x0 x1 x2 x3 x4 x5 x6 c2 hb3 hsz;go_wp2_with fail
  go_loopw [30] (fun s30 wr => s30 = .int .i64 0 /\ w3 = wr) (fun _ _ => 0)
  case atStart => exact ⟨rfl, rfl⟩
  case round =>
    obtain ⟨rfl, rfl⟩ := hrel;go_wp2_with fail
    go_ret;exact ⟨rfl, HC3.out, HB3.out⟩
theorem sizeZ (An : Option Addr) (cn : Nat) (As : Option Addr) (cs : Nat) (w : World) : Calls Tryz.prog 145 #[.agg #[.int .i64 1, .string ⟨#[]⟩, .int .i64 0, .string ⟨#[]⟩, .string ⟨#[]⟩, .slice An 0 cn, .slice As 0 cs]] w fun e w' => e = .returned (.int .i64 1) /\ Below w.heap.size w w' := by
  obtain ⟨w2, hw2, B2, O0, O1, hl2⟩ := two_boxes w #[.int .i64 1, .string ⟨#[]⟩, .int .i64 0, .string ⟨#[]⟩, .string ⟨#[]⟩, .slice An 0 cn, .slice As 0 cs] #[.int .i64 0] 48 3;have CZ := zH (countZ An cn As cs (w.heap.size + 1) w2 O1);obtain ⟨x0, x1, x2, x3, x4, x5, x6⟩ := cq7 O0;simp at x0 x1 x2 x3 x4 x5 x6;have HB2 := zH B2;have HW2 := zH hw2;clear B2 O0 O1 hw2;go_enter Tryz.func145, Tryz.ntmps145
  go_upto_region 2 with fail
  rw [<- HW2.out];go_wp2_with fail
  refine CZ.out.mono ?_; rintro e w3 ⟨rfl, hC3, hb3⟩
  have c3 := hC3.cell;have HB3 := zH (HB2.out.trans (hb3.mono (by omega)));clear hb3 x0 x1 x2 x3 x4 x5 x6 CZ;go_wp2_with fail
  go_ret;exact ⟨rfl, HB3.out⟩
theorem mayZ (An : Option Addr) (cn : Nat) (As : Option Addr) (cs : Nat) (w : World) : Calls Tryz.prog 99 #[.agg #[.int .i64 1, .string ⟨#[]⟩, .int .i64 0, .string ⟨#[]⟩, .string ⟨#[]⟩, .slice An 0 cn, .slice As 0 cs]] w fun e w' => e = .returned (.bool true) /\ Below w.heap.size w w' := by
  obtain ⟨wb, hwb⟩ : ∃ wb, wb = w.alloc (.cells #[.int .i64 1, .string ⟨#[]⟩, .int .i64 0, .string ⟨#[]⟩, .string ⟨#[]⟩, .slice An 0 cn, .slice As 0 cs] 48) := ⟨_, rfl⟩;have B0 : Below w.heap.size w wb := by rw [hwb]; exact below_new (Below.refl _ _) _
  have X0 : wb.heap[w.heap.size]? = some (.cells #[.int .i64 1, .string ⟨#[]⟩, .int .i64 0, .string ⟨#[]⟩, .string ⟨#[]⟩, .slice An 0 cn, .slice As 0 cs] 48 (0, 0)) := by rw [hwb]; exact heap_alloc_new w _
  obtain ⟨x0, x1, x2, x3, x4, x5, x6⟩ := cq7 X0;simp at x0 x1 x2 x3 x4 x5 x6;have HB0 := zH B0;have HX0 := zH X0;have HWB := zH hwb;clear B0 X0 hwb;go_enter Tryz.func99, Tryz.ntmps99
  go_upto_region 1 with fail
  rw [<- HWB.out];go_wp2_with fail
  refine (sizeZ An cn As cs wb).mono ?_; rintro e w2 ⟨rfl, hb2⟩
  have HB2 := zH (below_over HB0.out hb2);clear hb2;go_wp2_with fail
  go_ret;exact ⟨rfl, HB2.out⟩
end Go.Proofs.YtddlmigofilejaaGreatDoor
