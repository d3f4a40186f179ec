/-
  Several texts in one.
-/
import Derived.Test.YtddlmigofilejaaGreatK07
set_option maxRecDepth 100000
set_option maxHeartbeats 8000000
namespace Go.Proofs.YtddlmigofilejaaGreat
open Go.RowKit Go.Shelf
open Go.Sort Go.Maps
open M
attribute [local go_sem] Oper.semAt_some
theorem start7 (w : World) (c : Array Value) : ∃ (W5 : World) (b0 b1 nb : Nat), b0 = w.heap.size + 1 + 1 /\ b1 = w.heap.size + 1 + 1 + 1 /\ nb = w.heap.size + 1 + 1 + 1 + 1 /\
  W5 = ((((w.alloc (.cells c 126)).alloc (.cells #[.map none, .map none, .slice none 0 0] 212)).alloc (.map #[] 0)).alloc (.map #[] 0)).alloc (.cells #[.map (some b0), .map (some b1), .slice none 0 0] 212) /\
  Below w.heap.size w W5 /\ W5.heap[w.heap.size]? = some (.cells c 126 (0, 0)) /\ W5.heap[w.heap.size + 1]? = some (.cells #[.map none, .map none, .slice none 0 0] 212 (0, 0)) /\
  W5.heap[nb]? = some (.cells #[.map (some b0), .map (some b1), .slice none 0 0] 212 (0, 0)) /\ (∀ f, MapS W5 b0 0 (fun _ => false) f) /\ (∀ f, MapS W5 b1 0 (fun _ => false) f) /\ nb < W5.heap.size := by
 obtain ⟨w1, h1⟩ : ∃ w1, w1 = w.alloc (.cells c 126) := ⟨_, rfl⟩
 obtain ⟨w2, h2⟩ : ∃ w2, w2 = w1.alloc (.cells #[.map none, .map none, .slice none 0 0] 212) := ⟨_, rfl⟩
 obtain ⟨w3, h3⟩ : ∃ w3, w3 = w2.alloc (.map #[] 0) := ⟨_, rfl⟩
 obtain ⟨w4, h4⟩ : ∃ w4, w4 = w3.alloc (.map #[] 0) := ⟨_, rfl⟩
 have s1 : w1.heap.size = w.heap.size + 1 := by rw [h1]; simp
 have s2 : w2.heap.size = w.heap.size + 1 + 1 := by rw [h2]; simp [s1]
 have s3 : w3.heap.size = w.heap.size + 1 + 1 + 1 := by rw [h3]; simp [s2]
 have s4 : w4.heap.size = w.heap.size + 1 + 1 + 1 + 1 := by rw [h4]; simp [s3]
 refine ⟨w4.alloc (.cells #[.map (some (w.heap.size + 1 + 1)), .map (some (w.heap.size + 1 + 1 + 1)), .slice none 0 0] 212), _, _, _, rfl, rfl, rfl, by rw [h4, h3, h2, h1], ?_, ?_, ?_, ?_, ?_, ?_, by simp [s4]⟩
 ·have b1 : Below w.heap.size w w1 := by rw [h1]; exact below_new (Below.refl _ _) _
  have b2 : Below w.heap.size w w2 := by rw [h2]; exact below_new b1 _
  have b3 : Below w.heap.size w w3 := by rw [h3]; exact below_new b2 _
  have b4 : Below w.heap.size w w4 := by rw [h4]; exact below_new b3 _
  exact below_new b4 _
 ·rw [Lib.alloc_old _ _ _ (by omega), h4, Lib.alloc_old _ _ _ (by omega), h3, Lib.alloc_old _ _ _ (by omega), h2, Lib.alloc_old _ _ _ (by omega), h1]; exact heap_alloc_new w _
 ·rw [Lib.alloc_old _ _ _ (by omega), h4, Lib.alloc_old _ _ _ (by omega), h3, Lib.alloc_old _ _ _ (by omega), h2, <- s1]; exact heap_alloc_new w1 _
 ·rw [<- s4]; exact heap_alloc_new w4 _
 ·intro f
  have h := MapS.made w2 f;rw [<- h3, s2] at h;exact h.kept (by rw [Lib.alloc_old _ _ _ (by omega), h4, Lib.alloc_old _ _ _ (by omega)])
 ·intro f
  have h := MapS.made w3 f;rw [<- h4, s3] at h;exact h.kept (by rw [Lib.alloc_old _ _ _ (by omega)])
def isT (m : Mo) (s : ByteArray) {nd : Nat} (x : Fin nd) : Bool := match m.decs[x.1]? with | some d => isTyp s d | none => false
def TyS (m : Mo) (b1 : Nat) {nd : Nat} (pre : List (Fin nd)) (W : World) : Prop :=
 MapS W b1 pre.length (fun s => pre.any (isT m s)) (fun s c => ∃ y, pre.reverse.find? (isT m s) = some y /\ c = (y.1 : Int))
theorem MapS.mono {w : World} {b n n' : Nat} {p : ByteArray -> Bool} {f : ByteArray -> Int -> Prop} (h : MapS w b n p f) (hn : n <= n') : MapS w b n' p f := by
 obtain ⟨D, h1, h2, h3⟩ := h
 exact ⟨D, h1.mono hn, h2, h3⟩
theorem TyS.val {m : Mo} {b1 nd : Nat} {pre : List (Fin nd)} {x : Fin nd} {W : World} (h : TyS m b1 pre W) (hx : ∀ s, isT m s x = false) : TyS m b1 (pre ++ [x]) W := by
 refine (MapS.mono h (by simp)).of (fun s => by rw [List.any_append]; simp [hx s]) (fun s c _ hc => ?_)
 obtain ⟨y, h1, h2⟩ := hc
 exact ⟨y, by rw [List.reverse_append]; simp [hx s, h1], h2⟩
theorem TyS.typ {m : Mo} {b1 nd : Nat} {pre : List (Fin nd)} {x : Fin nd} {W' : World} {key : ByteArray} (hx : ∀ s, isT m s x = decide (key = s))
  (h : MapS W' b1 (pre.length + 1) (fun s => decide (key = s) || pre.any (isT m s)) (fun s c => if key = s then c = (x.1 : Int) else ∃ y, pre.reverse.find? (isT m s) = some y /\ c = (y.1 : Int))) : TyS m b1 (pre ++ [x]) W' := by
 have h' := h.mono (n' := (pre ++ [x]).length) (by simp)
 refine h'.of (fun s => by rw [List.any_append]; simp [hx s, Bool.or_comm]) (fun s c _ hc => ?_)
 by_cases e : key = s
 ·rw [if_pos e] at hc
  exact ⟨x, by rw [List.reverse_append]; simp [hx s, e], hc⟩
 ·rw [if_neg e] at hc
  obtain ⟨y, h1, h2⟩ := hc;exact ⟨y, by rw [List.reverse_append]; simp [hx s, e, h1], h2⟩
theorem KpB.put {n₀ Bs : Nat} {W : World} {l : Nat} {o : Obj} (h : n₀ <= l) (h' : Bs ≠ l) : KpB n₀ Bs W (W.putObj l o) := ⟨by simp, fun b hb => World.putObj_heap_other (fun e => by rcases hb with hb | hb <;> omega)⟩
theorem ret_mark1 {P : Program} {fn : Func} {R : Ending -> World -> Prop} {a : Act} {w : World} {p : Tmp} {ty : TypeId} {ds : Array Field} {vs : List Value} {b D n : Nat}
  (h : fn.results = #[.cell p ty]) (hp : a.tmps.getD p undef = .pointer (some ⟨b, 0, none⟩))
  (hty : P.underlying ty = some (.struct ds)) (hi : (P.info? ty).map (·.size) = some vs.length) (hd : a.defers = [{ target := .collected D, args := #[] }]) (hk : w.heap[D]? = some (.deferred (some [])))
  (hc : ∀ i v, vs[i]? = some v -> (w.putObj D (.deferred none)).cell? ⟨b, i, none⟩ = some v) (hR : R (.returned (.agg vs.toArray)) (w.putObj D (.deferred none))) : bodyPostM Fence.wide n P fn R .ret a w := by
 show LeavesInM Fence.wide n P fn a.tmps R a.defers .returning w
 rw [hd]
 refine ⟨by simp, .inl ⟨D, _, rfl, run_takeDeferred hk, ?_⟩⟩
 refine ⟨.agg vs.toArray, ?_, hR⟩
 rw [results_one h, hp]
 simp [asAddr, Result.andThen, run_loadVar_struct _ b ty vs ds hty hi hc]
theorem ent_info : (Tryz.prog.info? 219).map (fun i => (i.zero, i.size, i.bytes)) = some (some (.agg #[.int .i64 0, .int .i64 0, .slice none 0 0, .bool false]), 4, 48) := by kernel_rfl
theorem nats_own {w : World} {lo n c B : Nat} {A : Option Addr} {l : List Nat} (h : OwnN w lo (.slice A n c) l) (hn : n = l.length) (hB : B <= lo) : NatsAt (strike (· < B) w) A l := by
 intro i x hx
 have hi := (List.getElem?_eq_some_iff.1 hx).1
 cases A with
 | none =>
  rcases h.2 with ⟨e, h0⟩ | ⟨g, cap, cur, e, -⟩
  ·omega
  ·cases e
 | some ad =>
  have h' := h
  rcases h.2 with ⟨e, -⟩ | ⟨g, cap, cur, e, -⟩
  ·cases e
  cases e
  obtain ⟨-, -, h3, h4, h5⟩ := h'.read (sp := none);refine ⟨g, 0, rfl, by rw [strike_size]; exact h4, strike_cell.2 ⟨by omega, ?_⟩⟩;rw [Nat.zero_add];exact h5 i _ (by unfold natCells; rw [List.getElem?_map, hx]; rfl)
theorem ys_find {m : Mo} {nd : Nat} {ys : List (Fin nd)} (hy : ys.map (·.1) = downTo nd nd) (hn : nd = m.decs.length) (s : ByteArray) : (ys.reverse.find? (isT m s)).map (·.1) = typAt m s := by
 have hr : ys.reverse.map (·.1) = List.range nd := by
  rw [List.map_reverse, hy];apply List.ext_getElem
  ·simp [downTo]
  ·intro i h1 h2
   simp [downTo] at h1 h2 ⊢;omega
 let q : Nat -> Bool := fun i => match m.decs[i]? with | some d => isTyp s d | none => false
 have e1 : (ys.reverse.find? (isT m s)).map (·.1) = (List.range nd).find? q := by
  rw [<- hr, List.find?_map]; rfl
 rw [e1]
 have hq : ∀ i (h : i < m.decs.length), q i = isTyp s m.decs[i] := fun i h => by show (match m.decs[i]? with | some d => isTyp s d | none => false) = _; rw [List.getElem?_eq_getElem h]
 cases h : typAt m s with
 | none =>
  unfold typAt at h
  rw [List.findIdx?_eq_none_iff] at h;rw [List.find?_eq_none];intro i hi;have hi := List.mem_range.1 hi;rw [hq i (by omega), h _ (List.getElem_mem _)]; decide
 | some i =>
  unfold typAt at h
  rw [List.findIdx?_eq_some_iff_getElem] at h;obtain ⟨hi, h1, h2⟩ := h;rw [List.find?_range_eq_some];refine ⟨by rw [hq i hi]; exact h1, List.mem_range.2 (by omega), fun j hj => ?_⟩;rw [hq j (by omega)];have := h2 j hj
  simpa using this
theorem TyS.done {m : Mo} {b1 nd : Nat} {ys : List (Fin nd)} {W : World} (h : TyS m b1 ys W) (hy : ys.map (·.1) = downTo nd nd) (hn : nd = m.decs.length) : MapS W b1 ys.length (fun s => (typAt m s).isSome) (fun s c => typAt m s = some c.toNat /\ 0 <= c) := by
 refine MapS.of h (fun s => ?_) (fun s c _ hc => ?_)
 ·have hf := ys_find hy hn s
  have e1 : (ys.reverse.find? (isT m s)).isSome = (typAt m s).isSome := by rw [<- hf, Option.isSome_map]
  rw [<- e1];refine Bool.eq_iff_iff.2 ?_;rw [List.any_eq_true, List.find?_isSome];simp
 ·obtain ⟨y, h1, h2⟩ := hc
  rw [<- ys_find hy hn s, h1, h2];exact ⟨by simp, by omega⟩
theorem namesSize : (Tryz.prog.info? 212).map (·.size) = some 3 := by kernel_rfl
theorem namesOne {m0 m1 : Option Nat} {A : Option Addr} {n c : Nat} : (#[.map m0, .map m1, .slice A n c] : Array Value).all (·.oneCell') = true := Array.all_eq_true_iff_forall_mem.2 (fun v hv => by simp at hv; rcases hv with rfl | rfl | rfl <;> rfl)
theorem below_putO {w wk : World} (h : Below w.heap.size w wk) {D : Nat} (hD : w.heap.size <= D) (o : Obj) : Below w.heap.size w (wk.putObj D o) := ⟨h.os, h.tape, h.output, by simpa using h.size, fun b hb => (World.putObj_heap_other (fun e => by omega)).trans (h.block b hb)⟩
theorem read7_any (m : Mo) (l : List Value) (w : World) (h : MoAt w l m) (hI : m.imps.length <= 100000) (hN : m.decs.length <= 100000) (hIs : ∀ x ∈ m.imps, x.asn.size <= maxLen) (hM : ∀ d ∈ m.decs, many d.typ <= 9000 /\ d.name.size <= maxLen) :
  Calls Tryz.prog 165 #[.agg l.toArray] w fun e w' => ∃ (b0 b1 : Nat) (Ae : Option Addr) (ce : Nat), e = .returned (.agg #[.map (some b0), .map (some b1), .slice Ae (entries m).length ce]) /\ NmS w' b0 b1 m /\ RowIn enR w' Ae (entries m) /\ Below w.heap.size w w' := by
 obtain ⟨Ai, ci, Ad, cd, rfl, z1, z2, z3, hIm, hDe⟩ := h
 have hmm := @run_makeMap Tryz.prog
 obtain ⟨W5, b0, b1, nb, hb0, hb1, hnb, hW5, B5, X0, X1, XN, M0, M1, hs5⟩ := start7 w #[.string m.name, .slice Ai m.imps.length ci, .slice Ad m.decs.length cd]
 obtain ⟨ni, hni⟩ : ∃ ni, ni = m.imps.length := ⟨_, rfl⟩
 obtain ⟨nd, hnd⟩ : ∃ nd, nd = m.decs.length := ⟨_, rfl⟩
 have HNI := hZ hni
 have HND := hZ hnd
 rw [<- hni] at X0 hW5 hI z2
 rw [<- hnd] at X0 hW5 hN z3
 rw [<- hni, <- hnd]
 have HIm := hZ hIm
 have HDe := hZ hDe
 have HIs := hZ hIs
 have HMd := hZ hM
 have HB5 := hZ B5
 have HX0 := hZ X0
 have HX1 := hZ X1
 have HXN := hZ XN
 have HM0 := hZ (M0 (fun _ _ => True))
 have HM1 := hZ M1
 have HW5 := hZ hW5
 have Hb0 := hZ hb0
 have Hb1 := hZ hb1
 have Hnb := hZ hnb
 have o1 : w.heap.size + 1 < b0 := by omega
 have o2 : b0 < b1 := by omega
 have o3 : b1 < nb := by omega
 clear hIm hDe hIs hM B5 X0 X1 XN M0 M1 hW5 hb0 hb1 hnb hni hnd
 refine callsIn_wide (n := 9) |>.1 (callsIn_of_wp_marks Tryz.func165 rfl trivial ?_)
 refine wpIn_wide.2 ?_
 simp only [Tryz.ntmps165, List.size_toArray, List.length_cons, List.length_nil, Nat.reduceAdd, Nat.reduceSub, Array.replicate_succ, Array.replicate_zero, List.push_toArray, List.append_toArray, List.nil_append, List.cons_append]
 go_upto_region 2 with fail
 rw [<- Hnb.out, <- Hb1.out, <- Hb0.out, <- HW5.out]
 clear hmm HW5
 have x1 := cZ HX0.out 1
 simp at x1
 go_wp2_with fail
 clear x1
 go_loopw [18] (fun iv wr => ∃ k : Nat, k <= ni /\ iv = .int .i64 k /\ Hid (MapS wr b0 k (fun s => (m.imps.take k).any fun x => decide (x.asn = s)) (fun _ _ => True)) /\ Hid (W5.grownBy wr (some b0))) (fun iv _ => ni - (intOf iv).toNat)
 case atStart => exact ⟨0, by omega, rfl, hZ (by simpa using HM0.out), hZ (grown_of (Below.refl _ _))⟩
 case round =>
  obtain ⟨k, hk, rfl, HM, HG⟩ := hrel;obtain ⟨wo, rfl⟩ : ∃ wo : World, wo = wr := ⟨_, rfl⟩;by_cases hlt : k < ni
  ·obtain ⟨x, hx⟩ : ∃ x, m.imps[k]? = some x := ⟨_, List.getElem?_eq_getElem (by rw [<- HNI.out]; exact hlt)⟩
   obtain ⟨g, o, lv, rfl, hg, hcc, rfl, -⟩ := HIm.out k x hx;have hsz := HG.out.size;have mv : ∀ (b : Nat), b < W5.heap.size -> b ≠ b0 -> wo.heap[b]? = W5.heap[b]? := fun b hb hne => HG.out.block b hb (by simp; omega)
   have hcell : ∀ j v, (imL x)[j]? = some v -> wo.cell? ⟨g, o + k * 4 + j, none⟩ = some v := fun j v hj => by
    rw [World.cell?_of_block (w := w) (a := ⟨g, _, none⟩) ((mv g (by have := HB5.out.size; omega) (by omega)).trans (HB5.out.block g hg))]; exact hcc j v hj
   have a0 := hcell 0 _ rfl;have a1 := hcell 1 _ rfl;have a2 := hcell 2 _ rfl;have a3 := hcell 3 _ rfl;simp only [Nat.add_zero] at a0;obtain ⟨w6, hw6⟩ : ∃ w6, w6 = wo.alloc (.cells #[.string x.pkg, .int .i64 x.major, .string x.mod, .string x.asn] 71) := ⟨_, rfl⟩;have B6 : Below wo.heap.size wo w6 := by rw [hw6]; exact below_new (Below.refl _ _) _
   have X6 : w6.heap[wo.heap.size]? = some (.cells #[.string x.pkg, .int .i64 x.major, .string x.mod, .string x.asn] 71 (0, 0)) := by rw [hw6]; exact heap_alloc_new wo _
   have N6 := (B6.block nb (by omega)).trans ((mv nb hs5 (by omega)).trans HXN.out);obtain ⟨D, hown, hm, hks⟩ := HM.out.below B6;have hkey := Go.WideMaps.keyOf_string_mk (P := Tryz.prog) Tryz.underlying9 (HIs.out x (List.mem_of_getElem? hx));have HW6 := hZ hw6;have HG6 := hZ (grown_over HG.out (grown_of (r := some b0) B6));have HX := hZ hx;have hkm : k < maxLen := by unfold maxLen; omega
   have wf := WalkArith.wf_i64 (n := (k : Int)) (by omega);clear hcc hcell hx B6 hw6 hg mv;go_upto_region 5 with fail
   rw [<- HW6.out];clear a0 a1 a2 a3;have y3 := cZ X6 3;have n0 := cZ N6 0;simp at y3 n0;clear X6 N6;go_wp2_with (at_mapUpdate; refine wpList_mapUpdate_own _ rfl _ _ _ 209 rfl 9 3 lawStr Tryz.underlying209 _ b0 k D rfl hown hkm _ _ _ rfl rfl hkey _ [] (plainElem_int Tryz.underlying3 wf) ?_; intro w7 hown7 hgrow7)
   have M7 : Hid (MapS w7 b0 (k + 1) (fun s => (m.imps.take (k + 1)).any fun x => decide (x.asn = s)) (fun _ _ => True)) := hZ ((MapS.put hm hks hown7).of (fun s => by rw [any_snoc _ _ _ _ HX.out, Bool.or_comm]) (fun _ _ _ _ => trivial));have HG7 := hZ (grown_over HG6.out hgrow7);clear hown7 hgrow7 hown hm hks hkey y3 n0;go_wp2_with fail
   go_roundw
   case rel => exact ⟨k + 1, by omega, by go_num, M7, HG7⟩
   case measure => simp [intOf]; omega
  ·obtain rfl : k = ni := by omega
   have HM2 : Hid (MapS wo b0 k (impHas m) (fun _ _ => True)) := hZ (HM.out.of (fun s => by rw [List.take_of_length_le (by rw [<- HNI.out]; exact Nat.le_refl _)]; rfl) (fun _ _ _ _ => trivial));have Y0 := (HG.out.block w.heap.size (by omega) (by simp; omega)).trans HX0.out;have x2 := cZ Y0 2;simp at x2;clear Y0;go_wp2_with fail
   refine (backward_any Ad nd cd wo).mono ?_; rintro e W7 ⟨rfl, hW7⟩
   have B7 : Below wo.heap.size wo W7 := by rw [hW7]; exact below_new (Below.refl _ _) _
   have X7 : W7.heap[wo.heap.size]? = some (.cells #[.slice Ad nd cd] 124 (0, 0)) := by rw [hW7]; exact heap_alloc_new wo _
   have hs7 : wo.heap.size < W7.heap.size := by rw [hW7]; simp
   have HW7 := hZ hW7;have G7 : W5.grownBy W7 (some b0) := grown_over HG.out (grown_of B7);have hsw := HG.out.size;have hw5 := HB5.out.size;have low7 : ∀ b, b < w.heap.size -> W7.heap[b]? = w.heap[b]? := fun b hb => (G7.block b (by omega) (by simp; omega)).trans (HB5.out.block b hb)
   have hall : ∀ i, ∃ c : Array Value, i < nd -> ∃ (x : De) (g o : Nat) (An : Option Addr) (cA : Nat) (As : Option Addr) (cS : Nat), m.decs[i]? = some x /\ Ad = some ⟨g, o, none⟩ /\ g < w.heap.size /\ c = #[.int .i64 x.kind, .string x.name, .int .i64 x.typ.kind, .string x.typ.pkg, .int .i64 x.typ.major, .string x.typ.mod, .string x.typ.name, .slice An x.typ.names.length cA, .slice As x.typ.subs.length cS] /\
     (∀ j v, c[j]? = some v -> w.cell? ⟨g, o + i * 9 + j, none⟩ = some v) := by
    intro i;by_cases hi : i < nd
    ·obtain ⟨x, hx⟩ : ∃ x, m.decs[i]? = some x := ⟨_, List.getElem?_eq_getElem (by rw [<- HND.out]; exact hi)⟩
     obtain ⟨g, o, lv, hA, hg, hc, -, l7, rfl, hT⟩ := HDe.out i x hx;obtain ⟨An, cA, As, cS, rfl, -⟩ := hT.parts;exact ⟨#[.int .i64 x.kind, .string x.name, .int .i64 x.typ.kind, .string x.typ.pkg, .int .i64 x.typ.major, .string x.typ.mod, .string x.typ.name, .slice An x.typ.names.length cA, .slice As x.typ.subs.length cS], fun _ => ⟨x, g, o, An, cA, As, cS, hx, hA, hg, rfl, fun j v hj => hc j v (by rw [<- List.getElem?_toArray]; exact hj)⟩⟩
    ·exact ⟨#[], fun h => absurd h hi⟩
   obtain ⟨V, hV⟩ := Classical.axiomOfChoice hall
   obtain ⟨g, o, hAg⟩ : ∃ g o, 0 < nd -> Ad = some ⟨g, o, none⟩ /\ g < w.heap.size := by
    by_cases h0 : 0 < nd
    ·obtain ⟨x, g, o, -, -, -, -, -, hA, hg, -⟩ := hV 0 h0
     exact ⟨g, o, fun _ => ⟨hA, hg⟩⟩
    ·exact ⟨0, 0, fun h => absurd h h0⟩
   have STOP := back_stops 4 wo.heap.size w.heap.size g o nd cd Ad (fun h => (hAg h).1) V (by omega) (fun h => (hAg h).2) (by omega)
    (fun i hi => by
     obtain ⟨x, g', o', An, cA, As, cS, -, -, -, hv, -⟩ := hV i hi;exact ⟨_, _, _, _, _, _, _, _, _, hv, rfl, rfl⟩) W7 (by omega) (cZ X7 0)
    (fun i hi j v hj => by
     obtain ⟨x, g', o', An, cA, As, cS, -, hA, hg', -, hc⟩ := hV i hi;have h2 := (hAg (by omega)).1;rw [hA] at h2;cases h2
     rw [World.cell?_of_block (w := w) (a := ⟨g, _, none⟩) (low7 g hg')]; exact hc j v hj)
   have N7 := (G7.block nb (by omega) (by simp; omega)).trans HXN.out;have T0 : TyS m b1 ([] : List (Fin nd)) W7 := ((HM1.out _).kept (G7.block b1 (by omega) (by simp; omega)));have HV := hZ hV;have HN7 := hZ N7;clear x2 hall hV N7 X7 hW7 B7;go_wp2_with fail
   refine wpIn_wide (n := 5) |>.1 ?_
   refine wpIn_rangeFunc_ownH (F := Fence.wide) rfl (by omega) (gf := 192) (lb := #[.pointer (some ⟨wo.heap.size, 0, none⟩)]) rfl trivial (enters_of Tryz.func192 (by kernel_rfl) rfl)
    STOP (fun h h' => h.trans h') (fun W l o o' hl _ _ _ => KpB.put (by omega) (by omega)) (Below.refl _ _) (fun _ => rfl)
    (fun pre W => W7.grownBy W (some b1) /\ TyS m b1 pre W) (fun _ _ _ => False) ?hI ?hIx ⟨grown_of (Below.refl _ _), T0⟩
    (fun x a' W => ∃ B, W7.heap.size <= B /\ W.heap[B]? = some (.cells (V x.1) 191 (0, 0)) /\ a' = { tmps := #[.agg #[.string m.name, .slice Ai k ci, .slice Ad nd cd], .pointer (some ⟨w.heap.size, 0, none⟩), .pointer (some ⟨w.heap.size + 1, 0, none⟩), .pointer (some ⟨nb, 0, none⟩), u4, u5, .int .i64 (x.1 : Int), .pointer (some ⟨B, 0, none⟩), undef, undef, undef, undef, .map (some b0), .map (some b1), .agg #[.map (some b0), .map (some b1), .slice none 0 0], .pointer (some ⟨w.heap.size, 1, none⟩), .slice Ai k ci, .int .i64 (k : Int), .int .i64 (k : Int), .bool false, u20, u21, u22, u23, u24, u25, u26, u27, u28, .pointer (some ⟨w.heap.size, 2, none⟩), .slice Ad nd cd, .func (.func 192) #[] #[.pointer (some ⟨wo.heap.size, 0, none⟩)], .int .i64 (x.1 : Int), .agg (V x.1), undef, undef, undef, undef, undef, undef, undef, undef, undef, undef, undef, undef, undef, undef, undef, undef, undef, undef, undef, undef, undef, undef, undef, undef, undef, undef, undef, undef, undef, undef, undef, undef, undef, undef, undef, undef], defers := [] }) ?hAx ?assign ?body ?done ?stop
   case hI =>
    rintro s W W' row ⟨h1, h2⟩ hg hr;have hne : ∀ b, b < W7.heap.size -> some b ≠ row := fun b hb e => by have := (hr b e.symm).1; omega
    exact ⟨⟨hg.os.trans h1.os, hg.tape.trans h1.tape, hg.output.trans h1.output, Nat.le_trans h1.size hg.size, fun b hb hb1 => (hg.block b (by have := h1.size; omega) (hne b hb)).trans (h1.block b hb hb1)⟩, h2.kept (hg.block b1 (by have := h1.size; omega) (hne b1 (by omega)))⟩
   case hIx => intro c s W W' row hs _ _; exact hs
   case hAx =>
    rintro x a' s W W' row ⟨B, hB, hc, ha⟩ hg hr;refine ⟨B, hB, (hg.block B (Array.getElem?_eq_some_iff.1 hc).1 (fun e => ?_)).trans hc, ha⟩;obtain ⟨-, o, ho, hoc⟩ := hr B e.symm;rw [hc] at ho;cases ho
    cases hoc
   case assign =>
    rintro l pre x W K ⟨h1, h2⟩ hK;obtain ⟨d, g', o', An, cA, As, cS, -, -, -, hv, -⟩ := HV.out x.1 x.2;have hsW := h1.size;have HA : Hid (W.alloc (.cells (V x.1) 191) = W.alloc (.cells #[.int .i64 d.kind, .string d.name, .int .i64 d.typ.kind, .string d.typ.pkg, .int .i64 d.typ.major, .string d.typ.mod, .string d.typ.name, .slice An d.typ.names.length cA, .slice As d.typ.subs.length cS] 191)) := hZ (by rw [hv]);have old : ∀ b, b < W.heap.size -> (W.alloc (.cells #[.int .i64 d.kind, .string d.name, .int .i64 d.typ.kind, .string d.typ.pkg, .int .i64 d.typ.major, .string d.typ.mod, .string d.typ.name, .slice An d.typ.names.length cA, .slice As d.typ.subs.length cS] 191)).heap[b]? = W.heap[b]? := fun b hb => Lib.alloc_old _ _ _ hb
    have P1 : Hid (KeepsFrom W7.heap.size W (W.alloc (.cells #[.int .i64 d.kind, .string d.name, .int .i64 d.typ.kind, .string d.typ.pkg, .int .i64 d.typ.major, .string d.typ.mod, .string d.typ.name, .slice An d.typ.names.length cA, .slice As d.typ.subs.length cS] 191))) := hZ ((KeepsOthers.alloc _ _).from _);have P2 : Hid (KpB w.heap.size wo.heap.size W (W.alloc (.cells #[.int .i64 d.kind, .string d.name, .int .i64 d.typ.kind, .string d.typ.pkg, .int .i64 d.typ.major, .string d.typ.mod, .string d.typ.name, .slice An d.typ.names.length cA, .slice As d.typ.subs.length cS] 191))) := hZ ⟨by simp, fun b hb => old b (by rcases hb with hb | hb <;> omega)⟩;have P3 : Hid (W7.grownBy (W.alloc (.cells #[.int .i64 d.kind, .string d.name, .int .i64 d.typ.kind, .string d.typ.pkg, .int .i64 d.typ.major, .string d.typ.mod, .string d.typ.name, .slice An d.typ.names.length cA, .slice As d.typ.subs.length cS] 191)) (some b1) /\ TyS m b1 pre (W.alloc (.cells #[.int .i64 d.kind, .string d.name, .int .i64 d.typ.kind, .string d.typ.pkg, .int .i64 d.typ.major, .string d.typ.mod, .string d.typ.name, .slice An d.typ.names.length cA, .slice As d.typ.subs.length cS] 191))) := hZ ⟨grown_over h1 (grown_of (below_new (Below.refl _ _) _)), h2.kept (old b1 (by omega))⟩;have P4 : Hid ((W.alloc (.cells #[.int .i64 d.kind, .string d.name, .int .i64 d.typ.kind, .string d.typ.pkg, .int .i64 d.typ.major, .string d.typ.mod, .string d.typ.name, .slice An d.typ.names.length cA, .slice As d.typ.subs.length cS] 191)).heap[W.heap.size]? = some (.cells (V x.1) 191 (0, 0))) := hZ (by rw [hv]; exact heap_alloc_new W _);rw [hv];clear h1 h2 old;gi_wp2
    exact hK _ _ P1.out P2.out P3.out ⟨W.heap.size, hsW, P4.out, by rw [hv]⟩
   case body =>
    rintro l pre x a' W hl ⟨r, hr⟩ ⟨h1, h2⟩ ⟨B, hB, hc, rfl⟩ hlt;obtain ⟨d, g', o', An, cA, As, cS, hd, -, -, hv, -⟩ := HV.out x.1 x.2;rw [hv] at hc;have hsW := h1.size;obtain ⟨k0, k1⟩ := cq2 hc;simp at k0 k1;have N1 := cZ ((h1.block nb (by omega) (by simp; omega)).trans HN7.out) 1;simp at N1;by_cases hk4 : d.kind = 4
    ·have q4 : (d.kind == 4) = true := by rw [hk4]; rfl
     have q5 : (d.kind != 4) = false := by rw [hk4]; rfl
     have FIN : Hid (TyS m b1 (pre ++ [x]) W) := hZ (h2.val fun s => by unfold isT; rw [hd]; simp [isTyp, hk4]);have HG1 := hZ h1;clear hk4 h1 h2 hc hv hd;gi_wp2
     exact ⟨KeepsFrom.refl _ _, KpB.refl _ _ _, HG1.out, FIN.out⟩
    ·have q4 : (d.kind == 4) = false := by simpa using hk4
     have q5 : (d.kind != 4) = true := by simpa using hk4
     obtain ⟨D, hown, hm, hks⟩ := h2;have hkey := Go.WideMaps.keyOf_string_mk (P := Tryz.prog) Tryz.underlying9 (HMd.out d (List.mem_of_getElem? hd)).2;have hkm : pre.length < maxLen := by unfold maxLen; omega
     have hx2 := x.2;have wf := WalkArith.wf_i64 (n := (x.1 : Int)) (by omega);have HT : Hid (∀ s, isT m s x = decide (d.name = s)) := hZ (fun s => by unfold isT; rw [hd]; simp [isTyp, hk4]);have HG1 := hZ h1;clear hk4 h1 hc hv hd;gi_wp2_with (gi_at_mapUpdate; refine wpListIn_mapUpdate_own _ rfl _ _ _ 209 rfl 9 3 lawStr Tryz.underlying209 _ b1 pre.length D rfl hown hkm _ _ _ rfl rfl hkey _ [] (plainElem_int Tryz.underlying3 wf) ?_; intro w1 hown1 hgrow1)
     exact ⟨KeepsFrom.of_grownBy hgrow1 (fun j e => by cases e; omega), ⟨hgrow1.size, fun b hb => hgrow1.block b (by rcases hb with hb | hb <;> omega) (by simp; rcases hb with hb | hb <;> omega)⟩,
      grown_over HG1.out hgrow1, TyS.typ HT.out (MapS.put hm hks hown1)⟩
   case done =>
    rintro D ys W hD hS ⟨h1, h2⟩ hK;have HG1 := hZ h1;have HT2 := hZ h2;have HKD := hZ hK;have HSS := hZ hS;clear h1 h2 hK hS;have hsW := HG1.out.size;have lowW : ∀ b, b < w.heap.size -> W.heap[b]? = w.heap[b]? := fun b hb => (HG1.out.block b (by omega) (by simp; omega)).trans (low7 b hb)
    have G5W : ∀ b, b < W5.heap.size -> b ≠ b0 -> b ≠ b1 -> W.heap[b]? = W5.heap[b]? := fun b hb h0 h1 => (HG1.out.block b (by omega) (by simp; omega)).trans (G7.block b hb (by simp; omega))
    have HNM : Hid (NmS W b0 b1 m) := hZ ⟨⟨_, HM2.out.kept ((HG1.out.block b0 (by omega) (by simp; omega)).trans ((grown_of (r := none) (show Below wo.heap.size wo W7 by rw [HW7.out]; exact below_new (Below.refl _ _) _)).block b0 (by omega) (by simp)))⟩, ⟨_, HT2.out.done HSS.out HND.out⟩⟩;have HXm : Hid (W.heap[w.heap.size]? = some (.cells #[.string m.name, .slice Ai k ci, .slice Ad nd cd] 126 (0, 0))) := hZ ((G5W w.heap.size (by omega) (by omega) (by omega)).trans HX0.out);have HXr : Hid (W.heap[w.heap.size + 1]? = some (.cells #[.map none, .map none, .slice none 0 0] 212 (0, 0))) := hZ ((G5W (w.heap.size + 1) (by omega) (by omega) (by omega)).trans HX1.out);have HXn : Hid (W.heap[nb]? = some (.cells #[.map (some b0), .map (some b1), .slice none 0 0] 212 (0, 0))) := hZ ((G5W nb (by omega) (by omega) (by omega)).trans HXN.out);have HLW : Hid (Below w.heap.size w W) := hZ ⟨HG1.out.os.trans (G7.os.trans HB5.out.os), HG1.out.tape.trans (G7.tape.trans HB5.out.tape), HG1.out.output.trans (G7.output.trans HB5.out.output), by omega, lowW⟩;have hDW : D < W.heap.size := (Array.getElem?_eq_some_iff.1 HKD.out).1;have hDn : nb < D := by omega
    have hbW : w.heap.size + 1 < W.heap.size := by omega
    have hnW : nb < W.heap.size := by omega
    have hb0W : b0 < W.heap.size := by omega
    clear lowW G5W STOP T0 HG1 HT2 HSS HM1 HM2 HM0 HX0 HX1 HXN HN7 HV HW7 G7 low7 hAg;have x2 := cZ HXm.out 2;simp at x2;go_wp2_with fail
    clear x2;go_loopw [45] (fun iv wr => ∃ (xs : List En) (Ae : Option Addr) (ce : Nat), xs.length <= nd /\ iv = .int .i64 xs.length /\ Hid (xs = (entries m).take xs.length) /\ Hid (Row enR W.heap.size xs Ae ce wr) /\ Hid (wr.heap[nb]? = some (.cells #[.map (some b0), .map (some b1), .slice Ae xs.length ce] 212 (0, 0))) /\ Hid (W.grownBy wr (some nb))) (fun iv _ => nd - (intOf iv).toNat)
    case atStart => exact ⟨[], none, 0, by simp, rfl, hZ (by simp), hZ (Row.start enR _ _), HXn, hZ (grown_of (Below.refl _ _))⟩
    case round =>
     obtain ⟨xs, Ae, ce, hj, rfl, HXS, HROW, HBX, HGR⟩ := hrel;obtain ⟨wx, rfl⟩ : ∃ wx : World, wx = wr := ⟨_, rfl⟩;have hsx := HGR.out.size;by_cases hlt : xs.length < nd
     ·obtain ⟨d, hd⟩ : ∃ d, m.decs[xs.length]? = some d := ⟨_, List.getElem?_eq_getElem (by rw [<- HND.out]; exact hlt)⟩
      have HBw : Hid (Below w.heap.size w wx) := hZ (HLW.out.trans ⟨HGR.out.os, HGR.out.tape, HGR.out.output, HGR.out.size, fun b hb => HGR.out.block b (by omega) (by simp; omega)⟩);obtain ⟨g, o, v0, v1, v2, v3, v4, v5, v6, hAd, hg, a0, a1, u0, u1, u2, u3, u4', u5', u6, us, zs⟩ := RowIn.de (HDe.out.below HBw.out) hd;subst hAd;obtain ⟨Bn, cB, Bs, dB, ev, -⟩ := us.parts;simp only [List.cons.injEq, and_true] at ev;obtain ⟨rfl, rfl, rfl, rfl, rfl, rfl, rfl⟩ := ev;obtain ⟨w3, hw3⟩ : ∃ w3, w3 = wx.alloc (.cells #[.int .i64 d.kind, .string d.name, .int .i64 d.typ.kind, .string d.typ.pkg, .int .i64 d.typ.major, .string d.typ.mod, .string d.typ.name, .slice Bn d.typ.names.length cB, .slice Bs d.typ.subs.length dB] 191) := ⟨_, rfl⟩;have B3 : Below wx.heap.size wx w3 := by rw [hw3]; exact below_new (Below.refl _ _) _
      have X3 : w3.heap[wx.heap.size]? = some (.cells #[.int .i64 d.kind, .string d.name, .int .i64 d.typ.kind, .string d.typ.pkg, .int .i64 d.typ.major, .string d.typ.mod, .string d.typ.name, .slice Bn d.typ.names.length cB, .slice Bs d.typ.subs.length dB] 191 (0, 0)) := by rw [hw3]; exact heap_alloc_new wx _
      have hs3 : wx.heap.size < w3.heap.size := by rw [hw3]; simp
      have NM3 : NmS w3 b0 b1 m := by
       obtain ⟨⟨n0, h0⟩, ⟨n1, h1⟩⟩ := HNM.out;exact ⟨⟨n0, h0.kept ((B3.block b0 (by omega)).trans (HGR.out.block b0 hb0W (by simp; omega)))⟩, ⟨n1, h1.kept ((B3.block b1 (by omega)).trans (HGR.out.block b1 (by omega) (by simp; omega)))⟩⟩
      have SD := hZ (said_any m b0 b1 Ae xs.length ce (many d.typ) d.typ (Nat.le_refl _) (HMd.out d (List.mem_of_getElem? hd)).1 (.agg #[.int .i64 d.typ.kind, .string d.typ.pkg, .int .i64 d.typ.major, .string d.typ.mod, .string d.typ.name, .slice Bn d.typ.names.length cB, .slice Bs d.typ.subs.length dB]) w3 NM3 (TyV.below ⟨_, rfl, us⟩ B3));have N3 := (B3.block nb (by omega)).trans HBX.out;have HX3 := hZ X3;have HN3 := hZ N3;have HROW3 := hZ (HROW.out.keep (w' := w3) B3.size (fun b _ h => B3.block b h));have HG3 := hZ (grown_over HGR.out (grown_of (r := some nb) B3));have HW3 := hZ hw3;have HDD := hZ hd;have HSL : Hid ((saidT m d.typ).length <= 9000) := hZ (Nat.le_trans (said_len m (many d.typ) d.typ (Nat.le_refl _)) (HMd.out d (List.mem_of_getElem? hd)).1);have hsz3 : wx.heap.size <= w3.heap.size := B3.size;clear us hd B3 hw3 NM3 zs;have xm2 := cZ ((HGR.out.block w.heap.size (by omega) (by simp; omega)).trans HXm.out) 2;go_upto_region 15 with fail
      rw [<- HW3.out];clear a0 a1 u0 u1 u2 u3 u4' u5' u6 xm2;obtain ⟨n0, n1, n2⟩ := cq3 N3;obtain ⟨y0, y1, y2, y3, y4, y5, y6, y7, y8⟩ := cq9 X3;simp at n0 n1 n2 y0 y1 y2 y3 y4 y5 y6 y7 y8;clear N3 X3;go_wp2_with fail
      refine SD.out.mono ?_; rintro e w4 ⟨v', rfl, ho4, hb4⟩
      obtain ⟨Ap, cp, rfl⟩ := own_slice ho4;have hs4 := hb4.size;have X4 := (hb4.block wx.heap.size hs3).trans HX3.out;have N4 := (hb4.block nb (by omega)).trans HN3.out;have q0 := cZ X4 0;have n2 := cZ N4 2;simp at q0 n2;have ROW4 := HROW3.out.keep (w' := w4) hs4 (fun b _ h => hb4.block b h);obtain ⟨C, hC1, hown, hC4⟩ := ROW4.cells;obtain ⟨inf, hi1', hy0, hy1, hy2⟩ := info_parts ent_info;have hMX : xs.length + 1 <= maxLen := by unfold maxLen; omega
      have hwo : ∀ b, (Value.slice Ae xs.length ce).ownBlock = some b -> b < w3.heap.size := fun b e => (HROW3.out.lt e).2
      have hAL : ∀ oo, W.heap.size <= (w4.alloc oo).heap.size := fun oo => by have e1 : (w4.alloc oo).heap.size = w4.heap.size + 1 := (by simp); omega
      have HNA : Hid (enE (strike (· < w3.heap.size) w4) [.int .i64 xs.length, .int .i64 d.kind, .slice Ap (saidT m d.typ).length cp, .bool (wholeT m d.typ)] ⟨xs.length, d.kind, saidT m d.typ, wholeT m d.typ⟩) := hZ ⟨Ap, cp, rfl, nats_own ho4 rfl (Nat.le_refl _), Nat.le_trans HSL.out (by decide)⟩;have HG4 : Hid (∀ b, b < W.heap.size -> b ≠ nb -> w4.heap[b]? = W.heap[b]?) := hZ fun b hb hne => (hb4.block b (by omega)).trans (HG3.out.block b hb (by simp; omega))
      have HO4 : Hid (w4.os = W.os /\ w4.tape = W.tape /\ w4.output = W.output) := hZ ⟨hb4.os.trans HG3.out.os, hb4.tape.trans HG3.out.tape, hb4.output.trans HG3.out.output⟩;have HN4 := hZ N4;clear ho4 hb4 X4 N4 SD n0 n1 y0 y1 y2 y3 y4 y5 y6 y7 y8;go_wp2_with (first | (refine wpList_append_lies _ rfl (.tmp 58) (.tmp 65) 210 rfl W.heap.size 219 inf _ 4 48 Tryz.underlying210 hi1' hy0 hy1 hy2 (by rfl) (Nat.zero_lt_succ 3) (.slice Ae xs.length ce) xs.length _ rfl (hown.alloc _) ⟨w4.heap.size, 0, none⟩ 1 1 [.int .i64 xs.length, .int .i64 d.kind, .slice Ap (saidT m d.typ).length cp, .bool (wholeT m d.typ)] rfl rfl (fun q u hq => by rw [WideShapes.add_plain, Nat.zero_add, cZ (heap_alloc_new w4 _), <- hq, <- List.getElem?_toArray]) (fun u hu => by simp at hu; rcases hu with rfl | rfl | rfl | rfl <;> rfl) Nat.one_pos hMX (by omega) (hAL _) _ rfl ?_; intro gb cap w5 hown5 hgrow hat hlt5; obtain ⟨ROW9, Y9, old9, bel9, z9, e9, hs9⟩ := row_more (R := enR) (x := ⟨xs.length, d.kind, saidT m d.typ, wholeT m d.typ⟩) (k := 2) ROW4 (B := w3.heap.size) (by omega) hs4 hwo hC1 hC4 HNA.out hown5 hgrow hat (by omega) HN4.out rfl; clear hown5 hgrow hat hlt5))
      have hlen9 : (xs ++ [(⟨xs.length, d.kind, saidT m d.typ, wholeT m d.typ⟩ : En)]).length = xs.length + 1 := by simp
      have XS9 : Hid (xs ++ [(⟨xs.length, d.kind, saidT m d.typ, wholeT m d.typ⟩ : En)] = (entries m).take (xs ++ [(⟨xs.length, d.kind, saidT m d.typ, wholeT m d.typ⟩ : En)]).length) := hZ (by rw [hlen9, List.take_add_one, entries_at HDD.out, <- HXS.out]; rfl);have HR9 : Hid (Row enR W.heap.size (xs ++ [(⟨xs.length, d.kind, saidT m d.typ, wholeT m d.typ⟩ : En)]) (some ⟨gb, 0, none⟩) cap (w5.setCell ⟨nb, 2, none⟩ (.slice (some ⟨gb, 0, none⟩) (xs.length + 1) cap))) := hZ ROW9;have HY9 : Hid ((w5.setCell ⟨nb, 2, none⟩ (.slice (some ⟨gb, 0, none⟩) (xs.length + 1) cap)).heap[nb]? = some (.cells #[.map (some b0), .map (some b1), .slice (some ⟨gb, 0, none⟩) (xs ++ [(⟨xs.length, d.kind, saidT m d.typ, wholeT m d.typ⟩ : En)]).length cap] 212 (0, 0))) := hZ (by rw [hlen9]; exact Y9)
      have HG9 : Hid (W.grownBy (w5.setCell ⟨nb, 2, none⟩ (.slice (some ⟨gb, 0, none⟩) (xs.length + 1) cap)) (some nb)) := hZ (by
       have bb := bel9 nb (Nat.le_refl _);exact ⟨bb.os.trans HO4.out.1, bb.tape.trans HO4.out.2.1, bb.output.trans HO4.out.2.2, by omega, fun b hb hne => (old9 b hb (by simp at hne; omega)).trans (HG4.out b hb (by simp at hne; omega))⟩)
      clear ROW9 Y9 old9 bel9 z9 e9 hs9 hC1 hown hC4 hi1' hy0 hy1 hy2 hMX hwo hAL;go_wp2_with fail
      go_roundw
      case rel => exact ⟨_, some ⟨gb, 0, none⟩, cap, by omega, by rw [hlen9]; go_num, XS9, HR9, HY9, HG9⟩
      case measure => simp [intOf]; omega
     ·have hxs : xs = entries m := by
       have h := HXS.out;rw [h, List.take_of_length_le (by rw [entries_len, <- HND.out]; omega)]
      have hel : xs.length = nd := by omega
      obtain ⟨y0, y1, y2⟩ := cq3 HBX.out;simp at y0 y1 y2;have X9 : wx.heap[w.heap.size + 1]? = some (.cells #[.map none, .map none, .slice none 0 0] 212 (0, 0)) := (HGR.out.block _ hbW (by simp; omega)).trans HXr.out;have mv : ∀ b, b ≠ w.heap.size + 1 -> b ≠ D -> ((wx.setRow (w.heap.size + 1) #[.map (some b0), .map (some b1), .slice Ae xs.length ce]).putObj D (.deferred none)).heap[b]? = wx.heap[b]? := fun b hb hD' => (World.putObj_heap_other (fun e => by omega)).trans (setRow_other wx (w.heap.size + 1) b _ hb)
      have FNM : Hid (NmS ((wx.setRow (w.heap.size + 1) #[.map (some b0), .map (some b1), .slice Ae xs.length ce]).putObj D (.deferred none)) b0 b1 m) := hZ (by
       obtain ⟨⟨n0, h0⟩, ⟨n1, h1⟩⟩ := HNM.out;exact ⟨⟨n0, h0.kept ((mv b0 (by omega) (by omega)).trans (HGR.out.block b0 hb0W (by simp; omega)))⟩, ⟨n1, h1.kept ((mv b1 (by omega) (by omega)).trans (HGR.out.block b1 (by omega) (by simp; omega)))⟩⟩)
      have FROW : Hid (RowIn enR ((wx.setRow (w.heap.size + 1) #[.map (some b0), .map (some b1), .slice Ae xs.length ce]).putObj D (.deferred none)) Ae xs) := hZ
       ((HROW.out.done (Nat.le_refl _)).move (S' := fun b => b < W.heap.size) (by simp) fun b hb hS => ⟨hS, mv b (fun e => hS (by omega)) (fun e => hS (by omega))⟩).free
      have FB : Hid (Below w.heap.size w ((wx.setRow (w.heap.size + 1) #[.map (some b0), .map (some b1), .slice Ae xs.length ce]).putObj D (.deferred none))) := hZ (below_putO (setRow_below (HLW.out.trans ⟨HGR.out.os, HGR.out.tape, HGR.out.output, HGR.out.size, fun b hb => HGR.out.block b (by omega) (by simp; omega)⟩) (by omega) _) (by omega) _);have HD9 : Hid ((wx.setRow (w.heap.size + 1) #[.map (some b0), .map (some b1), .slice Ae xs.length ce]).heap[D]? = some (.deferred (some []))) := hZ ((setRow_other wx (w.heap.size + 1) D _ (by omega)).trans ((HGR.out.block D hDW (by simp; omega)).trans HKD.out));have HX9 := hZ X9;have HXX := hZ hxs;have HPO : Hid (((wx.setRow (w.heap.size + 1) #[.map (some b0), .map (some b1), .slice Ae xs.length ce]).putObj D (.deferred none)).heap[w.heap.size + 1]? = (wx.setRow (w.heap.size + 1) #[.map (some b0), .map (some b1), .slice Ae xs.length ce]).heap[w.heap.size + 1]?) := hZ (World.putObj_heap_other (fun e => by omega));clear mv hxs;go_upto_region 18 with fail
      go_wp2_with (first | ((with_reducible refine wpList_putRow 212 (w.heap.size + 1) #[.map (some b0), .map (some b1), .slice Ae xs.length ce] _ _ X9 ?_ ?_ ?_ ?_ ?_ ?_); exact namesSize; rfl; exact namesOne; iterate 2 (focus (first | (go_simp; done) | rfl))))
      refine ret_mark1 (fn := Tryz.f165) (vs := [.map (some b0), .map (some b1), .slice Ae xs.length ce]) (b := w.heap.size + 1) (D := D) rfl rfl Tryz.underlying212 (by kernel_rfl) rfl HD9.out ?_ ⟨b0, b1, Ae, ce, by rw [<- HXX.out], FNM.out, by rw [<- HXX.out]; exact FROW.out, FB.out⟩;exact cell3 (HPO.out.trans (setRow_heap _ (w.heap.size + 1) _ _ _ _ HX9.out))
   case stop =>
    rintro D c pre W _ _ h _;exact h.elim
end Go.Proofs.YtddlmigofilejaaGreat
namespace Go.Proofs.YtddlmigofilejaaGreat
open Go.RowKit
open Go.Sort
open M
theorem zero_iff (t : Ty) : sameT t noT = true ↔ t.kind = 0 /\ t.pkg = ⟨#[]⟩ /\ t.major = 0 /\ t.mod = ⟨#[]⟩ /\ t.name = ⟨#[]⟩ /\ t.names.length = 0 /\ t.subs.length = 0 := by
  rw [sameT_iff];obtain ⟨k, p, m, d, n, ns, ss⟩ := t;simp only [noT, Ty.mk.injEq, Ty.kind, Ty.pkg, Ty.major, Ty.mod, Ty.name, Ty.names, Ty.subs, List.length_eq_zero_iff]
theorem ba_ne {s : ByteArray} (h : s ≠ ⟨#[]⟩) : (s.toList == ([] : List UInt8)) = false := by
  rw [beq_eq_false_iff_ne, ne_eq, Lib.toList_data];intro e
  exact h (by
    obtain ⟨a⟩ := s;have : a = #[] := by cases a; simp at e; rw [e]
    rw [this])
theorem cuntyped_any (k : Int) (s : ByteArray) (t : Ty) (An As : Option Addr) (cA cS : Nat) (w : World) (h5 : t.names.length <= 9223372036854775807) (h6 : t.subs.length <= 9223372036854775807) :
    Calls Tryz.prog 191 #[.agg #[.int .i64 k, .string s, .int .i64 t.kind, .string t.pkg, .int .i64 t.major, .string t.mod, .string t.name, .slice An t.names.length cA, .slice As t.subs.length cS]] w fun e w' => e = .returned (.bool (sameT t noT)) /\ Below w.heap.size w w' := by
  obtain ⟨w0, hw0⟩ : ∃ w0, w0 = w.alloc (.cells #[.int .i64 k, .string s, .int .i64 t.kind, .string t.pkg, .int .i64 t.major, .string t.mod, .string t.name, .slice An t.names.length cA, .slice As t.subs.length cS] 191) := ⟨_, rfl⟩;have B0 : Below w.heap.size w w0 := by rw [hw0]; exact below_new (Below.refl _ _) _
  have O0 : w0.heap[w.heap.size]? = some (.cells #[.int .i64 k, .string s, .int .i64 t.kind, .string t.pkg, .int .i64 t.major, .string t.mod, .string t.name, .slice An t.names.length cA, .slice As t.subs.length cS] 191 (0, 0)) := by rw [hw0]; exact heap_alloc_new w _
  obtain ⟨w1, hw1⟩ : ∃ w1, w1 = w0.alloc (.cells #[.int .i64 t.kind, .string t.pkg, .int .i64 t.major, .string t.mod, .string t.name, .slice An t.names.length cA, .slice As t.subs.length cS] 50) := ⟨_, rfl⟩;have B1 : Below w0.heap.size w0 w1 := by rw [hw1]; exact below_new (Below.refl _ _) _
  have O1 : w1.heap[w0.heap.size]? = some (.cells #[.int .i64 t.kind, .string t.pkg, .int .i64 t.major, .string t.mod, .string t.name, .slice An t.names.length cA, .slice As t.subs.length cS] 50 (0, 0)) := by rw [hw1]; exact heap_alloc_new w0 _
  have s0 : w0.heap.size = w.heap.size + 1 := by rw [hw0]; simp
  have FIN := hZ (below_over B0 B1);obtain ⟨V, hV⟩ : ∃ V, sameT t noT = V := ⟨_, rfl⟩;rw [hV];have HV := hZ hV;obtain ⟨y0, y1, y2, y3, y4, y5, y6, y7, y8⟩ := cq9 O0;simp at y0 y1 y2 y3 y4 y5 y6 y7 y8;obtain ⟨x0, x1, x2, x3, x4, x5, x6⟩ := cq7 O1;simp at x0 x1 x2 x3 x4 x5 x6;have HW0 := hZ hw0;have HW1 := hZ hw1;have HZ := hZ (zero_iff t)
  have NO : Hid ((¬ (t.kind = 0 /\ t.pkg = ⟨#[]⟩ /\ t.major = 0 /\ t.mod = ⟨#[]⟩ /\ t.name = ⟨#[]⟩ /\ t.names.length = 0 /\ t.subs.length = 0)) -> V = false) := hZ (fun h => by
    rw [<- HV.out, Bool.eq_false_iff];exact fun e => h ((zero_iff t).1 e))
  have YES : Hid ((t.kind = 0 /\ t.pkg = ⟨#[]⟩ /\ t.major = 0 /\ t.mod = ⟨#[]⟩ /\ t.name = ⟨#[]⟩ /\ t.names.length = 0 /\ t.subs.length = 0) -> V = true) := hZ (fun h => by
    rw [<- HV.out];exact (zero_iff t).2 h)
  clear hV hw0 hw1 B0 B1 O0 O1 s0 HZ HV;generalize t.kind = tk at *
  generalize t.pkg = tp at *
  generalize t.major = tm at *
  generalize t.mod = td at *
  generalize t.name = tn at *
  generalize t.names.length = n5 at *
  generalize t.subs.length = n6 at *
  go_enter Tryz.func191, Tryz.ntmps191
  go_upto_region 1 with fail
  rw [<- HW0.out];go_upto_region 2 with fail
  rw [<- HW1.out];clear HW0 HW1 y0 y1 y2 y3 y4 y5 y6 y7 y8;by_cases htk : tk = 0
  rotate_left
  · have RV : V = false := NO.out (fun e => htk e.1)
    subst RV;have e1 : (tk == 0) = false := by simpa using htk
    clear htk NO YES;go_wp2_with fail
    go_ret;exact ⟨rfl, FIN.out⟩
  subst htk;by_cases htp : tp = ⟨#[]⟩
  rotate_left
  · have RV : V = false := NO.out (fun e => htp e.2.1)
    subst RV;have e1 := ba_ne htp;clear htp NO YES;go_wp2_with fail
    go_ret;exact ⟨rfl, FIN.out⟩
  subst htp;by_cases htm : tm = 0
  rotate_left
  · have RV : V = false := NO.out (fun e => htm e.2.2.1)
    subst RV;have e1 : (tm == 0) = false := by simpa using htm
    clear htm NO YES;go_wp2_with fail
    go_ret;exact ⟨rfl, FIN.out⟩
  subst htm;by_cases htd : td = ⟨#[]⟩
  rotate_left
  · have RV : V = false := NO.out (fun e => htd e.2.2.2.1)
    subst RV;have e1 := ba_ne htd;clear htd NO YES;go_wp2_with fail
    go_ret;exact ⟨rfl, FIN.out⟩
  subst htd;by_cases htn : tn = ⟨#[]⟩
  rotate_left
  · have RV : V = false := NO.out (fun e => htn e.2.2.2.2.1)
    subst RV;have e1 := ba_ne htn;clear htn NO YES;go_wp2_with fail
    go_ret;exact ⟨rfl, FIN.out⟩
  subst htn;by_cases hn5 : n5 = 0
  rotate_left
  · have RV : V = false := NO.out (fun e => hn5 e.2.2.2.2.2.1)
    subst RV;have e1 : ((n5 : Int) == 0) = false := by simp; omega
    clear hn5 NO YES;go_wp2_with fail
    go_ret;exact ⟨rfl, FIN.out⟩
  subst hn5;by_cases hn6 : n6 = 0
  rotate_left
  · have RV : V = false := NO.out (fun e => hn6 e.2.2.2.2.2.2)
    subst RV;have e1 : ((n6 : Int) == 0) = false := by simp; omega
    clear hn6 NO YES;go_wp2_with fail
    go_ret;exact ⟨rfl, FIN.out⟩
  subst hn6;have RV : V = true := YES.out ⟨rfl, rfl, rfl, rfl, rfl, rfl, rfl⟩;subst RV;clear NO YES;go_wp2_with fail
  go_ret;exact ⟨rfl, FIN.out⟩
theorem cmayNotD_any (k : Int) (s : ByteArray) (t : Ty) (An As : Option Addr) (cA cS : Nat) (w : World) (hT : TyAt w [.int .i64 t.kind, .string t.pkg, .int .i64 t.major, .string t.mod, .string t.name, .slice An t.names.length cA, .slice As t.subs.length cS] t) (z : s.size <= 9223372036854775807) :
    Calls Tryz.prog 181 #[.agg #[.int .i64 k, .string s, .int .i64 t.kind, .string t.pkg, .int .i64 t.major, .string t.mod, .string t.name, .slice An t.names.length cA, .slice As t.subs.length cS]] w fun e w' => e = .returned (.bool (!mayD ⟨k, s, t⟩)) /\ Below w.heap.size w w' := by
  obtain ⟨_, _, _, _, -, -, -, -, h5, h6, -, -⟩ := hT.parts;obtain ⟨w0, hw0⟩ : ∃ w0, w0 = w.alloc (.cells #[.int .i64 k, .string s, .int .i64 t.kind, .string t.pkg, .int .i64 t.major, .string t.mod, .string t.name, .slice An t.names.length cA, .slice As t.subs.length cS] 191) := ⟨_, rfl⟩;have B0 : Below w.heap.size w w0 := by rw [hw0]; exact below_new (Below.refl _ _) _
  have O0 : w0.heap[w.heap.size]? = some (.cells #[.int .i64 k, .string s, .int .i64 t.kind, .string t.pkg, .int .i64 t.major, .string t.mod, .string t.name, .slice An t.names.length cA, .slice As t.subs.length cS] 191 (0, 0)) := by rw [hw0]; exact heap_alloc_new w _
  have hl0 : w.heap.size < w0.heap.size := by rw [hw0]; simp
  have HV : Hid (mayD ⟨k, s, t⟩ = if k = 1 \/ k = 2 then greatB s.data.toList && sameT t noT else if k = 3 then greatB s.data.toList && mayT t else if k = 4 then smallB s.data.toList && mayT t else false) := hZ rfl;have S0 := hZ (fun w => csmall_b s w z);have S1 := hZ (fun w => cgreat_b s w z);have HT : Hid (∀ w', Below w.heap.size w w' -> TyV w' (.agg #[.int .i64 t.kind, .string t.pkg, .int .i64 t.major, .string t.mod, .string t.name, .slice An t.names.length cA, .slice As t.subs.length cS]) t) := hZ (fun w' hb => ⟨_, rfl, hT.keep hb⟩);have SM : Hid (∀ w', Calls Tryz.prog 191 #[.agg #[.int .i64 k, .string s, .int .i64 t.kind, .string t.pkg, .int .i64 t.major, .string t.mod, .string t.name, .slice An t.names.length cA, .slice As t.subs.length cS]] w' fun e w'' => e = .returned (.bool (sameT t noT)) /\ Below w'.heap.size w' w'') := hZ (fun w' => cuntyped_any k s t An As cA cS w' h5 h6);have MY : Hid (∀ w', Below w.heap.size w w' -> Calls Tryz.prog 45 #[.agg #[.int .i64 t.kind, .string t.pkg, .int .i64 t.major, .string t.mod, .string t.name, .slice An t.names.length cA, .slice As t.subs.length cS]] w' fun e w'' => e = .returned (.bool (mayT t)) /\ Below w'.heap.size w' w'') := hZ (fun w' hb => mayK_any t _ w' (HT.out w' hb));rw [HV.out];generalize smallB s.data.toList = b0 at S0
  generalize greatB s.data.toList = b1 at S1
  generalize sameT t noT = b2 at SM
  generalize mayT t = b3 at MY
  obtain ⟨V, hV⟩ : ∃ V, (!(if k = 1 \/ k = 2 then b1 && b2 else if k = 3 then b1 && b3 else if k = 4 then b0 && b3 else false)) = V := ⟨_, rfl⟩;rw [hV];have HVV := hZ hV;clear hV;obtain ⟨y0, y1, y2, y3, y4, y5, y6, y7, y8⟩ := cq9 O0;simp at y0 y1 y2 y3 y4 y5 y6 y7 y8;have HO := hZ O0;have HB := hZ B0;have HW0 := hZ hw0;clear hw0 B0 O0 HV z hT HT h5 h6;go_enter Tryz.func181, Tryz.ntmps181
  go_upto_region 1 with fail
  rw [<- HW0.out];clear HW0;by_cases h1 : k = 1
  · subst h1
    go_wp2_with fail
    refine (S1.out _).mono ?_; rintro e w1 ⟨rfl, hb1⟩
    have O1 := (hb1.block _ hl0).trans HO.out;have HB1 := hZ (below_over HB.out hb1);clear y0 y1 y2 y3 y4 y5 y6 y7 y8;obtain ⟨y0, y1, y2, y3, y4, y5, y6, y7, y8⟩ := cq9 O1;simp at y0 y1 y2 y3 y4 y5 y6 y7 y8;clear O1 hb1 HO HB S0 S1;cases b1 with
    | false => go_wp2_with fail; go_ret; exact ⟨by rw [<- HVV.out]; simp, HB1.out⟩
    | true =>
      go_wp2_with fail
      refine (SM.out _).mono ?_; rintro e w4 ⟨rfl, hb4⟩
      have FIN := hZ (below_over HB1.out hb4);clear y0 y1 y2 y3 y4 y5 y6 y7 y8;cases b2
      all_goals (go_wp2_with fail; go_ret; exact ⟨by rw [<- HVV.out]; simp, FIN.out⟩)
  by_cases h2 : k = 2
  · subst h2
    go_wp2_with fail
    refine (S1.out _).mono ?_; rintro e w1 ⟨rfl, hb1⟩
    have O1 := (hb1.block _ hl0).trans HO.out;have HB1 := hZ (below_over HB.out hb1);clear y0 y1 y2 y3 y4 y5 y6 y7 y8;obtain ⟨y0, y1, y2, y3, y4, y5, y6, y7, y8⟩ := cq9 O1;simp at y0 y1 y2 y3 y4 y5 y6 y7 y8;clear O1 hb1 HO HB S0 S1;cases b1 with
    | false => go_wp2_with fail; go_ret; exact ⟨by rw [<- HVV.out]; simp, HB1.out⟩
    | true =>
      go_wp2_with fail
      refine (SM.out _).mono ?_; rintro e w4 ⟨rfl, hb4⟩
      have FIN := hZ (below_over HB1.out hb4);clear y0 y1 y2 y3 y4 y5 y6 y7 y8;cases b2
      all_goals (go_wp2_with fail; go_ret; exact ⟨by rw [<- HVV.out]; simp, FIN.out⟩)
  have e1 : (k == 1) = false := by simpa using h1
  have e2 : (k == 2) = false := by simpa using h2
  by_cases h3 : k = 3
  · subst h3
    clear h1 h2 e1 e2;go_wp2_with fail
    refine (S1.out _).mono ?_; rintro e w1 ⟨rfl, hb1⟩
    have O1 := (hb1.block _ hl0).trans HO.out;have HB1 := hZ (below_over HB.out hb1);clear y0 y1 y2 y3 y4 y5 y6 y7 y8;obtain ⟨y0, y1, y2, y3, y4, y5, y6, y7, y8⟩ := cq9 O1;simp at y0 y1 y2 y3 y4 y5 y6 y7 y8;clear O1 hb1 HO HB S0 S1;cases b1 with
    | false => go_wp2_with fail; go_ret; exact ⟨by rw [<- HVV.out]; simp, HB1.out⟩
    | true =>
      go_wp2_with fail
      refine (MY.out _ HB1.out).mono ?_; rintro e w4 ⟨rfl, hb4⟩
      have FIN := hZ (below_over HB1.out hb4);clear y0 y1 y2 y3 y4 y5 y6 y7 y8;cases b3
      all_goals (go_wp2_with fail; go_ret; exact ⟨by rw [<- HVV.out]; simp, FIN.out⟩)
  have e3 : (k == 3) = false := by simpa using h3
  by_cases h4 : k = 4
  · subst h4
    clear h1 h2 h3 e1 e2 e3;go_wp2_with fail
    refine (S0.out _).mono ?_; rintro e w1 ⟨rfl, hb1⟩
    have O1 := (hb1.block _ hl0).trans HO.out;have HB1 := hZ (below_over HB.out hb1);clear y0 y1 y2 y3 y4 y5 y6 y7 y8;obtain ⟨y0, y1, y2, y3, y4, y5, y6, y7, y8⟩ := cq9 O1;simp at y0 y1 y2 y3 y4 y5 y6 y7 y8;clear O1 hb1 HO HB S0 S1;cases b0 with
    | false => go_wp2_with fail; go_ret; exact ⟨by rw [<- HVV.out]; simp, HB1.out⟩
    | true =>
      go_wp2_with fail
      refine (MY.out _ HB1.out).mono ?_; rintro e w4 ⟨rfl, hb4⟩
      have FIN := hZ (below_over HB1.out hb4);clear y0 y1 y2 y3 y4 y5 y6 y7 y8;cases b3
      all_goals (go_wp2_with fail; go_ret; exact ⟨by rw [<- HVV.out]; simp, FIN.out⟩)
  have e4 : (k == 4) = false := by simpa using h4
  have RV : V = true := by rw [<- HVV.out, if_neg (by simp [h1, h2]), if_neg h3, if_neg h4]; rfl
  subst RV;clear h1 h2 h3 h4;go_wp2_with fail
  go_ret;exact ⟨rfl, HB.out⟩
end Go.Proofs.YtddlmigofilejaaGreat
