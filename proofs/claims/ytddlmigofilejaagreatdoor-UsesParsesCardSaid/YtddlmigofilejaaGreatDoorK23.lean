/-
  Several texts in one.
-/
import Derived.Test.YtddlmigofilejaaGreatDoorK22
import Derived.Deep.Quiet
set_option maxRecDepth 100000
set_option maxHeartbeats 8000000
namespace Go.Proofs.YtddlmigofilejaaGreatDoor
open Go.RowKit Go.Shelf
open Go.Sort Go.Maps
open M
attribute [local go_sem] Oper.semAt_some
theorem start7 (w : World) (c : Array Value) : ∃ (W5 : World) (b0 b1 nb : Nat), b0 = w.heap.size + 1 + 1 /\ b1 = w.heap.size + 1 + 1 + 1 /\ nb = w.heap.size + 1 + 1 + 1 + 1 /\
  W5 = ((((w.alloc (.cells c 113)).alloc (.cells #[.map none, .map none, .slice none 0 0] 247)).alloc (.map #[] 0)).alloc (.map #[] 0)).alloc (.cells #[.map (some b0), .map (some b1), .slice none 0 0] 247) /\
  Below w.heap.size w W5 /\ W5.heap[w.heap.size]? = some (.cells c 113 (0, 0)) /\ W5.heap[w.heap.size + 1]? = some (.cells #[.map none, .map none, .slice none 0 0] 247 (0, 0)) /\
  W5.heap[nb]? = some (.cells #[.map (some b0), .map (some b1), .slice none 0 0] 247 (0, 0)) /\ (∀ f, MapS W5 b0 0 (fun _ => false) f) /\ (∀ f, MapS W5 b1 0 (fun _ => false) f) /\ nb < W5.heap.size := by
 obtain ⟨w1, h1⟩ : ∃ w1, w1 = w.alloc (.cells c 113) := ⟨_, rfl⟩
 obtain ⟨w2, h2⟩ : ∃ w2, w2 = w1.alloc (.cells #[.map none, .map none, .slice none 0 0] 247) := ⟨_, rfl⟩
 obtain ⟨w3, h3⟩ : ∃ w3, w3 = w2.alloc (.map #[] 0) := ⟨_, rfl⟩
 obtain ⟨w4, h4⟩ : ∃ w4, w4 = w3.alloc (.map #[] 0) := ⟨_, rfl⟩
 have s1 : w1.heap.size = w.heap.size + 1 := by rw [h1]; simp
 have s2 : w2.heap.size = w.heap.size + 1 + 1 := by rw [h2]; simp [s1]
 have s3 : w3.heap.size = w.heap.size + 1 + 1 + 1 := by rw [h3]; simp [s2]
 have s4 : w4.heap.size = w.heap.size + 1 + 1 + 1 + 1 := by rw [h4]; simp [s3]
 refine ⟨w4.alloc (.cells #[.map (some (w.heap.size + 1 + 1)), .map (some (w.heap.size + 1 + 1 + 1)), .slice none 0 0] 247), _, _, _, rfl, rfl, rfl, by rw [h4, h3, h2, h1], ?_, ?_, ?_, ?_, ?_, ?_, by simp [s4]⟩
 ·have b1 : Below w.heap.size w w1 := by rw [h1]; exact below_new (Below.refl _ _) _
  have b2 : Below w.heap.size w w2 := by rw [h2]; exact below_new b1 _
  have b3 : Below w.heap.size w w3 := by rw [h3]; exact below_new b2 _
  have b4 : Below w.heap.size w w4 := by rw [h4]; exact below_new b3 _
  exact below_new b4 _
 ·rw [Lib.alloc_old _ _ _ (by omega), h4, Lib.alloc_old _ _ _ (by omega), h3, Lib.alloc_old _ _ _ (by omega), h2, Lib.alloc_old _ _ _ (by omega), h1]; exact heap_alloc_new w _
 ·rw [Lib.alloc_old _ _ _ (by omega), h4, Lib.alloc_old _ _ _ (by omega), h3, Lib.alloc_old _ _ _ (by omega), h2, <- s1]; exact heap_alloc_new w1 _
 ·rw [<- s4]; exact heap_alloc_new w4 _
 ·intro f
  have h := MapS.made w2 f;rw [<- h3, s2] at h;exact h.kept (by rw [Lib.alloc_old _ _ _ (by omega), h4, Lib.alloc_old _ _ _ (by omega)])
 ·intro f
  have h := MapS.made w3 f;rw [<- h4, s3] at h;exact h.kept (by rw [Lib.alloc_old _ _ _ (by omega)])
def isT (m : Mo) (s : ByteArray) {nd : Nat} (x : Fin nd) : Bool := match m.decs[x.1]? with | some d => isTyp s d | none => false
def TyS (m : Mo) (b1 : Nat) {nd : Nat} (pre : List (Fin nd)) (W : World) : Prop :=
 MapS W b1 pre.length (fun s => pre.any (isT m s)) (fun s c => ∃ y, pre.reverse.find? (isT m s) = some y /\ c = (y.1 : Int))
theorem MapS.mono {w : World} {b n n' : Nat} {p : ByteArray -> Bool} {f : ByteArray -> Int -> Prop} (h : MapS w b n p f) (hn : n <= n') : MapS w b n' p f := by
 obtain ⟨D, h1, h2, h3⟩ := h
 exact ⟨D, h1.mono hn, h2, h3⟩
theorem TyS.val {m : Mo} {b1 nd : Nat} {pre : List (Fin nd)} {x : Fin nd} {W : World} (h : TyS m b1 pre W) (hx : ∀ s, isT m s x = false) : TyS m b1 (pre ++ [x]) W := by
 refine (MapS.mono h (by simp)).of (fun s => by rw [List.any_append]; simp [hx s]) (fun s c _ hc => ?_)
 obtain ⟨y, h1, h2⟩ := hc
 exact ⟨y, by rw [List.reverse_append]; simp [hx s, h1], h2⟩
theorem TyS.typ {m : Mo} {b1 nd : Nat} {pre : List (Fin nd)} {x : Fin nd} {W' : World} {key : ByteArray} (hx : ∀ s, isT m s x = decide (key = s))
  (h : MapS W' b1 (pre.length + 1) (fun s => decide (key = s) || pre.any (isT m s)) (fun s c => if key = s then c = (x.1 : Int) else ∃ y, pre.reverse.find? (isT m s) = some y /\ c = (y.1 : Int))) : TyS m b1 (pre ++ [x]) W' := by
 have h' := h.mono (n' := (pre ++ [x]).length) (by simp)
 refine h'.of (fun s => by rw [List.any_append]; simp [hx s, Bool.or_comm]) (fun s c _ hc => ?_)
 by_cases e : key = s
 ·rw [if_pos e] at hc
  exact ⟨x, by rw [List.reverse_append]; simp [hx s, e], hc⟩
 ·rw [if_neg e] at hc
  obtain ⟨y, h1, h2⟩ := hc;exact ⟨y, by rw [List.reverse_append]; simp [hx s, e, h1], h2⟩
theorem KpB.put {n₀ Bs : Nat} {W : World} {l : Nat} {o : Obj} (h : n₀ <= l) (h' : Bs ≠ l) : KpB n₀ Bs W (W.putObj l o) := ⟨by simp, fun b hb => World.putObj_heap_other (fun e => by rcases hb with hb | hb <;> omega)⟩
theorem ret_mark1 {P : Program} {fn : Func} {R : Ending -> World -> Prop} {a : Act} {w : World} {p : Tmp} {ty : TypeId} {ds : Array Field} {vs : List Value} {b D n : Nat}
  (h : fn.results = #[.cell p ty]) (hp : a.tmps.getD p undef = .pointer (some ⟨b, 0, none⟩))
  (hty : P.underlying ty = some (.struct ds)) (hi : (P.info? ty).map (·.size) = some vs.length) (hd : a.defers = [{ target := .collected D, args := #[] }]) (hk : w.heap[D]? = some (.deferred (some [])))
  (hc : ∀ i v, vs[i]? = some v -> (w.putObj D (.deferred none)).cell? ⟨b, i, none⟩ = some v) (hR : R (.returned (.agg vs.toArray)) (w.putObj D (.deferred none))) : bodyPostM Fence.wide n P fn R .ret a w := by
 show LeavesInM Fence.wide n P fn a.tmps R a.defers .returning w
 rw [hd]
 refine ⟨by simp, .inl ⟨D, _, rfl, run_takeDeferred hk, ?_⟩⟩
 refine ⟨.agg vs.toArray, ?_, hR⟩
 rw [results_one h, hp]
 simp [asAddr, Result.andThen, run_loadVar_struct _ b ty vs ds hty hi hc]
theorem ent_info : (Tryz.prog.info? 253).map (fun i => (i.zero, i.size, i.bytes)) = some (some (.agg #[.int .i64 0, .int .i64 0, .slice none 0 0, .bool false]), 4, 48) := by kernel_rfl
theorem nats_own {w : World} {lo n c B : Nat} {A : Option Addr} {l : List Nat} (h : OwnN w lo (.slice A n c) l) (hn : n = l.length) (hB : B <= lo) : NatsAt (strike (· < B) w) A l := by
 intro i x hx
 have hi := (List.getElem?_eq_some_iff.1 hx).1
 cases A with
 | none =>
  rcases h.2 with ⟨e, h0⟩ | ⟨g, cap, cur, e, -⟩
  ·omega
  ·cases e
 | some ad =>
  have h' := h
  rcases h.2 with ⟨e, -⟩ | ⟨g, cap, cur, e, -⟩
  ·cases e
  cases e
  obtain ⟨-, -, h3, h4, h5⟩ := h'.read (sp := none);refine ⟨g, 0, rfl, by rw [strike_size]; exact h4, strike_cell.2 ⟨by omega, ?_⟩⟩;rw [Nat.zero_add];exact h5 i _ (by unfold natCells; rw [List.getElem?_map, hx]; rfl)
theorem ys_find {m : Mo} {nd : Nat} {ys : List (Fin nd)} (hy : ys.map (·.1) = downTo nd nd) (hn : nd = m.decs.length) (s : ByteArray) : (ys.reverse.find? (isT m s)).map (·.1) = typAt m s := by
 have hr : ys.reverse.map (·.1) = List.range nd := by
  rw [List.map_reverse, hy];apply List.ext_getElem
  ·simp [downTo]
  ·intro i h1 h2
   simp [downTo] at h1 h2 ⊢;omega
 let q : Nat -> Bool := fun i => match m.decs[i]? with | some d => isTyp s d | none => false
 have e1 : (ys.reverse.find? (isT m s)).map (·.1) = (List.range nd).find? q := by
  rw [<- hr, List.find?_map]; rfl
 rw [e1]
 have hq : ∀ i (h : i < m.decs.length), q i = isTyp s m.decs[i] := fun i h => by show (match m.decs[i]? with | some d => isTyp s d | none => false) = _; rw [List.getElem?_eq_getElem h]
 cases h : typAt m s with
 | none =>
  unfold typAt at h
  rw [List.findIdx?_eq_none_iff] at h;rw [List.find?_eq_none];intro i hi;have hi := List.mem_range.1 hi;rw [hq i (by omega), h _ (List.getElem_mem _)]; decide
 | some i =>
  unfold typAt at h
  rw [List.findIdx?_eq_some_iff_getElem] at h;obtain ⟨hi, h1, h2⟩ := h;rw [List.find?_range_eq_some];refine ⟨by rw [hq i hi]; exact h1, List.mem_range.2 (by omega), fun j hj => ?_⟩;rw [hq j (by omega)];have := h2 j hj
  simpa using this
theorem TyS.done {m : Mo} {b1 nd : Nat} {ys : List (Fin nd)} {W : World} (h : TyS m b1 ys W) (hy : ys.map (·.1) = downTo nd nd) (hn : nd = m.decs.length) : MapS W b1 ys.length (fun s => (typAt m s).isSome) (fun s c => typAt m s = some c.toNat /\ 0 <= c) := by
 refine MapS.of h (fun s => ?_) (fun s c _ hc => ?_)
 ·have hf := ys_find hy hn s
  have e1 : (ys.reverse.find? (isT m s)).isSome = (typAt m s).isSome := by rw [<- hf, Option.isSome_map]
  rw [<- e1];refine Bool.eq_iff_iff.2 ?_;rw [List.any_eq_true, List.find?_isSome];simp
 ·obtain ⟨y, h1, h2⟩ := hc
  rw [<- ys_find hy hn s, h1, h2];exact ⟨by simp, by omega⟩
theorem namesSize : (Tryz.prog.info? 247).map (·.size) = some 3 := by kernel_rfl
theorem namesOne {m0 m1 : Option Nat} {A : Option Addr} {n c : Nat} : (#[.map m0, .map m1, .slice A n c] : Array Value).all (·.oneCell') = true := Array.all_eq_true_iff_forall_mem.2 (fun v hv => by simp at hv; rcases hv with rfl | rfl | rfl <;> rfl)
theorem below_putO {w wk : World} (h : Below w.heap.size w wk) {D : Nat} (hD : w.heap.size <= D) (o : Obj) : Below w.heap.size w (wk.putObj D o) := ⟨h.os, h.tape, h.output, by simpa using h.size, fun b hb => (World.putObj_heap_other (fun e => by omega)).trans (h.block b hb)⟩
theorem read7_any (m : Mo) (l : List Value) (w : World) (h : MoAt w l m) (hI : m.imps.length <= 100000) (hN : m.decs.length <= 100000) (hIs : ∀ x ∈ m.imps, x.asn.size <= maxLen) (hM : ∀ d ∈ m.decs, many d.typ <= 9000 /\ d.name.size <= maxLen) :
  Calls Tryz.prog 207 #[.agg l.toArray] w fun e w' => ∃ (b0 b1 : Nat) (Ae : Option Addr) (ce : Nat), e = .returned (.agg #[.map (some b0), .map (some b1), .slice Ae (entries m).length ce]) /\ NmS w' b0 b1 m /\ RowIn enR w' Ae (entries m) /\ Below w.heap.size w w' := by
 obtain ⟨Ai, ci, Ad, cd, rfl, z1, z2, z3, hIm, hDe⟩ := h
 have hmm := @run_makeMap Tryz.prog
 obtain ⟨W5, b0, b1, nb, hb0, hb1, hnb, hW5, B5, X0, X1, XN, M0, M1, hs5⟩ := start7 w #[.string m.name, .slice Ai m.imps.length ci, .slice Ad m.decs.length cd]
 obtain ⟨ni, hni⟩ : ∃ ni, ni = m.imps.length := ⟨_, rfl⟩
 obtain ⟨nd, hnd⟩ : ∃ nd, nd = m.decs.length := ⟨_, rfl⟩
 have HNI := zH hni
 have HND := zH hnd
 rw [<- hni] at X0 hW5 hI z2
 rw [<- hnd] at X0 hW5 hN z3
 rw [<- hni, <- hnd]
 have HIm := zH hIm
 have HDe := zH hDe
 have HIs := zH hIs
 have HMd := zH hM
 have HB5 := zH B5
 have HX0 := zH X0
 have HX1 := zH X1
 have HXN := zH XN
 have HM0 := zH (M0 (fun _ _ => True))
 have HM1 := zH M1
 have HW5 := zH hW5
 have Hb0 := zH hb0
 have Hb1 := zH hb1
 have Hnb := zH hnb
 have o1 : w.heap.size + 1 < b0 := by omega
 have o2 : b0 < b1 := by omega
 have o3 : b1 < nb := by omega
 clear hIm hDe hIs hM B5 X0 X1 XN M0 M1 hW5 hb0 hb1 hnb hni hnd
 refine callsIn_wide (n := 9) |>.1 (callsIn_of_wp_marks Tryz.func207 rfl trivial ?_)
 refine wpIn_wide.2 ?_
 simp only [Tryz.ntmps207, List.size_toArray, List.length_cons, List.length_nil, Nat.reduceAdd, Nat.reduceSub, Array.replicate_succ, Array.replicate_zero, List.push_toArray, List.append_toArray, List.nil_append, List.cons_append]
 go_upto_region 2 with fail
 rw [<- Hnb.out, <- Hb1.out, <- Hb0.out, <- HW5.out]
 clear hmm HW5
 have x1 := cZ HX0.out 1
 simp at x1
 go_wp2_with fail
 clear x1
 go_loopw [18] (fun iv wr => ∃ k : Nat, k <= ni /\ iv = .int .i64 k /\ Hid (MapS wr b0 k (fun s => (m.imps.take k).any fun x => decide (x.asn = s)) (fun _ _ => True)) /\ Hid (W5.grownBy wr (some b0))) (fun iv _ => ni - (intOf iv).toNat)
 case atStart => exact ⟨0, by omega, rfl, zH (by simpa using HM0.out), zH (grown_of (Below.refl _ _))⟩
 case round =>
  obtain ⟨k, hk, rfl, HM, HG⟩ := hrel;obtain ⟨wo, rfl⟩ : ∃ wo : World, wo = wr := ⟨_, rfl⟩;by_cases hlt : k < ni
  ·obtain ⟨x, hx⟩ : ∃ x, m.imps[k]? = some x := ⟨_, List.getElem?_eq_getElem (by rw [<- HNI.out]; exact hlt)⟩
   obtain ⟨g, o, lv, rfl, hg, hcc, rfl, -⟩ := HIm.out k x hx;have hsz := HG.out.size;have mv : ∀ (b : Nat), b < W5.heap.size -> b ≠ b0 -> wo.heap[b]? = W5.heap[b]? := fun b hb hne => HG.out.block b hb (by simp; omega)
   have hcell : ∀ j v, (imL x)[j]? = some v -> wo.cell? ⟨g, o + k * 4 + j, none⟩ = some v := fun j v hj => by
    rw [World.cell?_of_block (w := w) (a := ⟨g, _, none⟩) ((mv g (by have := HB5.out.size; omega) (by omega)).trans (HB5.out.block g hg))]; exact hcc j v hj
   have a0 := hcell 0 _ rfl;have a1 := hcell 1 _ rfl;have a2 := hcell 2 _ rfl;have a3 := hcell 3 _ rfl;simp only [Nat.add_zero] at a0;obtain ⟨w6, hw6⟩ : ∃ w6, w6 = wo.alloc (.cells #[.string x.pkg, .int .i64 x.major, .string x.mod, .string x.asn] 57) := ⟨_, rfl⟩;have B6 : Below wo.heap.size wo w6 := by rw [hw6]; exact below_new (Below.refl _ _) _
   have X6 : w6.heap[wo.heap.size]? = some (.cells #[.string x.pkg, .int .i64 x.major, .string x.mod, .string x.asn] 57 (0, 0)) := by rw [hw6]; exact heap_alloc_new wo _
   have N6 := (B6.block nb (by omega)).trans ((mv nb hs5 (by omega)).trans HXN.out);obtain ⟨D, hown, hm, hks⟩ := HM.out.below B6;have hkey := Go.WideMaps.keyOf_string_mk (P := Tryz.prog) Tryz.underlying9 (HIs.out x (List.mem_of_getElem? hx));have HW6 := zH hw6;have HG6 := zH (grown_over HG.out (grown_of (r := some b0) B6));have HX := zH hx;have hkm : k < maxLen := by unfold maxLen; omega
   have wf := WalkArith.wf_i64 (n := (k : Int)) (by omega);clear hcc hcell hx B6 hw6 hg mv;go_upto_region 5 with fail
   rw [<- HW6.out];clear a0 a1 a2 a3;have y3 := cZ X6 3;have n0 := cZ N6 0;simp at y3 n0;clear X6 N6;go_wp2_with (at_mapUpdate; refine wpList_mapUpdate_own _ rfl _ _ _ 244 rfl 9 3 lawStr Tryz.underlying244 _ b0 k D rfl hown hkm _ _ _ rfl rfl hkey _ [] (plainElem_int Tryz.underlying3 wf) ?_; intro w7 hown7 hgrow7)
   have M7 : Hid (MapS w7 b0 (k + 1) (fun s => (m.imps.take (k + 1)).any fun x => decide (x.asn = s)) (fun _ _ => True)) := zH ((MapS.put hm hks hown7).of (fun s => by rw [any_snoc _ _ _ _ HX.out, Bool.or_comm]) (fun _ _ _ _ => trivial));have HG7 := zH (grown_over HG6.out hgrow7);clear hown7 hgrow7 hown hm hks hkey y3 n0;go_wp2_with fail
   go_roundw
   case rel => exact ⟨k + 1, by omega, by go_num, M7, HG7⟩
   case measure => simp [intOf]; omega
  ·obtain rfl : k = ni := by omega
   have HM2 : Hid (MapS wo b0 k (impHas m) (fun _ _ => True)) := zH (HM.out.of (fun s => by rw [List.take_of_length_le (by rw [<- HNI.out]; exact Nat.le_refl _)]; rfl) (fun _ _ _ _ => trivial));have Y0 := (HG.out.block w.heap.size (by omega) (by simp; omega)).trans HX0.out;have x2 := cZ Y0 2;simp at x2;clear Y0;go_wp2_with fail
   refine (backward_any Ad nd cd wo).mono ?_; rintro e W7 ⟨rfl, hW7⟩
   have B7 : Below wo.heap.size wo W7 := by rw [hW7]; exact below_new (Below.refl _ _) _
   have X7 : W7.heap[wo.heap.size]? = some (.cells #[.slice Ad nd cd] 111 (0, 0)) := by rw [hW7]; exact heap_alloc_new wo _
   have hs7 : wo.heap.size < W7.heap.size := by rw [hW7]; simp
   have HW7 := zH hW7;have G7 : W5.grownBy W7 (some b0) := grown_over HG.out (grown_of B7);have hsw := HG.out.size;have hw5 := HB5.out.size;have low7 : ∀ b, b < w.heap.size -> W7.heap[b]? = w.heap[b]? := fun b hb => (G7.block b (by omega) (by simp; omega)).trans (HB5.out.block b hb)
   have hall : ∀ i, ∃ c : Array Value, i < nd -> ∃ (x : De) (g o : Nat) (An : Option Addr) (cA : Nat) (As : Option Addr) (cS : Nat), m.decs[i]? = some x /\ Ad = some ⟨g, o, none⟩ /\ g < w.heap.size /\ c = #[.int .i64 x.kind, .string x.name, .int .i64 x.typ.kind, .string x.typ.pkg, .int .i64 x.typ.major, .string x.typ.mod, .string x.typ.name, .slice An x.typ.names.length cA, .slice As x.typ.subs.length cS] /\
     (∀ j v, c[j]? = some v -> w.cell? ⟨g, o + i * 9 + j, none⟩ = some v) := by
    intro i;by_cases hi : i < nd
    ·obtain ⟨x, hx⟩ : ∃ x, m.decs[i]? = some x := ⟨_, List.getElem?_eq_getElem (by rw [<- HND.out]; exact hi)⟩
     obtain ⟨g, o, lv, hA, hg, hc, -, l7, rfl, hT⟩ := HDe.out i x hx;obtain ⟨An, cA, As, cS, rfl, -⟩ := hT.parts;exact ⟨#[.int .i64 x.kind, .string x.name, .int .i64 x.typ.kind, .string x.typ.pkg, .int .i64 x.typ.major, .string x.typ.mod, .string x.typ.name, .slice An x.typ.names.length cA, .slice As x.typ.subs.length cS], fun _ => ⟨x, g, o, An, cA, As, cS, hx, hA, hg, rfl, fun j v hj => hc j v (by rw [<- List.getElem?_toArray]; exact hj)⟩⟩
    ·exact ⟨#[], fun h => absurd h hi⟩
   obtain ⟨V, hV⟩ := Classical.axiomOfChoice hall
   obtain ⟨g, o, hAg⟩ : ∃ g o, 0 < nd -> Ad = some ⟨g, o, none⟩ /\ g < w.heap.size := by
    by_cases h0 : 0 < nd
    ·obtain ⟨x, g, o, -, -, -, -, -, hA, hg, -⟩ := hV 0 h0
     exact ⟨g, o, fun _ => ⟨hA, hg⟩⟩
    ·exact ⟨0, 0, fun h => absurd h h0⟩
   have STOP := back_stops 4 wo.heap.size w.heap.size g o nd cd Ad (fun h => (hAg h).1) V (by omega) (fun h => (hAg h).2) (by omega)
    (fun i hi => by
     obtain ⟨x, g', o', An, cA, As, cS, -, -, -, hv, -⟩ := hV i hi;exact ⟨_, _, _, _, _, _, _, _, _, hv, rfl, rfl⟩) W7 (by omega) (cZ X7 0)
    (fun i hi j v hj => by
     obtain ⟨x, g', o', An, cA, As, cS, -, hA, hg', -, hc⟩ := hV i hi;have h2 := (hAg (by omega)).1;rw [hA] at h2;cases h2
     rw [World.cell?_of_block (w := w) (a := ⟨g, _, none⟩) (low7 g hg')]; exact hc j v hj)
   have N7 := (G7.block nb (by omega) (by simp; omega)).trans HXN.out;have T0 : TyS m b1 ([] : List (Fin nd)) W7 := ((HM1.out _).kept (G7.block b1 (by omega) (by simp; omega)));have HV := zH hV;have HN7 := zH N7;clear x2 hall hV N7 X7 hW7 B7;go_wp2_with fail
   refine wpIn_wide (n := 5) |>.1 ?_
   refine wpIn_rangeFunc_ownH (F := Fence.wide) rfl (by omega) (gf := 262) (lb := #[.pointer (some ⟨wo.heap.size, 0, none⟩)]) rfl trivial (enters_of Tryz.func262 (by kernel_rfl) rfl)
    STOP (fun h h' => h.trans h') (fun W l o o' hl _ _ _ => KpB.put (by omega) (by omega)) (Below.refl _ _) (fun _ => rfl)
    (fun pre W => W7.grownBy W (some b1) /\ TyS m b1 pre W) (fun _ _ _ => False) ?hI ?hIx ⟨grown_of (Below.refl _ _), T0⟩
    (fun x a' W => ∃ B, W7.heap.size <= B /\ W.heap[B]? = some (.cells (V x.1) 171 (0, 0)) /\ a' = { tmps := #[.agg #[.string m.name, .slice Ai k ci, .slice Ad nd cd], .pointer (some ⟨w.heap.size, 0, none⟩), .pointer (some ⟨w.heap.size + 1, 0, none⟩), .pointer (some ⟨nb, 0, none⟩), u4, u5, .int .i64 (x.1 : Int), .pointer (some ⟨B, 0, none⟩), undef, undef, undef, undef, .map (some b0), .map (some b1), .agg #[.map (some b0), .map (some b1), .slice none 0 0], .pointer (some ⟨w.heap.size, 1, none⟩), .slice Ai k ci, .int .i64 (k : Int), .int .i64 (k : Int), .bool false, u20, u21, u22, u23, u24, u25, u26, u27, u28, .pointer (some ⟨w.heap.size, 2, none⟩), .slice Ad nd cd, .func (.func 262) #[] #[.pointer (some ⟨wo.heap.size, 0, none⟩)], .int .i64 (x.1 : Int), .agg (V x.1), undef, undef, undef, undef, undef, undef, undef, undef, undef, undef, undef, undef, undef, undef, undef, undef, undef, undef, undef, undef, undef, undef, undef, undef, undef, undef, undef, undef, undef, undef, undef, undef, undef, undef, undef, undef], defers := [] }) ?hAx ?assign ?body ?done ?stop
   case hI =>
    rintro s W W' row ⟨h1, h2⟩ hg hr;have hne : ∀ b, b < W7.heap.size -> some b ≠ row := fun b hb e => by have := (hr b e.symm).1; omega
    exact ⟨⟨hg.os.trans h1.os, hg.tape.trans h1.tape, hg.output.trans h1.output, Nat.le_trans h1.size hg.size, fun b hb hb1 => (hg.block b (by have := h1.size; omega) (hne b hb)).trans (h1.block b hb hb1)⟩, h2.kept (hg.block b1 (by have := h1.size; omega) (hne b1 (by omega)))⟩
   case hIx => intro c s W W' row hs _ _; exact hs
   case hAx =>
    rintro x a' s W W' row ⟨B, hB, hc, ha⟩ hg hr;refine ⟨B, hB, (hg.block B (Array.getElem?_eq_some_iff.1 hc).1 (fun e => ?_)).trans hc, ha⟩;obtain ⟨-, o, ho, hoc⟩ := hr B e.symm;rw [hc] at ho;cases ho
    cases hoc
   case assign =>
    rintro l pre x W K ⟨h1, h2⟩ hK;obtain ⟨d, g', o', An, cA, As, cS, -, -, -, hv, -⟩ := HV.out x.1 x.2;have hsW := h1.size;have HA : Hid (W.alloc (.cells (V x.1) 171) = W.alloc (.cells #[.int .i64 d.kind, .string d.name, .int .i64 d.typ.kind, .string d.typ.pkg, .int .i64 d.typ.major, .string d.typ.mod, .string d.typ.name, .slice An d.typ.names.length cA, .slice As d.typ.subs.length cS] 171)) := zH (by rw [hv]);have old : ∀ b, b < W.heap.size -> (W.alloc (.cells #[.int .i64 d.kind, .string d.name, .int .i64 d.typ.kind, .string d.typ.pkg, .int .i64 d.typ.major, .string d.typ.mod, .string d.typ.name, .slice An d.typ.names.length cA, .slice As d.typ.subs.length cS] 171)).heap[b]? = W.heap[b]? := fun b hb => Lib.alloc_old _ _ _ hb
    have P1 : Hid (KeepsFrom W7.heap.size W (W.alloc (.cells #[.int .i64 d.kind, .string d.name, .int .i64 d.typ.kind, .string d.typ.pkg, .int .i64 d.typ.major, .string d.typ.mod, .string d.typ.name, .slice An d.typ.names.length cA, .slice As d.typ.subs.length cS] 171))) := zH ((KeepsOthers.alloc _ _).from _);have P2 : Hid (KpB w.heap.size wo.heap.size W (W.alloc (.cells #[.int .i64 d.kind, .string d.name, .int .i64 d.typ.kind, .string d.typ.pkg, .int .i64 d.typ.major, .string d.typ.mod, .string d.typ.name, .slice An d.typ.names.length cA, .slice As d.typ.subs.length cS] 171))) := zH ⟨by simp, fun b hb => old b (by rcases hb with hb | hb <;> omega)⟩;have P3 : Hid (W7.grownBy (W.alloc (.cells #[.int .i64 d.kind, .string d.name, .int .i64 d.typ.kind, .string d.typ.pkg, .int .i64 d.typ.major, .string d.typ.mod, .string d.typ.name, .slice An d.typ.names.length cA, .slice As d.typ.subs.length cS] 171)) (some b1) /\ TyS m b1 pre (W.alloc (.cells #[.int .i64 d.kind, .string d.name, .int .i64 d.typ.kind, .string d.typ.pkg, .int .i64 d.typ.major, .string d.typ.mod, .string d.typ.name, .slice An d.typ.names.length cA, .slice As d.typ.subs.length cS] 171))) := zH ⟨grown_over h1 (grown_of (below_new (Below.refl _ _) _)), h2.kept (old b1 (by omega))⟩;have P4 : Hid ((W.alloc (.cells #[.int .i64 d.kind, .string d.name, .int .i64 d.typ.kind, .string d.typ.pkg, .int .i64 d.typ.major, .string d.typ.mod, .string d.typ.name, .slice An d.typ.names.length cA, .slice As d.typ.subs.length cS] 171)).heap[W.heap.size]? = some (.cells (V x.1) 171 (0, 0))) := zH (by rw [hv]; exact heap_alloc_new W _);rw [hv];clear h1 h2 old;gi_wp2
    exact hK _ _ P1.out P2.out P3.out ⟨W.heap.size, hsW, P4.out, by rw [hv]⟩
   case body =>
    rintro l pre x a' W hl ⟨r, hr⟩ ⟨h1, h2⟩ ⟨B, hB, hc, rfl⟩ hlt;obtain ⟨d, g', o', An, cA, As, cS, hd, -, -, hv, -⟩ := HV.out x.1 x.2;rw [hv] at hc;have hsW := h1.size;obtain ⟨k0, k1⟩ := cq2 hc;simp at k0 k1;have N1 := cZ ((h1.block nb (by omega) (by simp; omega)).trans HN7.out) 1;simp at N1;by_cases hk4 : d.kind = 4
    ·have q4 : (d.kind == 4) = true := by rw [hk4]; rfl
     have q5 : (d.kind != 4) = false := by rw [hk4]; rfl
     have FIN : Hid (TyS m b1 (pre ++ [x]) W) := zH (h2.val fun s => by unfold isT; rw [hd]; simp [isTyp, hk4]);have HG1 := zH h1;clear hk4 h1 h2 hc hv hd;gi_wp2
     exact ⟨KeepsFrom.refl _ _, KpB.refl _ _ _, HG1.out, FIN.out⟩
    ·have q4 : (d.kind == 4) = false := by simpa using hk4
     have q5 : (d.kind != 4) = true := by simpa using hk4
     obtain ⟨D, hown, hm, hks⟩ := h2;have hkey := Go.WideMaps.keyOf_string_mk (P := Tryz.prog) Tryz.underlying9 (HMd.out d (List.mem_of_getElem? hd)).2;have hkm : pre.length < maxLen := by unfold maxLen; omega
     have hx2 := x.2;have wf := WalkArith.wf_i64 (n := (x.1 : Int)) (by omega);have HT : Hid (∀ s, isT m s x = decide (d.name = s)) := zH (fun s => by unfold isT; rw [hd]; simp [isTyp, hk4]);have HG1 := zH h1;clear hk4 h1 hc hv hd;gi_wp2_with (gi_at_mapUpdate; refine wpListIn_mapUpdate_own _ rfl _ _ _ 244 rfl 9 3 lawStr Tryz.underlying244 _ b1 pre.length D rfl hown hkm _ _ _ rfl rfl hkey _ [] (plainElem_int Tryz.underlying3 wf) ?_; intro w1 hown1 hgrow1)
     exact ⟨KeepsFrom.of_grownBy hgrow1 (fun j e => by cases e; omega), ⟨hgrow1.size, fun b hb => hgrow1.block b (by rcases hb with hb | hb <;> omega) (by simp; rcases hb with hb | hb <;> omega)⟩,
      grown_over HG1.out hgrow1, TyS.typ HT.out (MapS.put hm hks hown1)⟩
   case done =>
    rintro D ys W hD hS ⟨h1, h2⟩ hK;have HG1 := zH h1;have HT2 := zH h2;have HKD := zH hK;have HSS := zH hS;clear h1 h2 hK hS;have hsW := HG1.out.size;have lowW : ∀ b, b < w.heap.size -> W.heap[b]? = w.heap[b]? := fun b hb => (HG1.out.block b (by omega) (by simp; omega)).trans (low7 b hb)
    have G5W : ∀ b, b < W5.heap.size -> b ≠ b0 -> b ≠ b1 -> W.heap[b]? = W5.heap[b]? := fun b hb h0 h1 => (HG1.out.block b (by omega) (by simp; omega)).trans (G7.block b hb (by simp; omega))
    have HNM : Hid (NmS W b0 b1 m) := zH ⟨⟨_, HM2.out.kept ((HG1.out.block b0 (by omega) (by simp; omega)).trans ((grown_of (r := none) (show Below wo.heap.size wo W7 by rw [HW7.out]; exact below_new (Below.refl _ _) _)).block b0 (by omega) (by simp)))⟩, ⟨_, HT2.out.done HSS.out HND.out⟩⟩;have HXm : Hid (W.heap[w.heap.size]? = some (.cells #[.string m.name, .slice Ai k ci, .slice Ad nd cd] 113 (0, 0))) := zH ((G5W w.heap.size (by omega) (by omega) (by omega)).trans HX0.out);have HXr : Hid (W.heap[w.heap.size + 1]? = some (.cells #[.map none, .map none, .slice none 0 0] 247 (0, 0))) := zH ((G5W (w.heap.size + 1) (by omega) (by omega) (by omega)).trans HX1.out);have HXn : Hid (W.heap[nb]? = some (.cells #[.map (some b0), .map (some b1), .slice none 0 0] 247 (0, 0))) := zH ((G5W nb (by omega) (by omega) (by omega)).trans HXN.out);have HLW : Hid (Below w.heap.size w W) := zH ⟨HG1.out.os.trans (G7.os.trans HB5.out.os), HG1.out.tape.trans (G7.tape.trans HB5.out.tape), HG1.out.output.trans (G7.output.trans HB5.out.output), by omega, lowW⟩;have hDW : D < W.heap.size := (Array.getElem?_eq_some_iff.1 HKD.out).1;have hDn : nb < D := by omega
    have hbW : w.heap.size + 1 < W.heap.size := by omega
    have hnW : nb < W.heap.size := by omega
    have hb0W : b0 < W.heap.size := by omega
    clear lowW G5W STOP T0 HG1 HT2 HSS HM1 HM2 HM0 HX0 HX1 HXN HN7 HV HW7 G7 low7 hAg;have x2 := cZ HXm.out 2;simp at x2;go_wp2_with fail
    clear x2;go_loopw [45] (fun iv wr => ∃ (xs : List En) (Ae : Option Addr) (ce : Nat), xs.length <= nd /\ iv = .int .i64 xs.length /\ Hid (xs = (entries m).take xs.length) /\ Hid (Row enR W.heap.size xs Ae ce wr) /\ Hid (wr.heap[nb]? = some (.cells #[.map (some b0), .map (some b1), .slice Ae xs.length ce] 247 (0, 0))) /\ Hid (W.grownBy wr (some nb))) (fun iv _ => nd - (intOf iv).toNat)
    case atStart => exact ⟨[], none, 0, by simp, rfl, zH (by simp), zH (Row.start enR _ _), HXn, zH (grown_of (Below.refl _ _))⟩
    case round =>
     obtain ⟨xs, Ae, ce, hj, rfl, HXS, HROW, HBX, HGR⟩ := hrel;obtain ⟨wx, rfl⟩ : ∃ wx : World, wx = wr := ⟨_, rfl⟩;have hsx := HGR.out.size;by_cases hlt : xs.length < nd
     ·obtain ⟨d, hd⟩ : ∃ d, m.decs[xs.length]? = some d := ⟨_, List.getElem?_eq_getElem (by rw [<- HND.out]; exact hlt)⟩
      have HBw : Hid (Below w.heap.size w wx) := zH (HLW.out.trans ⟨HGR.out.os, HGR.out.tape, HGR.out.output, HGR.out.size, fun b hb => HGR.out.block b (by omega) (by simp; omega)⟩);obtain ⟨g, o, v0, v1, v2, v3, v4, v5, v6, hAd, hg, a0, a1, u0, u1, u2, u3, u4', u5', u6, us, zs⟩ := RowIn.de (HDe.out.below HBw.out) hd;subst hAd;obtain ⟨Bn, cB, Bs, dB, ev, -⟩ := us.parts;simp only [List.cons.injEq, and_true] at ev;obtain ⟨rfl, rfl, rfl, rfl, rfl, rfl, rfl⟩ := ev;obtain ⟨w3, hw3⟩ : ∃ w3, w3 = wx.alloc (.cells #[.int .i64 d.kind, .string d.name, .int .i64 d.typ.kind, .string d.typ.pkg, .int .i64 d.typ.major, .string d.typ.mod, .string d.typ.name, .slice Bn d.typ.names.length cB, .slice Bs d.typ.subs.length dB] 171) := ⟨_, rfl⟩;have B3 : Below wx.heap.size wx w3 := by rw [hw3]; exact below_new (Below.refl _ _) _
      have X3 : w3.heap[wx.heap.size]? = some (.cells #[.int .i64 d.kind, .string d.name, .int .i64 d.typ.kind, .string d.typ.pkg, .int .i64 d.typ.major, .string d.typ.mod, .string d.typ.name, .slice Bn d.typ.names.length cB, .slice Bs d.typ.subs.length dB] 171 (0, 0)) := by rw [hw3]; exact heap_alloc_new wx _
      have hs3 : wx.heap.size < w3.heap.size := by rw [hw3]; simp
      have NM3 : NmS w3 b0 b1 m := by
       obtain ⟨⟨n0, h0⟩, ⟨n1, h1⟩⟩ := HNM.out;exact ⟨⟨n0, h0.kept ((B3.block b0 (by omega)).trans (HGR.out.block b0 hb0W (by simp; omega)))⟩, ⟨n1, h1.kept ((B3.block b1 (by omega)).trans (HGR.out.block b1 (by omega) (by simp; omega)))⟩⟩
      have SD := zH (said_any m b0 b1 Ae xs.length ce (many d.typ) d.typ (Nat.le_refl _) (HMd.out d (List.mem_of_getElem? hd)).1 (.agg #[.int .i64 d.typ.kind, .string d.typ.pkg, .int .i64 d.typ.major, .string d.typ.mod, .string d.typ.name, .slice Bn d.typ.names.length cB, .slice Bs d.typ.subs.length dB]) w3 NM3 (TyV.below ⟨_, rfl, us⟩ B3));have N3 := (B3.block nb (by omega)).trans HBX.out;have HX3 := zH X3;have HN3 := zH N3;have HROW3 := zH (HROW.out.keep (w' := w3) B3.size (fun b _ h => B3.block b h));have HG3 := zH (grown_over HGR.out (grown_of (r := some nb) B3));have HW3 := zH hw3;have HDD := zH hd;have HSL : Hid ((saidT m d.typ).length <= 9000) := zH (Nat.le_trans (said_len m (many d.typ) d.typ (Nat.le_refl _)) (HMd.out d (List.mem_of_getElem? hd)).1);have hsz3 : wx.heap.size <= w3.heap.size := B3.size;clear us hd B3 hw3 NM3 zs;have xm2 := cZ ((HGR.out.block w.heap.size (by omega) (by simp; omega)).trans HXm.out) 2;go_upto_region 15 with fail
      rw [<- HW3.out];clear a0 a1 u0 u1 u2 u3 u4' u5' u6 xm2;obtain ⟨n0, n1, n2⟩ := cq3 N3;obtain ⟨y0, y1, y2, y3, y4, y5, y6, y7, y8⟩ := cq9 X3;simp at n0 n1 n2 y0 y1 y2 y3 y4 y5 y6 y7 y8;clear N3 X3;go_wp2_with fail
      refine SD.out.mono ?_; rintro e w4 ⟨v', rfl, ho4, hb4⟩
      obtain ⟨Ap, cp, rfl⟩ := own_slice ho4;have hs4 := hb4.size;have X4 := (hb4.block wx.heap.size hs3).trans HX3.out;have N4 := (hb4.block nb (by omega)).trans HN3.out;have q0 := cZ X4 0;have n2 := cZ N4 2;simp at q0 n2;have ROW4 := HROW3.out.keep (w' := w4) hs4 (fun b _ h => hb4.block b h);obtain ⟨C, hC1, hown, hC4⟩ := ROW4.cells;obtain ⟨inf, hi1', hy0, hy1, hy2⟩ := info_parts ent_info;have hMX : xs.length + 1 <= maxLen := by unfold maxLen; omega
      have hwo : ∀ b, (Value.slice Ae xs.length ce).ownBlock = some b -> b < w3.heap.size := fun b e => (HROW3.out.lt e).2
      have hAL : ∀ oo, W.heap.size <= (w4.alloc oo).heap.size := fun oo => by have e1 : (w4.alloc oo).heap.size = w4.heap.size + 1 := (by simp); omega
      have HNA : Hid (enE (strike (· < w3.heap.size) w4) [.int .i64 xs.length, .int .i64 d.kind, .slice Ap (saidT m d.typ).length cp, .bool (wholeT m d.typ)] ⟨xs.length, d.kind, saidT m d.typ, wholeT m d.typ⟩) := zH ⟨Ap, cp, rfl, nats_own ho4 rfl (Nat.le_refl _), Nat.le_trans HSL.out (by decide)⟩;have HG4 : Hid (∀ b, b < W.heap.size -> b ≠ nb -> w4.heap[b]? = W.heap[b]?) := zH fun b hb hne => (hb4.block b (by omega)).trans (HG3.out.block b hb (by simp; omega))
      have HO4 : Hid (w4.os = W.os /\ w4.tape = W.tape /\ w4.output = W.output) := zH ⟨hb4.os.trans HG3.out.os, hb4.tape.trans HG3.out.tape, hb4.output.trans HG3.out.output⟩;have HN4 := zH N4;clear ho4 hb4 X4 N4 SD n0 n1 y0 y1 y2 y3 y4 y5 y6 y7 y8;go_wp2_with (first | (refine wpList_append_lies _ rfl (.tmp 58) (.tmp 65) 245 rfl W.heap.size 253 inf _ 4 48 Tryz.underlying245 hi1' hy0 hy1 hy2 (by rfl) (Nat.zero_lt_succ 3) (.slice Ae xs.length ce) xs.length _ rfl (hown.alloc _) ⟨w4.heap.size, 0, none⟩ 1 1 [.int .i64 xs.length, .int .i64 d.kind, .slice Ap (saidT m d.typ).length cp, .bool (wholeT m d.typ)] rfl rfl (fun q u hq => by rw [WideShapes.add_plain, Nat.zero_add, cZ (heap_alloc_new w4 _), <- hq, <- List.getElem?_toArray]) (fun u hu => by simp at hu; rcases hu with rfl | rfl | rfl | rfl <;> rfl) Nat.one_pos hMX (by omega) (hAL _) _ rfl ?_; intro gb cap w5 hown5 hgrow hat hlt5; obtain ⟨ROW9, Y9, old9, bel9, z9, e9, hs9⟩ := row_more (R := enR) (x := ⟨xs.length, d.kind, saidT m d.typ, wholeT m d.typ⟩) (k := 2) ROW4 (B := w3.heap.size) (by omega) hs4 hwo hC1 hC4 HNA.out hown5 hgrow hat (by omega) HN4.out rfl; clear hown5 hgrow hat hlt5))
      have hlen9 : (xs ++ [(⟨xs.length, d.kind, saidT m d.typ, wholeT m d.typ⟩ : En)]).length = xs.length + 1 := by simp
      have XS9 : Hid (xs ++ [(⟨xs.length, d.kind, saidT m d.typ, wholeT m d.typ⟩ : En)] = (entries m).take (xs ++ [(⟨xs.length, d.kind, saidT m d.typ, wholeT m d.typ⟩ : En)]).length) := zH (by rw [hlen9, List.take_add_one, entries_at HDD.out, <- HXS.out]; rfl);have HR9 : Hid (Row enR W.heap.size (xs ++ [(⟨xs.length, d.kind, saidT m d.typ, wholeT m d.typ⟩ : En)]) (some ⟨gb, 0, none⟩) cap (w5.setCell ⟨nb, 2, none⟩ (.slice (some ⟨gb, 0, none⟩) (xs.length + 1) cap))) := zH ROW9;have HY9 : Hid ((w5.setCell ⟨nb, 2, none⟩ (.slice (some ⟨gb, 0, none⟩) (xs.length + 1) cap)).heap[nb]? = some (.cells #[.map (some b0), .map (some b1), .slice (some ⟨gb, 0, none⟩) (xs ++ [(⟨xs.length, d.kind, saidT m d.typ, wholeT m d.typ⟩ : En)]).length cap] 247 (0, 0))) := zH (by rw [hlen9]; exact Y9)
      have HG9 : Hid (W.grownBy (w5.setCell ⟨nb, 2, none⟩ (.slice (some ⟨gb, 0, none⟩) (xs.length + 1) cap)) (some nb)) := zH (by
       have bb := bel9 nb (Nat.le_refl _);exact ⟨bb.os.trans HO4.out.1, bb.tape.trans HO4.out.2.1, bb.output.trans HO4.out.2.2, by omega, fun b hb hne => (old9 b hb (by simp at hne; omega)).trans (HG4.out b hb (by simp at hne; omega))⟩)
      clear ROW9 Y9 old9 bel9 z9 e9 hs9 hC1 hown hC4 hi1' hy0 hy1 hy2 hMX hwo hAL;go_wp2_with fail
      go_roundw
      case rel => exact ⟨_, some ⟨gb, 0, none⟩, cap, by omega, by rw [hlen9]; go_num, XS9, HR9, HY9, HG9⟩
      case measure => simp [intOf]; omega
     ·have hxs : xs = entries m := by
       have h := HXS.out;rw [h, List.take_of_length_le (by rw [entries_len, <- HND.out]; omega)]
      have hel : xs.length = nd := by omega
      obtain ⟨y0, y1, y2⟩ := cq3 HBX.out;simp at y0 y1 y2;have X9 : wx.heap[w.heap.size + 1]? = some (.cells #[.map none, .map none, .slice none 0 0] 247 (0, 0)) := (HGR.out.block _ hbW (by simp; omega)).trans HXr.out;have mv : ∀ b, b ≠ w.heap.size + 1 -> b ≠ D -> ((wx.setRow (w.heap.size + 1) #[.map (some b0), .map (some b1), .slice Ae xs.length ce]).putObj D (.deferred none)).heap[b]? = wx.heap[b]? := fun b hb hD' => (World.putObj_heap_other (fun e => by omega)).trans (setRow_other wx (w.heap.size + 1) b _ hb)
      have FNM : Hid (NmS ((wx.setRow (w.heap.size + 1) #[.map (some b0), .map (some b1), .slice Ae xs.length ce]).putObj D (.deferred none)) b0 b1 m) := zH (by
       obtain ⟨⟨n0, h0⟩, ⟨n1, h1⟩⟩ := HNM.out;exact ⟨⟨n0, h0.kept ((mv b0 (by omega) (by omega)).trans (HGR.out.block b0 hb0W (by simp; omega)))⟩, ⟨n1, h1.kept ((mv b1 (by omega) (by omega)).trans (HGR.out.block b1 (by omega) (by simp; omega)))⟩⟩)
      have FROW : Hid (RowIn enR ((wx.setRow (w.heap.size + 1) #[.map (some b0), .map (some b1), .slice Ae xs.length ce]).putObj D (.deferred none)) Ae xs) := zH
       ((HROW.out.done (Nat.le_refl _)).move (S' := fun b => b < W.heap.size) (by simp) fun b hb hS => ⟨hS, mv b (fun e => hS (by omega)) (fun e => hS (by omega))⟩).free
      have FB : Hid (Below w.heap.size w ((wx.setRow (w.heap.size + 1) #[.map (some b0), .map (some b1), .slice Ae xs.length ce]).putObj D (.deferred none))) := zH (below_putO (setRow_below (HLW.out.trans ⟨HGR.out.os, HGR.out.tape, HGR.out.output, HGR.out.size, fun b hb => HGR.out.block b (by omega) (by simp; omega)⟩) (by omega) _) (by omega) _);have HD9 : Hid ((wx.setRow (w.heap.size + 1) #[.map (some b0), .map (some b1), .slice Ae xs.length ce]).heap[D]? = some (.deferred (some []))) := zH ((setRow_other wx (w.heap.size + 1) D _ (by omega)).trans ((HGR.out.block D hDW (by simp; omega)).trans HKD.out));have HX9 := zH X9;have HXX := zH hxs;have HPO : Hid (((wx.setRow (w.heap.size + 1) #[.map (some b0), .map (some b1), .slice Ae xs.length ce]).putObj D (.deferred none)).heap[w.heap.size + 1]? = (wx.setRow (w.heap.size + 1) #[.map (some b0), .map (some b1), .slice Ae xs.length ce]).heap[w.heap.size + 1]?) := zH (World.putObj_heap_other (fun e => by omega));clear mv hxs;go_upto_region 18 with fail
      go_wp2_with (first | ((with_reducible refine wpList_putRow 247 (w.heap.size + 1) #[.map (some b0), .map (some b1), .slice Ae xs.length ce] _ _ X9 ?_ ?_ ?_ ?_ ?_ ?_); exact namesSize; rfl; exact namesOne; iterate 2 (focus (first | (go_simp; done) | rfl))))
      refine ret_mark1 (fn := Tryz.f207) (vs := [.map (some b0), .map (some b1), .slice Ae xs.length ce]) (b := w.heap.size + 1) (D := D) rfl rfl Tryz.underlying247 (by kernel_rfl) rfl HD9.out ?_ ⟨b0, b1, Ae, ce, by rw [<- HXX.out], FNM.out, by rw [<- HXX.out]; exact FROW.out, FB.out⟩;exact cell3 (HPO.out.trans (setRow_heap _ (w.heap.size + 1) _ _ _ _ HX9.out))
   case stop =>
    rintro D c pre W _ _ h _;exact h.elim
end Go.Proofs.YtddlmigofilejaaGreatDoor
namespace Go.Proofs.YtddlmigofilejaaGreatDoor
open Go Go.RowKit
section
variable {P : Program} {ops : Array Oper} {C : World -> Prop}
theorem any_x {md : Region.Mode} {Q : Exit -> Act -> World -> Prop} : ∀ (k : Nat) {listed : Array Bool} {a : Act} {w : World}, wpAny P md ops Q k listed a w -> AnyX P md ops Q (fun _ => True) (fun _ => false) k listed a w
 | 0, _, _, _, h => h
 | k + 1, _, _, _, h => ⟨h.1, fun i hi => wpOp_mono (fun _ _ hx => ⟨fun _ _ => trivial, any_x k hx⟩) (h.2 i hi)⟩
theorem back_spec (hb : backward ops = true) {i : Nat} {o : Oper} (ho : ops[i]? = some o) {e : Edge} (he : e ∈ o.after) (hbe : Region.binds .any e = true) : e.on < i := by
 have h1 := (List.all_eq_true.1 hb) i (List.mem_range.2 (Array.getElem?_eq_some_iff.1 ho).1)
 rw [ho] at h1
 simp only [Option.map_some, Option.getD_some] at h1
 have h2 := (Array.all_eq_true_iff_forall_mem.1 h1) e he
 rw [hbe] at h2
 simpa using h2
theorem getD_set_self {l : Array Bool} {i : Nat} (h : i < l.size) (d : Bool) : (l.setIfInBounds i true).getD i d = true := by simp [h]
theorem any_head {ops' : Array Oper} {Q : Exit -> Act -> World -> Prop} {Q' : Act -> Prop} {s r : Nat} {Le : Array Bool}
  (hs : ops'.size = s) (hso : s <= ops.size) (hops : ∀ i, i < s -> ops[i]? = ops'[i]?) (hb : backward ops' = true) (hg : ∀ (i : Nat) (o : Oper), ops'[i]? = some o -> o.guard = none)
  (hw : ∀ i j, i < s -> s <= j -> Le.getD j true = false -> Waits .any ops i j)
  (hLe : Le.size = ops.size) (hLt : ∀ i, i < s -> Le.getD i false = true) (hQ : ∀ a w k, C w -> Q' a -> wpAny P .any ops Q (k + r) Le a w) :
  ∀ (fuel : Nat) (l L : Array Bool) (a : Act) (w : World), l.size = s -> L.size = ops.size -> (∀ i, i < s -> L.getD i false = l.getD i false) -> (∀ i, s <= i -> L.getD i false = Le.getD i false) -> Shuts .any ops L -> C w ->
   wpAnyQ P .any ops' C Q' fuel l a -> wpAny P .any ops Q (fuel + r) L a w := by
 have fin : ∀ (l L : Array Bool), l.size = s -> L.size = ops.size -> (∀ i, i < s -> L.getD i false = l.getD i false) -> (∀ i, s <= i -> L.getD i false = Le.getD i false) -> Region.ready .any ops' l = [] -> L = Le := by
  intro l L h1 h2 h3 h4 h0;apply Array.ext (by rw [h2, hLe])
  intro i hi hi';have e1 : L.getD i false = L[i] := by simp [hi]
  have e2 : Le.getD i false = Le[i] := by simp [hi']
  rw [<- e1, <- e2];rcases Nat.lt_or_ge i s with h | h
  ·rw [h3 i h, hLt i h]
   cases hu : l.getD i false with
   | true => rfl
   | false =>
    obtain ⟨j, hj⟩ := ready_some (ops := ops') (by rw [h1, hs]) hb (i + 1) i (by omega) (by omega) hu;rw [h0] at hj; cases hj
  ·exact h4 i h
 intro fuel
 induction fuel with
 | zero =>
  intro l L a w h1 h2 h3 h4 _ hC h;rw [fin l L h1 h2 h3 h4 h.1];exact hQ a w 0 hC h.2
 | succ fuel ih =>
  intro l L a w h1 h2 h3 h4 h5 hC h;by_cases h0 : Region.ready .any ops' l = []
  ·rw [fin l L h1 h2 h3 h4 h0]
   exact hQ a w _ hC (h.1 h0)
  ·obtain ⟨i0, hi0⟩ := List.exists_mem_of_ne_nil _ h0
   have low : ∀ i, i ∈ Region.ready .any ops' l -> i < s := fun i hi => by
    obtain ⟨-, o, ho, -⟩ := mem_ready.1 hi;have := (Array.getElem?_eq_some_iff.1 ho).1
    omega
   have hlisted : ∀ i, i < s -> L.getD i true = l.getD i true := fun i hi => by
    rw [inBounds (by omega) true, inBounds (by omega) true]; exact h3 i hi
   have lift : ∀ i, i < s -> (i ∈ Region.ready .any ops' l ↔ i ∈ Region.ready .any ops L) := by
    intro i hi;rw [mem_ready, mem_ready, hlisted i hi, hops i hi];refine and_congr_right fun _ => exists_congr fun o => and_congr_right fun ho => forall_congr' fun e => forall_congr' fun he => forall_congr' fun hbe => ?_
    have := back_spec hb ho he hbe
    rw [h3 e.on (by omega)]
   have hu0 : L.getD i0 false = false := by
    have h6 := (mem_ready.1 hi0).1;have h7 := low i0 hi0;rw [inBounds (by omega) true] at h6;rw [h3 i0 h7]; exact h6
   rw [show fuel + 1 + r = (fuel + r) + 1 by omega];refine ⟨fun h => ?_, fun i hi => ?_⟩
   ·have h6 := (lift i0 (low i0 hi0)).1 hi0
    rw [h] at h6; cases h6
   ·have his : i < s := by
     rcases Nat.lt_or_ge i s with h | h
     ·exact h
     ·exfalso
      obtain ⟨hun, o, ho, hall⟩ := mem_ready.1 hi;have hsz := (Array.getElem?_eq_some_iff.1 ho).1
      have hLi : Le.getD i true = false := by
       rw [inBounds (by omega) true, <- h4 i h, <- inBounds (by omega) true]; exact hun
      have h6 := (hw i0 i (low i0 hi0) h hLi).listed h5 ho hall;rw [hu0] at h6; cases h6
    have hi' := (lift i his).2 hi
    have r1 : ∀ j, j < s -> (L.setIfInBounds i true).getD j false = (l.setIfInBounds i true).getD j false := fun j hj => by
     by_cases e : i = j
     ·subst e; rw [getD_set_self (by omega), getD_set_self (by omega)]
     ·rw [getD_set_ne false e, getD_set_ne false e]; exact h3 j hj
    have r2 : ∀ j, s <= j -> (L.setIfInBounds i true).getD j false = Le.getD j false := fun j hj => by
     rw [getD_set_ne false (by omega)]; exact h4 j hj
    have hq := wpOp_of_qOp (K' := wpAny P .any ops Q (fuel + r) (L.setIfInBounds i true)) (Q' := Q) hC (fun a' w' hC' hk => ih (l.setIfInBounds i true) (L.setIfInBounds i true) a' w' (by simp [h1]) (by simp [h2]) r1 r2 (h5.step hi) hC' hk) (h.2 i hi');unfold wpOp at hq ⊢
    rw [hops i his];cases ho : ops'[i]? with
    | none => rw [ho] at hq; exact hq
    | some o =>
     rw [ho] at hq;simp only [Region.wanted, hg i o ho, if_true] at hq ⊢;exact hq
def headDone (n s i : Nat) : Array Bool := ((List.range n).map fun j => decide (j < s) || j == i).toArray
theorem wp_region_head {id : Nat} {Q : Exit -> Act -> World -> Prop} {a : Act} {w : World} {l : List Oper} (s r i : Nat) {oi : Oper} {v : Value}
  (hm : P.follows .mixedOrders = true) (hlen : l.length = s + r + 1) (his : s <= i) (hi : l.toArray[i]? = some oi) (hns : Region.noSelect l.toArray = true)
  (hf : Region.free .any l.toArray (Array.replicate l.toArray.size false) i = true) (hr : (Region.ready .any l.toArray (Array.replicate l.toArray.size false)).contains i = true)
  (hsh : shutsB .any l.toArray (Array.replicate l.toArray.size false) = true) (hsh2 : shutsB .any l.toArray ((Array.replicate l.toArray.size false).setIfInBounds i true) = true)
  (hQp : ∀ c a w, Q (.panic c) (a.put oi.dst v) w -> Q (.panic c) a w) (hy : YieldsIf P l.toArray (fun _ => True) oi v a)
  (hB : Region.lexB .any (l.take s).toArray = true) (hb : backward (l.take s).toArray = true) (hg : ((l.take s).all fun o => o.guard.isNone) = true)
  (hw : ((List.range s).all fun k => (List.range l.length).all fun j => decide (j < s) || j == i || waitsB .any l.toArray k l.length j) = true)
  (hC : C w.drew)
  (h : wpQuiet P (l.take s).toArray C (fun a' => ∀ w', C w' -> ∀ k, AnyX P .any l.toArray Q (fun _ => True) (fun _ => false) (k + r) (headDone l.length s i) a' w') (l.take s) (a.put oi.dst v)) : (Code.region id l.toArray true).wp P Q a w := by
 have hin : i < l.length := by
  have := (Array.getElem?_eq_some_iff.1 hi).1
  simpa using this
 have hts : (l.take s).length = s := by rw [List.length_take]; omega
 simp only [Region.lexB, Bool.and_eq_true] at hB
 have hq := wpAnyQ_lex (C := C) (md := .any) (P := P) hB.1 _ 0 (Array.replicate (l.take s).toArray.size false) (a.put oi.dst v) (by simp) (by simpa using hB.2) h
 have hgd : ∀ j, j < l.length -> ∀ d, (headDone l.length s i).getD j d = (decide (j < s) || j == i) := fun j hj d => by simp [headDone, hj]
 have main := any_head (P := P) (ops := l.toArray) (ops' := (l.take s).toArray) (C := C) (Q := Q) (Q' := fun a' => ∀ w', C w' -> ∀ k, AnyX P .any l.toArray Q (fun _ => True) (fun _ => false) (k + r) (headDone l.length s i) a' w') (s := s) (r := r) (Le := headDone l.length s i)
  (by simpa using hts) (by simp; omega) (fun j hj => by simp [List.getElem?_take, hj]) hb
  (fun j o ho => by
   have h1 := (List.all_eq_true.1 hg) o (by rw [List.getElem?_toArray] at ho; exact List.mem_of_getElem? ho);simpa using h1)
  (fun k j hk hj hun => by
   rcases Nat.lt_or_ge j l.length with hjl | hjl
   ·rw [hgd j hjl] at hun
    have h1 := (List.all_eq_true.1 ((List.all_eq_true.1 hw) k (List.mem_range.2 hk))) j (List.mem_range.2 hjl);rw [hun, Bool.false_or] at h1;exact waits_of _ _ h1
   ·have : (headDone l.length s i).size = l.length := by simp [headDone]
    rw [Array.getD_eq_getD_getElem?, Array.getElem?_eq_none (by omega)] at hun;cases hun)
  (by simp [headDone]) (fun j hj => by rw [hgd j (by omega)]; simp [hj]) (fun a' w' k hC' hq' => (hq' w' hC' k).any)
  s (Array.replicate s false) ((Array.replicate l.toArray.size false).setIfInBounds i true) (a.put oi.dst v) w.drew (by simp) (by simp)
  (fun j hj => by
   rw [getD_set_ne false (by omega)];have h1 : j < l.length := by omega
   simp [hj, h1])
  (fun j hj => by
   by_cases e : i = j
   ·subst e
    rw [getD_set_self (by simpa using hin), hgd i hin]; simp
   ·rw [getD_set_ne false e]
    rcases Nat.lt_or_ge j l.length with hjl | hjl
    ·rw [hgd j hjl]; simp [hjl]; exact ⟨hj, fun h => e h.symm⟩
    ·have : (headDone l.length s i).size = l.length := by simp [headDone]
     rw [Array.getD_eq_getD_getElem?, Array.getD_eq_getD_getElem?, Array.getElem?_eq_none (by simpa using hjl), Array.getElem?_eq_none (by omega)])
  (shuts_of hsh2) hC (by simpa [hts] using hq)
 refine wp_region_any hm ?_
 have e1 : l.toArray.size = s + r + 1 := by simpa using hlen
 have hX := AnyX.move (S := fun _ => True) (off := fun _ => false) (k := s + r) (w := w.drew) hi hns hf hr hsh hQp hy (any_x _ main)
 have hX := hX.any
 rw [<- e1] at hX
 exact hX
end
end Go.Proofs.YtddlmigofilejaaGreatDoor
namespace Go.Proofs.YtddlmigofilejaaGreatDoor
open Go.RowKit
open Go.Sort
open M
theorem own_cap {w : World} {base : Nat} {e : TypeId} {z : Nat} {A : Option Addr} {n c : Nat} {xs : List Value} (h : w.ownsRow base e z (.slice A n c) n xs) : n <= c := by
  rcases h.2 with ⟨e, h0⟩ | ⟨g, cap, cur, hv, hB, hg, hnc, -⟩
  · omega
  · cases hv; exact hnc
theorem Row.cap {α : Type} {R : Reads α} {lo : Nat} {xs : List α} {A : Option Addr} {c : Nat} {w : World} (h : Row R lo xs A c w) : xs.length <= c := by
  obtain ⟨C, hC1, hown, -⟩ := h.cells;exact own_cap hown
end Go.Proofs.YtddlmigofilejaaGreatDoor
namespace Go.Proofs.YtddlmigofilejaaGreatDoor
open Go Go.ChangeShapes Go.WideShapes Go.ChangeAt Go.RowKit Go.Joins Go.Deep
open M
section
variable {H : Type} {enc : TypeId × Value -> H} {w : World} {base : Nat} {sp : Nat -> Bool} {held : Bool}
end
end Go.Proofs.YtddlmigofilejaaGreatDoor
namespace Go.Proofs.YtddlmigofilejaaGreatDoor
open Go Go.RowKit
open Go.Sort
open M
section
variable {P : Program} (w : World)
end
theorem flatC_len {k : Nat} : ∀ (C : List (List Value)), (∀ l, l ∈ C -> l.length = k) -> C.flatten.length = C.length * k
  | [], _ => by simp
  | a :: r, h => by
    rw [List.flatten_cons, List.length_append, h a List.mem_cons_self, flatC_len r (fun l hl => h l (List.mem_cons_of_mem _ hl)), List.length_cons, Nat.succ_mul];omega
theorem RowIn.lists {α : Type} {R : Reads α} {w : World} {g o : Nat} {xs : List α} (hk : 0 < R.k) (h : RowIn R w (some ⟨g, o, none⟩) xs) :
    ∃ C : List (List Value), C.length = xs.length /\ (∀ l, l ∈ C -> l.length = R.k) /\ (∀ (i : Nat) (l : List Value) (x : α), C[i]? = some l -> xs[i]? = some x -> R.E w l x) /\
      ∀ (j : Nat) (u : Value), C.flatten[j]? = some u -> w.cell? ⟨g, o + j, none⟩ = some u := by
  have hall : ∀ i : Fin xs.length, ∃ l : List Value, R.E w l xs[i] /\ ∀ (j : Nat) (v : Value), l[j]? = some v -> w.cell? ⟨g, o + i.1 * R.k + j, none⟩ = some v := fun i => by
    obtain ⟨g', o', l, hA, hg, hc, hE⟩ := h i.1 xs[i] (List.getElem?_eq_getElem i.2);cases hA
    exact ⟨l, hE, hc⟩
  obtain ⟨F, hF⟩ := Classical.axiomOfChoice hall
  have hat : ∀ (i : Nat) (l : List Value), (List.ofFn F)[i]? = some l -> ∃ hi : i < xs.length, l = F ⟨i, hi⟩ := by
    intro i l hl;rw [List.getElem?_ofFn] at hl;split at hl
    · rename_i hi
      exact ⟨hi, (Option.some.inj hl).symm⟩
    · cases hl
  have hlen : ∀ l, l ∈ List.ofFn F -> l.length = R.k := fun l hl => by
    obtain ⟨i, hi⟩ := List.mem_iff_getElem?.1 hl;obtain ⟨hi', rfl⟩ := hat i l hi;exact R.len _ _ _ (hF ⟨i, hi'⟩).1
  refine ⟨List.ofFn F, by simp, hlen, fun i l x hl hx => ?_, fun j u hu => ?_⟩
  · obtain ⟨hi, rfl⟩ := hat i l hl
    rw [List.getElem?_eq_getElem hi] at hx;cases hx
    exact (hF ⟨i, hi⟩).1
  · have hj := (List.getElem?_eq_some_iff.1 hu).1
    rw [flatC_len _ hlen, List.length_ofFn] at hj;have hi : j / R.k < xs.length := Nat.div_lt_of_lt_mul (by rw [Nat.mul_comm]; exact hj);have hl : (List.ofFn F)[j / R.k]? = some (F ⟨j / R.k, hi⟩) := by rw [List.getElem?_ofFn, dif_pos hi]
    have hf := flatk_at (List.ofFn F) hlen (j / R.k) (j % R.k) _ hl (Nat.mod_lt _ hk);have hd : j / R.k * R.k + j % R.k = j := by rw [Nat.mul_comm]; exact Nat.div_add_mod j R.k
    rw [hd, hu] at hf;have := (hF ⟨j / R.k, hi⟩).2 (j % R.k) u hf.symm
    rwa [Nat.add_assoc, hd] at this
theorem ty_one {w : World} {l : List Value} {t : Ty} (h : TyAt w l t) : ∀ u ∈ l, u.oneCell' = true := by
  obtain ⟨An, cn, As, cs, rfl, -⟩ := h.parts;intro u hu;simp at hu;rcases hu with rfl | rfl | rfl | rfl | rfl | rfl | rfl <;> rfl
end Go.Proofs.YtddlmigofilejaaGreatDoor
namespace Go.Proofs.YtddlmigofilejaaGreatDoor
open Go.RowKit
open M
structure Ok7 (m : Mo) : Prop where
  imp : ∀ i, i < m.imps.length -> dupB (·.asn) m.imps i = false
  dec : ∀ i, i < m.decs.length -> dupB (·.name) m.decs i = false
  whole : ∀ (i : Nat) (d : De), m.decs[i]? = some d -> wholeT m d.typ = true
  circ : ∀ (i : Nat) (d : De), m.decs[i]? = some d -> ¬ Reach (entries m) (saidT m d.typ) i
  hid : ∀ (i j : Nat) (d e : De), m.decs[i]? = some d -> m.decs[j]? = some e -> Reach (entries m) (saidT m d.typ) j -> e.kind ≠ 2
structure Emb (f : Nat -> Nat) (m' m : Mo) : Prop where
  imps : m'.imps = m.imps
  dec : ∀ (i : Nat) (d : De), m'.decs[i]? = some d -> m.decs[f i]? = some d
  inj : ∀ i j, i < m'.decs.length -> j < m'.decs.length -> f i = f j -> i = j
  sur : ∀ (i : Nat) (d : De), m.decs[i]? = some d -> d.kind ≠ 4 -> ∃ j, j < m'.decs.length /\ f j = i
section
variable {f : Nat -> Nat} {m' m : Mo}
end
mutual
def locT : Ty -> List Ty
  | .mk k p j d n ns ss => if k = 8 then .mk k p j d n ns ss :: locL ss else locL ss
def locL : List Ty -> List Ty
  | [] => []
  | t :: r => locT t ++ locL r
end
def oneN (m : Mo) (x : Ty) : List Nat := if x.mod.size = 0 then (typAt m x.name).toList else []
structure Rch (m : Mo) (t : Ty) (F : Nat -> Bool) (L : List Ty) : Prop where
  only : ∀ i, F i = true -> Reach (entries m) (saidT m t) i
  says : ∀ x ∈ L, ∀ i ∈ oneN m x, Reach (entries m) (saidT m t) i
  own : ∀ x ∈ locT t, x ∈ L
  on : ∀ (k : Nat) (d : De), F k = true -> m.decs[k]? = some d -> d.kind = 3 -> ∀ x ∈ locT d.typ, x ∈ L
structure Nm where
  name : ByteArray
  typ : Ty
structure If where
  pkg : ByteArray
  major : Int
  mod : ByteArray
  types : List Nm
  vals : List Nm
def isIf (p : ByteArray) (j : Int) (d : ByteArray) (x : If) : Bool := decide (x.pkg = p) && ((x.major == j) && decide (x.mod = d))
def findI (env : List If) (p : ByteArray) (j : Int) (d : ByteArray) : Option Nat := env.findIdx? (isIf p j d)
def isNm (s : ByteArray) (x : Nm) : Bool := decide (x.name = s)
def ofI (l : List Nm) (s : ByteArray) : Option Nat := l.findIdx? (isNm s)
def impAt (m : Mo) (s : ByteArray) : Option Nat := m.imps.findIdx? fun x => decide (x.asn = s)
end Go.Proofs.YtddlmigofilejaaGreatDoor
namespace Go.Proofs.YtddlmigofilejaaGreatDoor
open Go Go.ChangeShapes Go.WideShapes Go.ChangeAt Go.RowKit Go.Joins Go.Deep
open M
section
variable {H : Type} {enc : TypeId × Value -> H} {w : World} {base : Nat} {sp : Nat -> Bool} {held : Bool}
end
end Go.Proofs.YtddlmigofilejaaGreatDoor
namespace Go.Proofs.YtddlmigofilejaaGreatDoor
open Go Go.RowKit
open Go.Sort
section
variable {P : Program} {w : World}
end
end Go.Proofs.YtddlmigofilejaaGreatDoor
namespace Go.Proofs.YtddlmigofilejaaGreatDoor
open Go.RowKit Go.Shelf
open Go.Sort Go.Maps
open M
def ShL (l : List Value) (t : Ty) : Prop := ∃ (An : Option Addr) (cn : Nat) (As : Option Addr) (cs : Nat), l = [.int .i64 t.kind, .string t.pkg, .int .i64 t.major, .string t.mod, .string t.name, .slice An t.names.length cn, .slice As t.subs.length cs]
def OwnL (w : World) (lo : Nat) (v : Value) (xs : List Ty) : Prop :=
  ∃ C : List (List Value), C.length = xs.length /\ (∀ l, l ∈ C -> l.length = 7) /\ w.ownsRow lo 48 7 v xs.length C.flatten /\ ∀ (i : Nat) (l : List Value) (x : Ty), C[i]? = some l -> xs[i]? = some x -> ShL l x
end Go.Proofs.YtddlmigofilejaaGreatDoor
