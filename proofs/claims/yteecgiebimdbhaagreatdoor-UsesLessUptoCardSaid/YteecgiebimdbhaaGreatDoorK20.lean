/-
  Several texts in one.
-/
import Derived.Test.YteecgiebimdbhaaGreatDoorK19
open List (getElem_toArray getElem_cons_succ getElem_cons_zero set_cons_zero set_cons_succ setIfInBounds_toArray)
set_option maxRecDepth 100000
set_option maxHeartbeats 16000000
namespace Go.Proofs.YteecgiebimdbhaaGreatDoor
open Go Go.RowKit Go.Shelf
open Go.Sort Go.Maps
open M
def PlMap (w0 w : World) (kb : Nat) (m : Mo) (pkg : ByteArray) (major : Int) (env : List If) : Prop :=
  ∃ (es : Array MapEntry) (clock : Nat), w.heap[kb]? = some (.map es clock) /\ ∀ e ∈ es.toList, ∃ (a b : ByteArray) (l7 : List Value), e.key = plV a b /\ a.size <= 9223372036854775807 /\ b.size <= 9223372036854775807 /\
    e.val = .agg (l7 ++ [Value.int .i64 (lookM m pkg major env a b).2]).toArray /\ ∀ wz, Below w0.heap.size w0 wz -> TyAt wz l7 (lookM m pkg major env a b).1
theorem PlMap.kept {w0 w w' : World} {kb : Nat} {m : Mo} {pkg : ByteArray} {major : Int} {env : List If} (h : PlMap w0 w kb m pkg major env) (e : w'.heap[kb]? = w.heap[kb]?) : PlMap w0 w' kb m pkg major env := by
  obtain ⟨es, clock, hb, hk⟩ := h;exact ⟨es, clock, e.trans hb, hk⟩
theorem PlMap.made (w0 w : World) (m : Mo) (pkg : ByteArray) (major : Int) (env : List If) : PlMap w0 (w.alloc (.map #[] 0)) w.heap.size m pkg major env :=
  ⟨#[], 0, heap_alloc_new w _, fun e he => by simp at he⟩
theorem plV_inj {a b c d : ByteArray} (h : plV a b = plV c d) : a = c /\ b = d := by
  unfold plV at h
  simpa using h
def MnsOut (w0 w : World) (kb : Nat) (m : Mo) (pkg : ByteArray) (major : Int) (env : List If) (D : Ty × Int) (e : Ending) (w' : World) : Prop :=
  ∃ l7 : List Value, e = .returned (.agg (l7 ++ [Value.int .i64 D.2]).toArray) /\ (∀ wz, Below w0.heap.size w0 wz -> TyAt wz l7 D.1) /\ PlMap w0 w' kb m pkg major env /\ w.grownBy w' (some kb)
theorem set_other {w : World} {kb b : Nat} {o : Obj} (h : b ≠ kb) : (ChangeMaps.setBlock w kb o).heap[b]? = w.heap[b]? := by
  unfold ChangeMaps.setBlock
  simp [Array.getElem?_setIfInBounds, Ne.symm h]
theorem set_same {w : World} {kb : Nat} {o : Obj} (h : kb < w.heap.size) : (ChangeMaps.setBlock w kb o).heap[kb]? = some o := by
  unfold ChangeMaps.setBlock
  simp [h]
theorem set_grown (w : World) (kb : Nat) (o : Obj) : w.grownBy (ChangeMaps.setBlock w kb o) (some kb) :=
  ⟨rfl, rfl, rfl, by unfold ChangeMaps.setBlock; simp, fun k _ hne => set_other (fun e => hne (by rw [e]))⟩
section
variable {ops : Array Oper} {rest : List Oper} {o : Oper} {act : Act} {Q : Exit -> Act -> World -> Prop}
theorem wpList_lookup_ns (w0 w : World) (hg : o.guard = none) (x y : Operand) (hop : o.op = Op.lookup 222 x y true) {kb : Nat} {m : Mo} {pkg : ByteArray} {major : Int} {env : List If} (h : PlMap w0 w kb m pkg major env)
    (hm : act.eval x = .map (some kb)) (a b : ByteArray) (hx : act.eval y = plV a b) (ha : a.size <= 9223372036854775807) (hb2 : b.size <= 9223372036854775807) {z : Value} (hz : (zeroValue 252).run Tryz.prog w = .ok z w) (D : Ty × Int) (hD : D = lookM m pkg major env a b)
    (h0 : wpList Tryz.prog ops Q rest (act.put o.dst (.tuple #[z, .bool false])) w)
    (h1 : ∀ (Dn : Option Addr) (dn : Nat) (Ds : Option Addr) (ds : Nat), (∀ wz, Below w0.heap.size w0 wz -> TyAt wz [.int .i64 D.1.kind, .string D.1.pkg, .int .i64 D.1.major, .string D.1.mod, .string D.1.name, .slice Dn D.1.names.length dn, .slice Ds D.1.subs.length ds] D.1) -> wpList Tryz.prog ops Q rest (act.put o.dst (.tuple #[.agg #[.int .i64 D.1.kind, .string D.1.pkg, .int .i64 D.1.major, .string D.1.mod, .string D.1.name, .slice Dn D.1.names.length dn, .slice Ds D.1.subs.length ds, .int .i64 D.2], .bool true])) w) :
    wpList Tryz.prog ops Q (o :: rest) act w := by
  obtain ⟨es, clock, hb, hes⟩ := h;refine wpList_lookup_pl w hg x y hop hb (fun e he => ?_) hm a b hx ha hb2 hz h0 (fun e he hk => ?_)
  · obtain ⟨a, b, l7, q1, q2, q3, -⟩ := hes e he
    exact ⟨a, b, q1, q2, q3⟩
  · obtain ⟨a', b', l7, q1, -, -, q4, q5⟩ := hes e he
    obtain ⟨rfl, rfl⟩ := plV_inj (q1.symm.trans hk);rw [<- hD] at q4 q5;obtain ⟨Dn, dn, Ds, ds, rfl, -⟩ := (q5 w0 (Below.refl _ _)).parts;rw [q4];exact h1 Dn dn Ds ds q5
end
theorem row_grown {w w' : World} {r : Option Nat} (h : w.grownBy w' r) {b : Nat} (hb : w.heap.size <= b) (vs : Array Value) : w.grownBy (w'.setRow b vs) r :=
  ⟨h.os, h.tape, h.output, by rw [size_setRow]; exact h.size, fun k hk hne => (setRow_other _ _ _ _ (by omega)).trans (h.block k hk hne)⟩
theorem zeroMe (w : World) : (zeroValue 252).run Tryz.prog w = .ok (.agg #[.int .i64 0, .string ⟨#[]⟩, .int .i64 0, .string ⟨#[]⟩, .string ⟨#[]⟩, .slice none 0 0, .slice none 0 0, .int .i64 0]) w := by kernel_rfl
theorem meansN_any (m : Mo) (pkg : ByteArray) (major : Int) (env : List If) (kb : Nat) (t : Ty) (l : List Value) (w0 w : World) (h : NsAt w0 l m pkg major env kb) (hw0 : w0.heap.size <= kb) (hwk : ∀ b, b < w0.heap.size -> w.heap[b]? = w0.heap[b]?)
    (hw : Below w0.heap.size w0 w) (hkm : PlMap w0 w kb m pkg major env) (lt : List Value) (ht : TyAt w lt t) :
    Calls Tryz.prog 208 #[.agg l.toArray, .agg lt.toArray] w (MnsOut w0 w kb m pkg major env (lookM m pkg major env t.mod t.name)) := by
  have HB0w := hZ hw;obtain ⟨Bn, cB, Bs, dB, rfl, -, hzm, hzn, -⟩ := ht.parts;have HCL := hZ (fun (wx : World) (hb : Below w0.heap.size w0 wx) => lookN_any m pkg major env kb t.mod t.name hzn l w0 wx h hb);obtain ⟨Ai, ci, Ad, cd, Ae, ce, rfl, -⟩ := h;obtain ⟨es, clock, hkb, hes⟩ := hkm;have hkl : kb < w.heap.size := (Array.getElem?_eq_some_iff.1 hkb).1
  have HPK : Hid (PlKeys es) := hZ (fun e he => by
    obtain ⟨a, b, l7, h1, h2, h3, -⟩ := hes e he;exact ⟨a, b, h1, h2, h3⟩)
  have HES := hZ hes;obtain ⟨D, hD⟩ : ∃ D, D = lookM m pkg major env t.mod t.name := ⟨_, rfl⟩;rw [<- hD];have HD := hZ hD;have HKM0 : Hid (PlMap w0 w kb m pkg major env) := hZ ⟨es, clock, hkb, hes⟩;obtain ⟨W2, hW2, B2, O0, O1, hl2⟩ := two_boxes w #[.string m.name, .slice Ai m.imps.length ci, .slice Ad m.decs.length cd, .string pkg, .int .i64 major, .slice Ae env.length ce, .map (some kb)] #[.int .i64 t.kind, .string t.pkg, .int .i64 t.major, .string t.mod, .string t.name, .slice Bn t.names.length cB, .slice Bs t.subs.length dB] 224 55;have s2 : W2.heap.size = w.heap.size + 1 + 1 := by rw [hW2]; simp
  obtain ⟨W3, hW3⟩ : ∃ W3, W3 = W2.alloc (.cells #[.int .i64 0, .string ⟨#[]⟩, .int .i64 0, .string ⟨#[]⟩, .string ⟨#[]⟩, .slice none 0 0, .slice none 0 0, .int .i64 0] 252) := ⟨_, rfl⟩;have B3 : Below W2.heap.size W2 W3 := by rw [hW3]; exact below_new (Below.refl _ _) _
  have s3 : W3.heap.size = w.heap.size + 1 + 1 + 1 := by rw [hW3]; simp [s2]
  have O2 : W3.heap[w.heap.size + 1 + 1]? = some (.cells #[.int .i64 0, .string ⟨#[]⟩, .int .i64 0, .string ⟨#[]⟩, .string ⟨#[]⟩, .slice none 0 0, .slice none 0 0, .int .i64 0] 252 (0, 0)) := by rw [hW3, <- s2]; exact heap_alloc_new W2 _
  obtain ⟨W4, hW4⟩ : ∃ W4, W4 = W3.alloc (.cells #[.string t.mod, .string t.name] 292) := ⟨_, rfl⟩;have B4 : Below W3.heap.size W3 W4 := by rw [hW4]; exact below_new (Below.refl _ _) _
  have s4 : W4.heap.size = w.heap.size + 1 + 1 + 1 + 1 := by rw [hW4]; simp [s3]
  have O3 : W4.heap[w.heap.size + 1 + 1 + 1]? = some (.cells #[.string t.mod, .string t.name] 292 (0, 0)) := by rw [hW4, <- s3]; exact heap_alloc_new W3 _
  obtain ⟨W5, hW5⟩ : ∃ W5, W5 = W4.alloc (.cells #[.int .i64 0, .string ⟨#[]⟩, .int .i64 0, .string ⟨#[]⟩, .string ⟨#[]⟩, .slice none 0 0, .slice none 0 0, .int .i64 0] 252) := ⟨_, rfl⟩;have B5 : Below W4.heap.size W4 W5 := by rw [hW5]; exact below_new (Below.refl _ _) _
  have s5 : W5.heap.size = w.heap.size + 1 + 1 + 1 + 1 + 1 := by rw [hW5]; simp [s4]
  have O4 : W5.heap[w.heap.size + 1 + 1 + 1 + 1]? = some (.cells #[.int .i64 0, .string ⟨#[]⟩, .int .i64 0, .string ⟨#[]⟩, .string ⟨#[]⟩, .slice none 0 0, .slice none 0 0, .int .i64 0] 252 (0, 0)) := by rw [hW5, <- s4]; exact heap_alloc_new W4 _
  have HBX3 := below_over B2 B3;have HBX4 : Hid (Below w.heap.size w W4) := hZ (below_over HBX3 B4);have HBX5 : Hid (Below w.heap.size w W5) := hZ (below_over HBX4.out B5);have K4 : W4.heap[kb]? = some (.map es clock) := (HBX4.out.block _ hkl).trans hkb;have X0 : W4.heap[w.heap.size]? = some (.cells #[.string m.name, .slice Ai m.imps.length ci, .slice Ad m.decs.length cd, .string pkg, .int .i64 major, .slice Ae env.length ce, .map (some kb)] 224 (0, 0)) := (B4.block _ (by omega)).trans ((B3.block _ (by omega)).trans O0);have X1 : W2.heap[w.heap.size + 1]? = some (.cells #[.int .i64 t.kind, .string t.pkg, .int .i64 t.major, .string t.mod, .string t.name, .slice Bn t.names.length cB, .slice Bs t.subs.length dB] 55 (0, 0)) := O1;have HX0 : Hid (W5.heap[w.heap.size]? = some (.cells #[.string m.name, .slice Ai m.imps.length ci, .slice Ad m.decs.length cd, .string pkg, .int .i64 major, .slice Ae env.length ce, .map (some kb)] 224 (0, 0))) := hZ ((B5.block _ (by omega)).trans X0);have HX2 : Hid (W5.heap[w.heap.size + 1 + 1]? = some (.cells #[.int .i64 0, .string ⟨#[]⟩, .int .i64 0, .string ⟨#[]⟩, .string ⟨#[]⟩, .slice none 0 0, .slice none 0 0, .int .i64 0] 252 (0, 0))) := hZ ((B5.block _ (by omega)).trans ((B4.block _ (by omega)).trans O2));have HX2' : Hid (W4.heap[w.heap.size + 1 + 1]? = some (.cells #[.int .i64 0, .string ⟨#[]⟩, .int .i64 0, .string ⟨#[]⟩, .string ⟨#[]⟩, .slice none 0 0, .slice none 0 0, .int .i64 0] 252 (0, 0))) := hZ ((B4.block _ (by omega)).trans O2)
  have HX3 : Hid (W5.heap[w.heap.size + 1 + 1 + 1]? = some (.cells #[.string t.mod, .string t.name] 292 (0, 0))) := hZ ((B5.block _ (by omega)).trans O3);have HX4 := hZ O4;have HK5 : Hid (W5.heap[kb]? = some (.map es clock)) := hZ ((B5.block _ (by omega)).trans K4);have HW4 : Hid ((((w.alloc (.cells #[.string m.name, .slice Ai m.imps.length ci, .slice Ad m.decs.length cd, .string pkg, .int .i64 major, .slice Ae env.length ce, .map (some kb)] 224)).alloc (.cells #[.int .i64 t.kind, .string t.pkg, .int .i64 t.major, .string t.mod, .string t.name, .slice Bn t.names.length cB, .slice Bs t.subs.length dB] 55)).alloc (.cells #[.int .i64 0, .string ⟨#[]⟩, .int .i64 0, .string ⟨#[]⟩, .string ⟨#[]⟩, .slice none 0 0, .slice none 0 0, .int .i64 0] 252)).alloc (.cells #[.string t.mod, .string t.name] 292) = W4) := hZ (by rw [hW4, hW3, hW2]);have HW5 := hZ hW5;have HW3 : Hid (((w.alloc (.cells #[.string m.name, .slice Ai m.imps.length ci, .slice Ad m.decs.length cd, .string pkg, .int .i64 major, .slice Ae env.length ce, .map (some kb)] 224)).alloc (.cells #[.int .i64 t.kind, .string t.pkg, .int .i64 t.major, .string t.mod, .string t.name, .slice Bn t.names.length cB, .slice Bs t.subs.length dB] 55)).alloc (.cells #[.int .i64 0, .string ⟨#[]⟩, .int .i64 0, .string ⟨#[]⟩, .string ⟨#[]⟩, .slice none 0 0, .slice none 0 0, .int .i64 0] 252) = W3) := hZ (by rw [hW3, hW2]);have HWW : Hid (W3.alloc (.cells #[.string t.mod, .string t.name] 292) = W4) := hZ hW4.symm;have T1 : W3.heap[w.heap.size + 1]? = some (.cells #[.int .i64 t.kind, .string t.pkg, .int .i64 t.major, .string t.mod, .string t.name, .slice Bn t.names.length cB, .slice Bs t.subs.length dB] 55 (0, 0)) := (B3.block _ (by omega)).trans O1;have t3 := cZ T1 3;have t4 := cZ T1 4;have n6 := cZ X0 6;obtain ⟨q0, q1⟩ := cq2 O3;simp at t3 t4 n6 q0 q1;have hbl : w.heap.size <= w.heap.size + 1 + 1 := by omega
  have HK4 := hZ K4;clear hw hW2 hW3 hW4 hW5 B2 B3 B4 B5 O0 O1 O2 O3 O4 X0 X1 T1 K4 hes hD ht HBX3 hl2;go_enter Tryz.func208, Tryz.ntmps208
  go_upto_region 1 with fail
  rw [HW3.out];go_upto_region 2 with fail
  rw [HWW.out];clear t3 t4;go_upto_region 3 with (first | (at_lookup; refine wpList_lookup_ns w0 _ rfl _ _ rfl (HKM0.out.kept (HBX4.out.block _ hkl)) rfl t.mod t.name rfl hzm hzn (zeroMe _) D HD.out ?_ ?_) | (intro Dn dn Ds ds hTD; have HTD := hZ hTD; clear hTD))
  · rw [<- HW5.out]
    have CL := hZ (HCL.out W5 (below_over HB0w.out HBX5.out));rw [<- HD.out] at CL;have X0 := HX0.out;have X3 := HX3.out;obtain ⟨x0, x1, x2, x3, x4, x5, x6⟩ := cq7 X0;obtain ⟨p0, p1⟩ := cq2 X3;simp at x0 x1 x2 x3 x4 x5 x6 p0 p1;clear X0 X3 n6 q0 q1;go_upto_region 4 with fail
    go_upto_block 1 with fail
    go_wp2_with fail
    refine CL.out.mono ?_; rintro e w6 ⟨l7, rfl, hL, hb6⟩
    obtain ⟨Dn, dn, Ds, ds, rfl, -⟩ := (hL w0 (Below.refl _ _)).parts;have HTD := hZ hL;have HB6 := hZ hb6;have X6 := (hb6.block _ (by omega : w.heap.size + 1 + 1 + 1 + 1 < W5.heap.size)).trans HX4.out;have HX6 := hZ X6;clear hL hb6 CL x0 x1 x2 x3 x4 x5 x6 p0 p1;go_upto_region 5 with (first | ((with_reducible refine wpList_putRow 252 (w.heap.size + 1 + 1 + 1 + 1) #[.int .i64 D.1.kind, .string D.1.pkg, .int .i64 D.1.major, .string D.1.mod, .string D.1.name, .slice Dn D.1.names.length dn, .slice Ds D.1.subs.length ds, .int .i64 D.2] _ _ X6 ?_ ?_ ?_ ?_ ?_ ?_); exact meSize; rfl; exact meOne; iterate 2 (focus (first | (go_simp; done) | rfl))))
    clear X6;obtain ⟨w7, hw7⟩ : ∃ w7, w7 = w6.setRow (w.heap.size + 1 + 1 + 1 + 1) #[.int .i64 D.1.kind, .string D.1.pkg, .int .i64 D.1.major, .string D.1.mod, .string D.1.name, .slice Dn D.1.names.length dn, .slice Ds D.1.subs.length ds, .int .i64 D.2] := ⟨_, rfl⟩;have s6 : W5.heap.size <= w6.heap.size := HB6.out.size;have B7 : Below w.heap.size w w7 := by rw [hw7]; exact setRow_below (below_over HBX5.out HB6.out) (by omega) _
    have O7 : w7.heap[w.heap.size + 1 + 1 + 1 + 1]? = some (.cells #[.int .i64 D.1.kind, .string D.1.pkg, .int .i64 D.1.major, .string D.1.mod, .string D.1.name, .slice Dn D.1.names.length dn, .slice Ds D.1.subs.length ds, .int .i64 D.2] 252 (0, 0)) := by rw [hw7]; exact setRow_heap w6 _ _ _ _ _ HX6.out
    have ot : ∀ b, b ≠ w.heap.size + 1 + 1 + 1 + 1 -> w7.heap[b]? = w6.heap[b]? := fun b hb => by rw [hw7]; exact setRow_other _ _ _ _ hb
    have K7 : w7.heap[kb]? = some (.map es clock) := (ot kb (by omega)).trans ((HB6.out.block _ (by omega)).trans HK5.out);have N7 : w7.heap[w.heap.size]? = some (.cells #[.string m.name, .slice Ai m.imps.length ci, .slice Ad m.decs.length cd, .string pkg, .int .i64 major, .slice Ae env.length ce, .map (some kb)] 224 (0, 0)) := (ot _ (by omega)).trans ((HB6.out.block _ (by omega)).trans HX0.out);have P7 : w7.heap[w.heap.size + 1 + 1 + 1]? = some (.cells #[.string t.mod, .string t.name] 292 (0, 0)) := (ot _ (by omega)).trans ((HB6.out.block _ (by omega)).trans HX3.out);have R7 : w7.heap[w.heap.size + 1 + 1]? = some (.cells #[.int .i64 0, .string ⟨#[]⟩, .int .i64 0, .string ⟨#[]⟩, .string ⟨#[]⟩, .slice none 0 0, .slice none 0 0, .int .i64 0] 252 (0, 0)) := (ot _ (by omega)).trans ((HB6.out.block _ (by omega)).trans HX2.out);have HO7 := hZ O7;have HR7 := hZ R7;have HK7 := hZ K7;have HB7 := hZ B7;have HW7 := hZ hw7;rw [<- HW7.out];have n6 := cZ N7 6;obtain ⟨p0, p1⟩ := cq2 P7;obtain ⟨d0, d1, d2, d3, d4, d5, d6, d7⟩ := cq8 O7;simp at n6 p0 p1 d0 d1 d2 d3 d4 d5 d6 d7;clear hw7 B7 O7 ot K7 N7 P7 R7 HW7;go_upto_region 6 with (first | (at_mapUpdate; refine wpList_update_pl _ rfl _ _ _ rfl HK7.out HPK.out rfl t.mod t.name _ rfl rfl hzm hzn ?_; intro es' clock' hes'))
    obtain ⟨w8, hw8⟩ : ∃ w8, w8 = ChangeMaps.setBlock w7 kb (.map es' clock') := ⟨_, rfl⟩;have K7l : kb < w7.heap.size := (Array.getElem?_eq_some_iff.1 HK7.out).1;have O8 : w8.heap[w.heap.size + 1 + 1 + 1 + 1]? = some (.cells #[.int .i64 D.1.kind, .string D.1.pkg, .int .i64 D.1.major, .string D.1.mod, .string D.1.name, .slice Dn D.1.names.length dn, .slice Ds D.1.subs.length ds, .int .i64 D.2] 252 (0, 0)) := by rw [hw8, set_other (by omega)]; exact HO7.out
    have R8 : w8.heap[w.heap.size + 1 + 1]? = some (.cells #[.int .i64 0, .string ⟨#[]⟩, .int .i64 0, .string ⟨#[]⟩, .string ⟨#[]⟩, .slice none 0 0, .slice none 0 0, .int .i64 0] 252 (0, 0)) := by rw [hw8, set_other (by omega)]; exact HR7.out
    have HX8 := hZ R8;have GR8 : w.grownBy w8 (some kb) := grown_over (grown_of HB7.out) (by rw [hw8]; exact set_grown w7 kb _)
    have PL8 : PlMap w0 w8 kb m pkg major env := by
      refine ⟨es', clock', by rw [hw8]; exact set_same K7l, fun e he => ?_⟩;rcases hes' e he with h | ⟨h1, h2⟩
      · exact HES.out e h
      · exact ⟨t.mod, t.name, [.int .i64 D.1.kind, .string D.1.pkg, .int .i64 D.1.major, .string D.1.mod, .string D.1.name, .slice Dn D.1.names.length dn, .slice Ds D.1.subs.length ds], h1, hzm, hzn, by rw [h2, <- HD.out]; rfl, by rw [<- HD.out]; exact HTD.out⟩
    have FIN : Hid (MnsOut w0 w kb m pkg major env D (.returned (.agg #[.int .i64 D.1.kind, .string D.1.pkg, .int .i64 D.1.major, .string D.1.mod, .string D.1.name, .slice Dn D.1.names.length dn, .slice Ds D.1.subs.length ds, .int .i64 D.2])) (w8.setRow (w.heap.size + 1 + 1) #[.int .i64 D.1.kind, .string D.1.pkg, .int .i64 D.1.major, .string D.1.mod, .string D.1.name, .slice Dn D.1.names.length dn, .slice Ds D.1.subs.length ds, .int .i64 D.2])) := hZ
      ⟨[.int .i64 D.1.kind, .string D.1.pkg, .int .i64 D.1.major, .string D.1.mod, .string D.1.name, .slice Dn D.1.names.length dn, .slice Ds D.1.subs.length ds], rfl, HTD.out, PL8.kept (setRow_other _ _ _ _ (by omega)), row_grown GR8 (by omega) _⟩
    have HW8 := hZ hw8;rw [<- HW8.out];clear n6 p0 p1 d0 d1 d2 d3 d4 d5 d6 d7;obtain ⟨d0, d1, d2, d3, d4, d5, d6, d7⟩ := cq8 O8;simp at d0 d1 d2 d3 d4 d5 d6 d7;clear hw8 O8 GR8 PL8 hes' HW8;go_wp2_with (first | ((with_reducible refine wpList_putRow 252 (w.heap.size + 1 + 1) #[.int .i64 D.1.kind, .string D.1.pkg, .int .i64 D.1.major, .string D.1.mod, .string D.1.name, .slice Dn D.1.names.length dn, .slice Ds D.1.subs.length ds, .int .i64 D.2] _ _ R8 ?_ ?_ ?_ ?_ ?_ ?_); exact meSize; rfl; exact meOne; iterate 2 (focus (first | (go_simp; done) | rfl))))
    exact ret_agg1 (fn := Tryz.f208) (vs := [.int .i64 D.1.kind, .string D.1.pkg, .int .i64 D.1.major, .string D.1.mod, .string D.1.name, .slice Dn D.1.names.length dn, .slice Ds D.1.subs.length ds, .int .i64 D.2]) (b := w.heap.size + 1 + 1) rfl rfl Tryz.underlying252 (by kernel_rfl) (cell8 (setRow_heap w8 (w.heap.size + 1 + 1) _ _ _ _ HX8.out)) rfl FIN.out
  · obtain ⟨w5, hw5⟩ : ∃ w5, w5 = W4.alloc (.cells #[.int .i64 D.1.kind, .string D.1.pkg, .int .i64 D.1.major, .string D.1.mod, .string D.1.name, .slice Dn D.1.names.length dn, .slice Ds D.1.subs.length ds, .int .i64 D.2] 252) := ⟨_, rfl⟩
    have B5 : Below W4.heap.size W4 w5 := by rw [hw5]; exact below_new (Below.refl _ _) _
    have O5 : w5.heap[w.heap.size + 1 + 1 + 1 + 1]? = some (.cells #[.int .i64 D.1.kind, .string D.1.pkg, .int .i64 D.1.major, .string D.1.mod, .string D.1.name, .slice Dn D.1.names.length dn, .slice Ds D.1.subs.length ds, .int .i64 D.2] 252 (0, 0)) := by rw [hw5, <- s4]; exact heap_alloc_new W4 _
    have R5 : w5.heap[w.heap.size + 1 + 1]? = some (.cells #[.int .i64 0, .string ⟨#[]⟩, .int .i64 0, .string ⟨#[]⟩, .string ⟨#[]⟩, .slice none 0 0, .slice none 0 0, .int .i64 0] 252 (0, 0)) := (B5.block _ (by omega)).trans HX2'.out;have BB := below_over HBX4.out B5;have HX8 := hZ R5
    have FIN : Hid (MnsOut w0 w kb m pkg major env D (.returned (.agg #[.int .i64 D.1.kind, .string D.1.pkg, .int .i64 D.1.major, .string D.1.mod, .string D.1.name, .slice Dn D.1.names.length dn, .slice Ds D.1.subs.length ds, .int .i64 D.2])) (w5.setRow (w.heap.size + 1 + 1) #[.int .i64 D.1.kind, .string D.1.pkg, .int .i64 D.1.major, .string D.1.mod, .string D.1.name, .slice Dn D.1.names.length dn, .slice Ds D.1.subs.length ds, .int .i64 D.2])) := hZ
      ⟨[.int .i64 D.1.kind, .string D.1.pkg, .int .i64 D.1.major, .string D.1.mod, .string D.1.name, .slice Dn D.1.names.length dn, .slice Ds D.1.subs.length ds], rfl, HTD.out, (HKM0.out.kept (BB.block _ hkl)).kept (setRow_other _ _ _ _ (by omega)), grown_of (setRow_below BB hbl _)⟩
    have HW5' := hZ hw5
    rw [<- HW5'.out];clear n6 q0 q1;obtain ⟨d0, d1, d2, d3, d4, d5, d6, d7⟩ := cq8 O5;simp at d0 d1 d2 d3 d4 d5 d6 d7;clear hw5 O5 B5 BB HW5';go_wp2_with (first | ((with_reducible refine wpList_putRow 252 (w.heap.size + 1 + 1) #[.int .i64 D.1.kind, .string D.1.pkg, .int .i64 D.1.major, .string D.1.mod, .string D.1.name, .slice Dn D.1.names.length dn, .slice Ds D.1.subs.length ds, .int .i64 D.2] _ _ R5 ?_ ?_ ?_ ?_ ?_ ?_); exact meSize; rfl; exact meOne; iterate 2 (focus (first | (go_simp; done) | rfl))))
    exact ret_agg1 (fn := Tryz.f208) (vs := [.int .i64 D.1.kind, .string D.1.pkg, .int .i64 D.1.major, .string D.1.mod, .string D.1.name, .slice Dn D.1.names.length dn, .slice Ds D.1.subs.length ds, .int .i64 D.2]) (b := w.heap.size + 1 + 1) rfl rfl Tryz.underlying252 (by kernel_rfl) (cell8 (setRow_heap w5 (w.heap.size + 1 + 1) _ _ _ _ HX8.out)) rfl FIN.out
mutual
def failT (mean : ByteArray -> ByteArray -> Ty × Int) (c : Int) : Ty -> Bool
  | .mk k _ _ d n _ ss => if k = 8 then (mean d n).2 == c else failL mean c ss
def failL (mean : ByteArray -> ByteArray -> Ty × Int) (c : Int) : List Ty -> Bool
  | [] => false
  | s :: r => failT mean c s || failL mean c r
end
theorem failL_any (mean : ByteArray -> ByteArray -> Ty × Int) (c : Int) : ∀ l : List Ty, failL mean c l = l.any (failT mean c)
  | [] => by simp [failL]
  | s :: r => by rw [failL, failL_any mean c r]; rfl
theorem failT_eq (mean : ByteArray -> ByteArray -> Ty × Int) (c : Int) (t : Ty) : failT mean c t = if t.kind = 8 then (mean t.mod t.name).2 == c else failL mean c t.subs := by
  cases t; rw [failT]; rfl
theorem below_grow {w0 w w' : World} {kb : Nat} (h : Below w0.heap.size w0 w) (hg : w.grownBy w' (some kb)) (hk : w0.heap.size <= kb) : Below w0.heap.size w0 w' :=
  ⟨hg.os.trans h.os, hg.tape.trans h.tape, hg.output.trans h.output, Nat.le_trans h.size hg.size, fun b hb => (hg.block b (Nat.lt_of_lt_of_le hb h.size) (fun e => by cases e; omega)).trans (h.block b hb)⟩
def FlOut (w0 w : World) (kb : Nat) (m : Mo) (pkg : ByteArray) (major : Int) (env : List If) (r : Bool) (e : Ending) (w' : World) : Prop :=
  e = .returned (.bool r) /\ PlMap w0 w' kb m pkg major env /\ w.grownBy w' (some kb)
theorem index_fails (w0 : World) (kb : Nat) (m : Mo) (pkg : ByteArray) (major : Int) (env : List If) (P : Ty -> Bool) (nb cb : Nat) (As : Option Addr) (cs n : Nat) (ss : List Ty) (w : World) (hn : ss.length = n) (hz : n <= 9223372036854775807) (hS : SubsAt w0 As ss)
    (hk0 : w0.heap.size <= kb) (hw : Below w0.heap.size w0 w) (hkm : PlMap w0 w kb m pkg major env)
    (IH : ∀ s, s ∈ ss -> ∀ (l : List Value) (wx : World), TyAt w0 l s -> Below w0.heap.size w0 wx -> PlMap w0 wx kb m pkg major env -> w.grownBy wx (some kb) -> Calls Tryz.prog 209 #[.agg l.toArray, .pointer (some ⟨nb, 0, none⟩), .pointer (some ⟨cb, 0, none⟩)] wx (FlOut w0 wx kb m pkg major env (P s))) :
    Calls Tryz.prog 210 #[.slice As n cs, .func (.func 209) #[] #[.pointer (some ⟨nb, 0, none⟩), .pointer (some ⟨cb, 0, none⟩)]] w fun e w' => ∃ r : Int, e = .returned (.int .i64 r) /\ decide (0 <= r) = ss.any P /\ PlMap w0 w' kb m pkg major env /\ w.grownBy w' (some kb) := by
  have HS := hZ hS;have HN := hZ hn;have HIH := hZ IH;have HW := hZ hw;have HKM := hZ hkm;have HK0 := hZ hk0;clear hS hn IH hw hkm hk0;go_enter Tryz.func210, Tryz.ntmps210
  go_wp2_with fail
  go_loopw [8] (fun i wr => ∃ k : Nat, k <= n /\ i = .int .i64 k /\ Hid (∀ j s, j < k -> ss[j]? = some s -> P s = false) /\ Hid (PlMap w0 wr kb m pkg major env /\ w.grownBy wr (some kb))) (fun i _ => n - (intOf i).toNat)
  case atStart => exact ⟨0, by omega, rfl, hZ (fun j s h => by omega), hZ ⟨HKM.out, grown_of (Below.refl _ _)⟩⟩
  case round =>
    obtain ⟨k, hk, rfl, HP, HB⟩ := hrel;obtain ⟨wo, rfl⟩ : ∃ wo : World, wo = wr := ⟨_, rfl⟩;have hbo := below_grow HW.out HB.out.2 HK0.out;by_cases hlt : k < n
    · obtain ⟨s, hs⟩ : ∃ s, ss[k]? = some s := ⟨_, List.getElem?_eq_getElem (by rw [HN.out]; exact hlt)⟩
      obtain ⟨g, o, v0, v1, v2, v3, v4, v5, v6, rfl, -, h0, h1, h2, h3, h4, h5, h6, -⟩ := HS.out.below hbo k s hs;obtain ⟨g', o', u0, u1, u2, u3, u4, u5, u6, e', hg', k0, k1, k2, k3, k4, k5, k6, hs7⟩ := HS.out k s hs;obtain ⟨rfl, rfl⟩ : g' = g /\ o' = o := by simp at e'; exact ⟨e'.1.symm, e'.2.symm⟩
      have same : ∀ {q : Nat} {u v : Value}, w0.cell? ⟨g', q, none⟩ = some u -> wo.cell? ⟨g', q, none⟩ = some v -> u = v := fun h1 h2 => by
        rw [hbo.cell (p := ⟨g', _, none⟩) hg', h1] at h2; exact Option.some.inj h2
      obtain rfl := same k0 h0;obtain rfl := same k1 h1;obtain rfl := same k2 h2;obtain rfl := same k3 h3;obtain rfl := same k4 h4;obtain rfl := same k5 h5;obtain rfl := same k6 h6;have IHs := hZ (HIH.out s (List.mem_of_getElem? hs) [u0, u1, u2, u3, u4, u5, u6] wo hs7 hbo HB.out.1 HB.out.2);have HSS := hZ hs;clear hs7 hs hbo same k0 k1 k2 k3 k4 k5 k6 e' hg';rcases hid_or (P s) with hp | hp
      · go_wp2_with fail
        refine IHs.out.mono ?_; rintro e w2 ⟨rfl, hm2, hg2⟩; rw [hp.out]
        have HB2 : Hid (PlMap w0 w2 kb m pkg major env /\ w.grownBy w2 (some kb)) := hZ ⟨hm2, grown_over HB.out.2 hg2⟩;clear h0 h1 h2 h3 h4 h5 h6 hm2 hg2;go_wp2_with fail
        go_roundw
        case rel => exact ⟨k + 1, by omega, by go_num, hZ (fun j q hj hq => by
          rcases Nat.lt_or_ge j k with a | a
          · exact HP.out j q a hq
          · rw [show j = k by omega, HSS.out] at hq
            obtain rfl := Option.some.inj hq;exact hp.out), HB2⟩
        case measure => simp [intOf]; omega
      · have R : Hid (decide (0 <= (k : Int)) = ss.any P) := hZ (by
          rw [List.any_eq_true.2 ⟨s, List.mem_of_getElem? HSS.out, hp.out⟩]; simp)
        go_wp2_with fail
        refine IHs.out.mono ?_; rintro e w2 ⟨rfl, hm2, hg2⟩; rw [hp.out]
        have HB2 : Hid (PlMap w0 w2 kb m pkg major env /\ w.grownBy w2 (some kb)) := hZ ⟨hm2, grown_over HB.out.2 hg2⟩;clear h0 h1 h2 h3 h4 h5 h6 hm2 hg2;go_wp2_with fail
        go_ret;exact ⟨_, rfl, R.out, HB2.out⟩
    · have R : Hid (decide (0 <= (-1 : Int)) = ss.any P) := hZ (by
        have : ss.any P = false := by
          rw [List.any_eq_false];intro s hs;obtain ⟨j, hj⟩ := List.getElem?_of_mem hs;have hjl := (List.getElem?_eq_some_iff.1 hj).1;rw [HP.out j s (by rw [HN.out] at hjl; omega) hj]; decide
        rw [this]; rfl)
      go_wp2_with fail
      go_ret;exact ⟨_, rfl, R.out, HB.out⟩
theorem contains_fails (w0 : World) (kb : Nat) (m : Mo) (pkg : ByteArray) (major : Int) (env : List If) (P : Ty -> Bool) (nb cb : Nat) (As : Option Addr) (cs n : Nat) (ss : List Ty) (w : World) (hn : ss.length = n) (hz : n <= 9223372036854775807) (hS : SubsAt w0 As ss)
    (hk0 : w0.heap.size <= kb) (hw : Below w0.heap.size w0 w) (hkm : PlMap w0 w kb m pkg major env)
    (IH : ∀ s, s ∈ ss -> ∀ (l : List Value) (wx : World), TyAt w0 l s -> Below w0.heap.size w0 wx -> PlMap w0 wx kb m pkg major env -> w.grownBy wx (some kb) -> Calls Tryz.prog 209 #[.agg l.toArray, .pointer (some ⟨nb, 0, none⟩), .pointer (some ⟨cb, 0, none⟩)] wx (FlOut w0 wx kb m pkg major env (P s))) :
    Calls Tryz.prog 176 #[.slice As n cs, .func (.func 209) #[] #[.pointer (some ⟨nb, 0, none⟩), .pointer (some ⟨cb, 0, none⟩)]] w (FlOut w0 w kb m pkg major env (ss.any P)) := by
  have HC := hZ (index_fails w0 kb m pkg major env P nb cb As cs n ss w hn hz hS hk0 hw hkm IH);clear hn hS IH hk0 hw hkm;go_enter Tryz.func176, Tryz.ntmps176
  go_wp2_with fail
  refine HC.out.mono ?_; rintro e w2 ⟨r, rfl, hr, hb2⟩
  have HR := hZ hr;clear hr HC;go_wp2_with fail
  go_ret;exact ⟨ret_bool HR.out.symm, hb2⟩
theorem kept_grown {w w' : World} {kb b : Nat} {o : Obj} (h : w.heap[b]? = some o) (hne : b ≠ kb) (hg : w.grownBy w' (some kb)) : w'.heap[b]? = some o :=
  (hg.block b (Array.getElem?_eq_some_iff.1 h).1 (fun e => by cases e; exact hne rfl)).trans h
theorem one_fails (w0 : World) (kb : Nat) (m : Mo) (pkg : ByteArray) (major : Int) (env : List If) (c : Int) (r : Bool) (nb cb : Nat) (Ai : Option Addr) (ci : Nat) (Ad : Option Addr) (cd : Nat) (Ae : Option Addr) (ce : Nat) (s : Ty) (l : List Value) (w : World)
    (hn : w.heap[nb]? = some (.cells #[.string m.name, .slice Ai m.imps.length ci, .slice Ad m.decs.length cd, .string pkg, .int .i64 major, .slice Ae env.length ce, .map (some kb)] 224 (0, 0))) (hc : w.heap[cb]? = some (.cells #[.int .i64 c] 32 (0, 0))) (hs : TyAt w0 l s) (hw : Below w0.heap.size w0 w) (hkm : PlMap w0 w kb m pkg major env)
    (H : ∀ wx, Below w0.heap.size w0 wx -> PlMap w0 wx kb m pkg major env -> Calls Tryz.prog 175 #[.agg #[.string m.name, .slice Ai m.imps.length ci, .slice Ad m.decs.length cd, .string pkg, .int .i64 major, .slice Ae env.length ce, .map (some kb)], .agg l.toArray, .int .i64 c] wx (FlOut w0 wx kb m pkg major env r)) :
    Calls Tryz.prog 209 #[.agg l.toArray, .pointer (some ⟨nb, 0, none⟩), .pointer (some ⟨cb, 0, none⟩)] w (FlOut w0 w kb m pkg major env r) := by
  obtain ⟨Bn, cB, Bs, dB, rfl, -⟩ := hs.parts;obtain ⟨wb, hwb⟩ : ∃ wb, wb = w.alloc (.cells #[.int .i64 s.kind, .string s.pkg, .int .i64 s.major, .string s.mod, .string s.name, .slice Bn s.names.length cB, .slice Bs s.subs.length dB] 55) := ⟨_, rfl⟩;have B0 : Below w.heap.size w wb := by rw [hwb]; exact below_new (Below.refl _ _) _
  have X0 : wb.heap[w.heap.size]? = some (.cells #[.int .i64 s.kind, .string s.pkg, .int .i64 s.major, .string s.mod, .string s.name, .slice Bn s.names.length cB, .slice Bs s.subs.length dB] 55 (0, 0)) := by rw [hwb]; exact heap_alloc_new w _
  have N0 := (B0.block _ (Array.getElem?_eq_some_iff.1 hn).1).trans hn;have C0 := (B0.block _ (Array.getElem?_eq_some_iff.1 hc).1).trans hc;obtain ⟨es, clock, hkb, -⟩ := id hkm;have CL := hZ (H wb (below_over hw B0) (hkm.kept (B0.block _ (Array.getElem?_eq_some_iff.1 hkb).1)));obtain ⟨x0, x1, x2, x3, x4, x5, x6⟩ := cq7 X0;obtain ⟨n0, n1, n2, n3, n4, n5, n6⟩ := cq7 N0;have c0 := cZ C0 0;simp at x0 x1 x2 x3 x4 x5 x6 n0 n1 n2 n3 n4 n5 n6 c0;have HB0 := hZ B0;have HWB := hZ hwb;clear hn hc hs hw hkm H hwb B0 X0 N0 C0 hkb;go_enter Tryz.func209, Tryz.ntmps209
  go_upto_region 1 with fail
  rw [<- HWB.out];go_wp2_with fail
  refine CL.out.mono ?_; rintro e w2 ⟨rfl, hm2, hg2⟩
  have HM2 := hZ hm2;have HG2 := hZ (grown_over (grown_of HB0.out) hg2);clear x0 x1 x2 x3 x4 x5 x6 n0 n1 n2 n3 n4 n5 n6 c0 hm2 hg2 CL;go_wp2_with fail
  go_ret;exact ⟨rfl, HM2.out, HG2.out⟩
theorem one_expand (w0 : World) (kb : Nat) (m : Mo) (pkg : ByteArray) (major : Int) (env : List If) (c : Int) (r : Bool) (nb cb : Nat) (Ai : Option Addr) (ci : Nat) (Ad : Option Addr) (cd : Nat) (Ae : Option Addr) (ce : Nat) (s : Ty) (l : List Value) (w : World)
    (hn : w.heap[nb]? = some (.cells #[.string m.name, .slice Ai m.imps.length ci, .slice Ad m.decs.length cd, .string pkg, .int .i64 major, .slice Ae env.length ce, .map (some kb)] 224 (0, 0))) (hc : w.heap[cb]? = some (.cells #[.int .i64 c] 32 (0, 0))) (hs : TyAt w0 l s) (hw : Below w0.heap.size w0 w) (hkm : PlMap w0 w kb m pkg major env)
    (H : ∀ wx, Below w0.heap.size w0 wx -> PlMap w0 wx kb m pkg major env -> Calls Tryz.prog 175 #[.agg #[.string m.name, .slice Ai m.imps.length ci, .slice Ad m.decs.length cd, .string pkg, .int .i64 major, .slice Ae env.length ce, .map (some kb)], .agg l.toArray, .int .i64 c] wx (FlOut w0 wx kb m pkg major env r)) :
    Calls Tryz.prog 174 #[.agg l.toArray, .pointer (some ⟨nb, 0, none⟩), .pointer (some ⟨cb, 0, none⟩)] w (FlOut w0 w kb m pkg major env r) := by
  obtain ⟨Bn, cB, Bs, dB, rfl, -⟩ := hs.parts;obtain ⟨wb, hwb⟩ : ∃ wb, wb = w.alloc (.cells #[.int .i64 s.kind, .string s.pkg, .int .i64 s.major, .string s.mod, .string s.name, .slice Bn s.names.length cB, .slice Bs s.subs.length dB] 55) := ⟨_, rfl⟩;have B0 : Below w.heap.size w wb := by rw [hwb]; exact below_new (Below.refl _ _) _
  have X0 : wb.heap[w.heap.size]? = some (.cells #[.int .i64 s.kind, .string s.pkg, .int .i64 s.major, .string s.mod, .string s.name, .slice Bn s.names.length cB, .slice Bs s.subs.length dB] 55 (0, 0)) := by rw [hwb]; exact heap_alloc_new w _
  have N0 := (B0.block _ (Array.getElem?_eq_some_iff.1 hn).1).trans hn;have C0 := (B0.block _ (Array.getElem?_eq_some_iff.1 hc).1).trans hc;obtain ⟨es, clock, hkb, -⟩ := id hkm;have CL := hZ (H wb (below_over hw B0) (hkm.kept (B0.block _ (Array.getElem?_eq_some_iff.1 hkb).1)));obtain ⟨x0, x1, x2, x3, x4, x5, x6⟩ := cq7 X0;obtain ⟨n0, n1, n2, n3, n4, n5, n6⟩ := cq7 N0;have c0 := cZ C0 0;simp at x0 x1 x2 x3 x4 x5 x6 n0 n1 n2 n3 n4 n5 n6 c0;have HB0 := hZ B0;have HWB := hZ hwb;clear hn hc hs hw hkm H hwb B0 X0 N0 C0 hkb;go_enter Tryz.func174, Tryz.ntmps174
  go_upto_region 1 with fail
  rw [<- HWB.out];go_wp2_with fail
  refine CL.out.mono ?_; rintro e w2 ⟨rfl, hm2, hg2⟩
  have HM2 := hZ hm2;have HG2 := hZ (grown_over (grown_of HB0.out) hg2);clear x0 x1 x2 x3 x4 x5 x6 n0 n1 n2 n3 n4 n5 n6 c0 hm2 hg2 CL;go_wp2_with fail
  go_ret;exact ⟨rfl, HM2.out, HG2.out⟩
theorem fails_any (w0 : World) (kb : Nat) (m : Mo) (pkg : ByteArray) (major : Int) (env : List If) (c : Int) (ln : List Value) (hns : NsAt w0 ln m pkg major env kb) (hk0 : w0.heap.size <= kb) (N : Nat) : ∀ (t : Ty), many t <= N -> ∀ (lt : List Value) (w : World), TyAt w0 lt t -> Below w0.heap.size w0 w -> PlMap w0 w kb m pkg major env ->
    Calls Tryz.prog 175 #[.agg ln.toArray, .agg lt.toArray, .int .i64 c] w (FlOut w0 w kb m pkg major env (failT (lookM m pkg major env) c t)) := by
  induction N with
  | zero => intro t h; have := many_pos t; omega
  | succ N ih =>
  intro t hN lt w ht hw hkm;have HNS := hZ hns;have HIH := hZ ih;have HT0 := hZ ht;have HK0 := hZ hk0;obtain ⟨Bn, cB, Bs, dB, rfl, -, -, -, -, hzs, -, hS⟩ := ht.parts;obtain ⟨Ai, ci, Ad, cd, Ae, ce, rfl, -⟩ := hns;obtain ⟨es, clock, hkb, -⟩ := id hkm;have hkl := (Array.getElem?_eq_some_iff.1 hkb).1;obtain ⟨W2, hW2, B2, O0, O1, hl2⟩ := two_boxes w #[.string m.name, .slice Ai m.imps.length ci, .slice Ad m.decs.length cd, .string pkg, .int .i64 major, .slice Ae env.length ce, .map (some kb)] #[.int .i64 t.kind, .string t.pkg, .int .i64 t.major, .string t.mod, .string t.name, .slice Bn t.names.length cB, .slice Bs t.subs.length dB] 224 55;have s2 : W2.heap.size = w.heap.size + 1 + 1 := by rw [hW2]; simp
  obtain ⟨W3, hW3⟩ : ∃ W3, W3 = W2.alloc (.cells #[.int .i64 c] 32) := ⟨_, rfl⟩;have B3 : Below W2.heap.size W2 W3 := by rw [hW3]; exact below_new (Below.refl _ _) _
  have s3 : W3.heap.size = w.heap.size + 1 + 1 + 1 := by rw [hW3]; simp [s2]
  have O2 : W3.heap[w.heap.size + 1 + 1]? = some (.cells #[.int .i64 c] 32 (0, 0)) := by rw [hW3, <- s2]; exact heap_alloc_new W2 _
  have HB3 : Hid (Below w.heap.size w W3) := hZ (below_over B2 B3);have HX0 : Hid (W3.heap[w.heap.size]? = some (.cells #[.string m.name, .slice Ai m.imps.length ci, .slice Ad m.decs.length cd, .string pkg, .int .i64 major, .slice Ae env.length ce, .map (some kb)] 224 (0, 0))) := hZ ((B3.block _ (by omega)).trans O0);have HX1 : Hid (W3.heap[w.heap.size + 1]? = some (.cells #[.int .i64 t.kind, .string t.pkg, .int .i64 t.major, .string t.mod, .string t.name, .slice Bn t.names.length cB, .slice Bs t.subs.length dB] 55 (0, 0))) := hZ ((B3.block _ (by omega)).trans O1);have HX2 := hZ O2;have HW : Hid (((w.alloc (.cells #[.string m.name, .slice Ai m.imps.length ci, .slice Ad m.decs.length cd, .string pkg, .int .i64 major, .slice Ae env.length ce, .map (some kb)] 224)).alloc (.cells #[.int .i64 t.kind, .string t.pkg, .int .i64 t.major, .string t.mod, .string t.name, .slice Bn t.names.length cB, .slice Bs t.subs.length dB] 55)).alloc (.cells #[.int .i64 c] 32) = W3) := hZ (by rw [hW3, hW2]);have HW0 : Hid (Below w0.heap.size w0 W3) := hZ (below_over hw HB3.out);have HKM : Hid (PlMap w0 W3 kb m pkg major env) := hZ (hkm.kept (HB3.out.block _ hkl));have HSS := hZ hS;have HMN : Hid (∀ s ∈ t.subs, many s <= N) := hZ (fun s hs => by have h1 := manyL_mem _ _ hs; have h2 := manyL_eq t; omega);have RS := hZ (failT_eq (lookM m pkg major env) c t);obtain ⟨V, hV⟩ : ∃ V, V = failT (lookM m pkg major env) c t := ⟨_, rfl⟩;rw [<- hV];have HV := hZ hV;have X1 := HX1.out;have y0 := cZ X1 0;simp at y0;clear hV hS ht hw hkm hW2 hW3 B2 B3 O0 O1 O2 hkb hN hk0 ih;by_cases h8 : t.kind = 8
  · have q8 : (t.kind == 8) = true := by rw [h8]; rfl
    have RV : Hid (V = ((lookM m pkg major env t.mod t.name).2 == c)) := hZ (by rw [HV.out, RS.out, if_pos h8]);obtain ⟨D, hD⟩ : ∃ D, D = lookM m pkg major env t.mod t.name := ⟨_, rfl⟩;rw [<- hD] at RV;have HD := hZ hD
    have KEEP : Hid (∀ wx : World, Below W3.heap.size W3 wx -> wx.cell? ⟨w.heap.size, 0, none⟩ = some (.string m.name) /\ wx.cell? ⟨w.heap.size, 1, none⟩ = some (.slice Ai m.imps.length ci) /\ wx.cell? ⟨w.heap.size, 2, none⟩ = some (.slice Ad m.decs.length cd) /\ wx.cell? ⟨w.heap.size, 3, none⟩ = some (.string pkg) /\ wx.cell? ⟨w.heap.size, 4, none⟩ = some (.int .i64 major) /\ wx.cell? ⟨w.heap.size, 5, none⟩ = some (.slice Ae env.length ce) /\ wx.cell? ⟨w.heap.size, 6, none⟩ = some (.map (some kb)) /\ wx.cell? ⟨w.heap.size + 1, 0, none⟩ = some (.int .i64 t.kind) /\ wx.cell? ⟨w.heap.size + 1, 1, none⟩ = some (.string t.pkg) /\ wx.cell? ⟨w.heap.size + 1, 2, none⟩ = some (.int .i64 t.major) /\ wx.cell? ⟨w.heap.size + 1, 3, none⟩ = some (.string t.mod) /\ wx.cell? ⟨w.heap.size + 1, 4, none⟩ = some (.string t.name) /\ wx.cell? ⟨w.heap.size + 1, 5, none⟩ = some (.slice Bn t.names.length cB) /\ wx.cell? ⟨w.heap.size + 1, 6, none⟩ = some (.slice Bs t.subs.length dB) /\ wx.cell? ⟨w.heap.size + 1 + 1, 0, none⟩ = some (.int .i64 c)) := hZ (fun wx hb => by
      have X0 := (hb.block _ (by omega)).trans HX0.out;have X1 := (hb.block _ (by omega)).trans HX1.out;have X2 := (hb.block _ (by omega)).trans HX2.out;exact ⟨cZ X0 0, cZ X0 1, cZ X0 2, cZ X0 3, cZ X0 4, cZ X0 5, cZ X0 6, cZ X1 0, cZ X1 1, cZ X1 2, cZ X1 3, cZ X1 4, cZ X1 5, cZ X1 6, cZ X2 0⟩)
    have KEEPG : Hid (∀ wx : World, W3.drew.grownBy wx (some kb) -> wx.cell? ⟨w.heap.size, 0, none⟩ = some (.string m.name) /\ wx.cell? ⟨w.heap.size, 1, none⟩ = some (.slice Ai m.imps.length ci) /\ wx.cell? ⟨w.heap.size, 2, none⟩ = some (.slice Ad m.decs.length cd) /\ wx.cell? ⟨w.heap.size, 3, none⟩ = some (.string pkg) /\ wx.cell? ⟨w.heap.size, 4, none⟩ = some (.int .i64 major) /\ wx.cell? ⟨w.heap.size, 5, none⟩ = some (.slice Ae env.length ce) /\ wx.cell? ⟨w.heap.size, 6, none⟩ = some (.map (some kb)) /\ wx.cell? ⟨w.heap.size + 1, 0, none⟩ = some (.int .i64 t.kind) /\ wx.cell? ⟨w.heap.size + 1, 1, none⟩ = some (.string t.pkg) /\ wx.cell? ⟨w.heap.size + 1, 2, none⟩ = some (.int .i64 t.major) /\ wx.cell? ⟨w.heap.size + 1, 3, none⟩ = some (.string t.mod) /\ wx.cell? ⟨w.heap.size + 1, 4, none⟩ = some (.string t.name) /\ wx.cell? ⟨w.heap.size + 1, 5, none⟩ = some (.slice Bn t.names.length cB) /\ wx.cell? ⟨w.heap.size + 1, 6, none⟩ = some (.slice Bs t.subs.length dB) /\ wx.cell? ⟨w.heap.size + 1 + 1, 0, none⟩ = some (.int .i64 c)) := hZ (fun wx hg => by
      have hd := Below.drew (Below.refl W3.heap.size W3);have X0 := kept_grown ((hd.block _ (by omega)).trans HX0.out) (by omega) hg;have X1 := kept_grown ((hd.block _ (by omega)).trans HX1.out) (by omega) hg;have X2 := kept_grown ((hd.block _ (by omega)).trans HX2.out) (by omega) hg;exact ⟨cZ X0 0, cZ X0 1, cZ X0 2, cZ X0 3, cZ X0 4, cZ X0 5, cZ X0 6, cZ X1 0, cZ X1 1, cZ X1 2, cZ X1 3, cZ X1 4, cZ X1 5, cZ X1 6, cZ X2 0⟩)
    have CM : Hid (∀ wx, Below W3.heap.size W3 wx -> Calls Tryz.prog 208 #[.agg #[.string m.name, .slice Ai m.imps.length ci, .slice Ad m.decs.length cd, .string pkg, .int .i64 major, .slice Ae env.length ce, .map (some kb)], .agg #[.int .i64 t.kind, .string t.pkg, .int .i64 t.major, .string t.mod, .string t.name, .slice Bn t.names.length cB, .slice Bs t.subs.length dB]] wx (MnsOut w0 wx kb m pkg major env D)) := hZ (fun wx hb => by
      rw [hD];exact meansN_any m pkg major env kb t _ w0 wx HNS.out HK0.out (fun b hlt => (below_over HW0.out hb).block b hlt) (below_over HW0.out hb) (HKM.out.kept (hb.block _ (by omega))) _ (HT0.out.keep (below_over HW0.out hb)))
    clear h8 hD X1;go_enter Tryz.func175, Tryz.ntmps175
    go_upto_region 1 with fail
    rw [HW.out];go_upto_region 2 with fail
    clear y0 q8;have hH0 := KEEP.out W3.drew (Below.drew (Below.refl _ _));refine AnyX.start (fun wx => wx.cell? ⟨w.heap.size, 0, none⟩ = some (.string m.name) /\ wx.cell? ⟨w.heap.size, 1, none⟩ = some (.slice Ai m.imps.length ci) /\ wx.cell? ⟨w.heap.size, 2, none⟩ = some (.slice Ad m.decs.length cd) /\ wx.cell? ⟨w.heap.size, 3, none⟩ = some (.string pkg) /\ wx.cell? ⟨w.heap.size, 4, none⟩ = some (.int .i64 major) /\ wx.cell? ⟨w.heap.size, 5, none⟩ = some (.slice Ae env.length ce) /\ wx.cell? ⟨w.heap.size, 6, none⟩ = some (.map (some kb)) /\ wx.cell? ⟨w.heap.size + 1, 0, none⟩ = some (.int .i64 t.kind) /\ wx.cell? ⟨w.heap.size + 1, 1, none⟩ = some (.string t.pkg) /\ wx.cell? ⟨w.heap.size + 1, 2, none⟩ = some (.int .i64 t.major) /\ wx.cell? ⟨w.heap.size + 1, 3, none⟩ = some (.string t.mod) /\ wx.cell? ⟨w.heap.size + 1, 4, none⟩ = some (.string t.name) /\ wx.cell? ⟨w.heap.size + 1, 5, none⟩ = some (.slice Bn t.names.length cB) /\ wx.cell? ⟨w.heap.size + 1, 6, none⟩ = some (.slice Bs t.subs.length dB) /\ wx.cell? ⟨w.heap.size + 1 + 1, 0, none⟩ = some (.int .i64 c)) (fun _ => false) (by kernel_rfl) ?_;refine AnyX.tk (i := 0) (v := ?_) rfl (fun _ _ _ h => h) hH0 (Or.inl ⟨by rfl, ?_⟩) ?_;rotate_left
    · (intro wS hS; (try obtain ⟨n0, n1, n2, n3, n4, n5, n6, x0, x1, x2, x3, x4, x5, x6, c0⟩ := hS); go_simp; try with_reducible rfl)
    simp only [getElem_toArray, getElem_cons_succ, getElem_cons_zero];simp only [Act.put, setIfInBounds_toArray, set_cons_zero, set_cons_succ];refine AnyX.tk (i := 1) (v := ?_) rfl (fun _ _ _ h => h) hH0 (Or.inl ⟨by rfl, ?_⟩) ?_;rotate_left
    · (intro wS hS; (try obtain ⟨n0, n1, n2, n3, n4, n5, n6, x0, x1, x2, x3, x4, x5, x6, c0⟩ := hS); go_simp; try with_reducible rfl)
    simp only [getElem_toArray, getElem_cons_succ, getElem_cons_zero];simp only [Act.put, setIfInBounds_toArray, set_cons_zero, set_cons_succ];refine AnyX.tk (i := 4) (v := ?_) rfl (fun _ _ _ h => h) hH0 (Or.inl ⟨by rfl, ?_⟩) ?_;rotate_left
    · (intro wS hS; (try obtain ⟨n0, n1, n2, n3, n4, n5, n6, x0, x1, x2, x3, x4, x5, x6, c0⟩ := hS); go_simp; try with_reducible rfl)
    simp only [getElem_toArray, getElem_cons_succ, getElem_cons_zero];simp only [Act.put, setIfInBounds_toArray, set_cons_zero, set_cons_succ];refine AnyX.go 2 (by kernel_rfl) rfl rfl (fun K hK => ?_);simp only [getElem_toArray, getElem_cons_succ, getElem_cons_zero];go_simp
    refine (CM.out W3.drew (Below.drew (Below.refl _ _))).mono ?_;rintro e w5 ⟨l7, rfl, hL, hm5, hg5⟩;obtain ⟨Dn, dn, Ds, ds, rfl, -⟩ := (hL w0 (Below.refl _ _)).parts;have hfd : ∀ wz : World, (Instr.field 252 (.agg #[.int .i64 D.1.kind, .string D.1.pkg, .int .i64 D.1.major, .string D.1.mod, .string D.1.name, .slice Dn D.1.names.length dn, .slice Ds D.1.subs.length ds, .int .i64 D.2]) 1).run Tryz.prog wz = .ok (.int .i64 D.2) wz := fun _ => by kernel_rfl
    simp only [];refine hK.out _ _ (fun hoff _ => KEEPG.out _ hg5) ?_;clear hK;(try simp only [Act.put, setIfInBounds_toArray, set_cons_zero, set_cons_succ]);refine AnyX.move (i := 3) (v := .int .i64 D.2) rfl (by kernel_rfl) (by kernel_rfl) (by kernel_rfl) (by kernel_rfl) (fun _ _ _ h => h) (Or.inl ⟨by rfl, ?_⟩) ?_
    · (intro wS _; go_simp; try simp only [hfd, Result.andThen])
    simp only [getElem_toArray, getElem_cons_succ, getElem_cons_zero];simp only [Act.put, setIfInBounds_toArray, set_cons_zero, set_cons_succ];refine AnyX.mv (i := 5) (v := ?_) rfl (fun _ _ _ h => h) (Or.inl ⟨by rfl, ?_⟩) ?_;rotate_left
    · (intro wS _; go_simp; try with_reducible rfl)
    simp only [getElem_toArray, getElem_cons_succ, getElem_cons_zero];simp only [Act.put, setIfInBounds_toArray, set_cons_zero, set_cons_succ];refine AnyX.mv (i := 6) (v := ?_) rfl (fun _ _ _ h => h) (Or.inl ⟨by rfl, ?_⟩) ?_;rotate_left
    · (intro wS _; go_simp; try with_reducible rfl)
    simp only [getElem_toArray, getElem_cons_succ, getElem_cons_zero];simp only [Act.put, setIfInBounds_toArray, set_cons_zero, set_cons_succ];refine AnyX.done (by kernel_rfl) ?_ _
    have FIN : Hid (FlOut w0 w kb m pkg major env V (.returned (.bool (D.2 == c))) w5) := hZ
      ⟨by rw [RV.out], hm5, grown_over (grown_of (Below.drew HB3.out)) hg5⟩
    clear hH0 hL hm5 hg5 hfd;go_wp2_with fail
    go_ret;exact FIN.out
  · have q8 : (t.kind == 8) = false := by simpa using h8
    have RV : Hid (V = t.subs.any (failT (lookM m pkg major env) c)) := hZ (by rw [HV.out, RS.out, if_neg h8, failL_any])
    have CC := hZ (contains_fails w0 kb m pkg major env (failT (lookM m pkg major env) c) w.heap.size (w.heap.size + 1 + 1) Bs dB t.subs.length t.subs W3 rfl hzs HSS.out HK0.out HW0.out HKM.out (fun s hs l wx hT hb hm hg =>
      one_fails w0 kb m pkg major env c _ w.heap.size (w.heap.size + 1 + 1) Ai ci Ad cd Ae ce s l wx (kept_grown HX0.out (by omega) hg) (kept_grown HX2.out (by omega) hg) hT hb hm (fun wy hby hmy => HIH.out s (HMN.out s hs) l wy hT hby hmy)))
    rw [<- RV.out] at CC;have y6 := cZ X1 6;simp at y6;clear h8 X1;go_enter Tryz.func175, Tryz.ntmps175
    go_upto_region 1 with fail
    rw [HW.out];go_wp2_with fail
    refine CC.out.mono ?_; rintro e w5 ⟨rfl, hm5, hg5⟩
    have FIN : Hid (FlOut w0 w kb m pkg major env V (.returned (.bool V)) w5) := hZ ⟨rfl, hm5, grown_over (grown_of HB3.out) hg5⟩;clear CC hm5 hg5 y0 y6 q8;go_wp2_with fail
    go_ret;exact FIN.out
end Go.Proofs.YteecgiebimdbhaaGreatDoor
