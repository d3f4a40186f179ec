/-
  Several texts in one.
-/
import Derived.Test.YteecgiebimdbhaaGreatDoorK11
import Derived.Laws.MakeOwn
open List (getElem_toArray getElem_cons_succ getElem_cons_zero set_cons_zero set_cons_succ setIfInBounds_toArray)
set_option maxRecDepth 100000
set_option maxHeartbeats 8000000
namespace Go.Proofs.YteecgiebimdbhaaGreatDoor
open Go.RowKit
open Go.Sort Go.Maps
open M
def NatsAt (w : World) (A : Option Addr) (l : List Nat) : Prop :=
 ∀ (i x : Nat), l[i]? = some x -> ∃ g o : Nat, A = some ⟨g, o, none⟩ /\ g < w.heap.size /\ w.cell? ⟨g, o + i, none⟩ = some (.int .i64 x)
theorem NatsAt.move {S S' : Nat -> Prop} {w w' : World} {A : Option Addr} {l : List Nat} (h : NatsAt (strike S w) A l) (hz : w.heap.size <= w'.heap.size) (hb : ∀ b, b < w.heap.size -> ¬ S b -> ¬ S' b /\ w'.heap[b]? = w.heap[b]?) : NatsAt (strike S' w') A l := fun i x hx => by
 obtain ⟨g, o, hA, hg, hc⟩ := h i x hx
 obtain ⟨h1, h2⟩ := strike_cell.1 hc
 obtain ⟨h3, h4⟩ := hb g (World.block_lt_of_cell? _ _ h2) h1
 exact ⟨g, o, hA, by rw [strike_size] at hg ⊢; omega, strike_cell.2 ⟨h3, by rw [World.cell?_of_block (w := w) (a := ⟨g, _, none⟩) h4]; exact h2⟩⟩
theorem NatsAt.free {S : Nat -> Prop} {w : World} {A : Option Addr} {l : List Nat} (h : NatsAt (strike S w) A l) : NatsAt w A l := fun i x hx => by
 obtain ⟨g, o, hA, hg, hc⟩ := h i x hx
 exact ⟨g, o, hA, by rwa [strike_size] at hg, (strike_cell.1 hc).2⟩
theorem NatsAt.below {w w' : World} {A : Option Addr} {l : List Nat} (h : NatsAt w A l) (hb : Below w.heap.size w w') : NatsAt w' A l := fun i x hx => by
 obtain ⟨g, o, hA, hg, hc⟩ := h i x hx
 exact ⟨g, o, hA, Nat.lt_of_lt_of_le hg hb.size, (hb.cell (p := ⟨g, _, none⟩) hg).trans hc⟩
def enE (w : World) (l : List Value) (x : En) : Prop := ∃ (As : Option Addr) (cs : Nat), l = [.int .i64 x.at_, .int .i64 x.kind, .slice As x.said.length cs, .bool x.whole] /\ NatsAt w As x.said /\ x.said.length <= 1000000
def enR : Reads En := ⟨4, 284, enE, fun _ _ _ _ _ _ ⟨A, c, e, h, z⟩ hz hb => ⟨A, c, e, h.move hz hb, z⟩, fun _ _ _ _ ⟨A, c, e, h, z⟩ hb => ⟨A, c, e, h.below hb, z⟩, fun _ _ _ _ ⟨A, c, e, h, z⟩ => ⟨A, c, e, h.free, z⟩, fun _ l x ⟨A, c, e, _⟩ => by rw [e]; rfl⟩
def FoundAt (w : World) (fb n : Nat) (F : Nat -> Bool) : Prop := w.heap[fb]? = some (.cells ((List.range n).map fun i => Value.bool (F i)).toArray 4 (0, 0))
theorem FoundAt.cell {w : World} {fb n : Nat} {F : Nat -> Bool} (h : FoundAt w fb n F) {i : Nat} (hi : i < n) : w.cell? ⟨fb, i, none⟩ = some (.bool (F i)) := by
 rw [cZ h]; simp [hi]
theorem FoundAt.lt {w : World} {fb n : Nat} {F : Nat -> Bool} (h : FoundAt w fb n F) : fb < w.heap.size := (Array.getElem?_eq_some_iff.1 h).1
theorem FoundAt.put {w : World} {fb n : Nat} {F : Nat -> Bool} (h : FoundAt w fb n F) {i : Nat} (hi : i < n) : FoundAt (w.setCell ⟨fb, i, none⟩ (.bool true)) fb n (fun j => if j = i then true else F j) := by
 have := Joins.block_setCell (i := i) h (.bool true)
 unfold FoundAt
 rw [this]
 congr 2
 apply Array.ext'
 simp only [setIfInBounds_toArray]
 apply List.ext_getElem
 ·simp
 ·intro k h1 h2
  simp only [List.getElem_set, List.getElem_map, List.getElem_range];by_cases e : i = k
  ·subst e; simp
  ·rw [if_neg e, if_neg (fun x => e x.symm)]
def unf (n : Nat) (F : Nat -> Bool) : Nat := ((List.range n).filter fun i => !F i).length
theorem filter_le (F F' : Nat -> Bool) (h : ∀ i, F i = true -> F' i = true) : ∀ l : List Nat, (l.filter fun j => !F' j).length <= (l.filter fun j => !F j).length
 | [] => Nat.le_refl _
 | a :: l => by
  have ih := filter_le F F' h l;cases hF : F a with
  | true => simp [hF, h a hF]; exact ih
  | false =>
   cases hF' : F' a with
   | true => simp [hF, hF']; omega
   | false => simp [hF, hF']; exact ih
theorem filter_lt (F F' : Nat -> Bool) (h : ∀ i, F i = true -> F' i = true) {i : Nat} (hF : F i = false) (hF' : F' i = true) : ∀ l : List Nat, i ∈ l -> (l.filter fun j => !F' j).length < (l.filter fun j => !F j).length
 | [], hm => by cases hm
 | a :: l, hm => by
  have le := filter_le F F' h l;by_cases e : i = a
  ·subst e
   simp [hF, hF']; omega
  ·have ih := filter_lt F F' h hF hF' l ((List.mem_cons.1 hm).resolve_left e)
   cases hA : F a with
   | true => simp [hA, h a hA]; exact ih
   | false =>
    cases hA' : F' a with
    | true => simp [hA, hA']; omega
    | false => simp [hA, hA']; exact ih
theorem unf_put {n : Nat} {F : Nat -> Bool} {i : Nat} (hi : i < n) (hF : F i = false) : unf n (fun j => if j = i then true else F j) < unf n F :=
 filter_lt F (fun j => if j = i then true else F j) (fun j hj => by show (if j = i then true else F j) = true; split; rfl; exact hj) hF (by simp) (List.range n) (List.mem_range.2 hi)
theorem unf_le {n : Nat} {F F' : Nat -> Bool} (h : ∀ i, F i = true -> F' i = true) : unf n F' <= unf n F := filter_le F F' h _
theorem grown_of {w w' : World} {r : Option Nat} (h : Below w.heap.size w w') : w.grownBy w' r := ⟨h.os, h.tape, h.output, h.size, fun b hb _ => h.block b hb⟩
def Valid (E : List En) : Prop := ∀ x ∈ E, ∀ j ∈ x.said, j < E.length
theorem grown_over {a b c : World} {r : Nat} (h : a.grownBy b (some r)) (h' : b.grownBy c (some r)) : a.grownBy c (some r) := h.trans h'
theorem mark_any (E : List En) (hE : Valid E) (hE2 : E.length <= 1000000) (Ae : Option Addr) (ce b0 b1 cf : Nat) (U : Nat) : ∀ (F : Nat -> Bool) (fb : Nat) (l : List Nat) (As : Option Addr) (cs : Nat) (w : World), unf E.length F < U ->
  RowIn enR (strike (fun b => fb <= b) w) Ae E -> NatsAt (strike (fun b => fb <= b) w) As l -> (∀ i ∈ l, i < E.length) -> l.length <= 1000000 -> FoundAt w fb E.length F ->
  Calls Tryz.prog 272 #[.agg #[.map (some b0), .map (some b1), .slice Ae E.length ce], .slice As l.length cs, .slice (some ⟨fb, 0, none⟩) E.length cf] w fun e w' => e = .returned (.tuple #[]) /\ ∃ F', FoundAt w' fb E.length F' /\ Found E F l F' /\ w.grownBy w' (some fb) := by
 induction U with
 | zero => intro F fb l As cs w h; omega
 | succ U ih =>
 intro F fb l As cs w hU hR hl hv hll hF
 obtain ⟨wb, hwb⟩ : ∃ wb, wb = w.alloc (.cells #[.map (some b0), .map (some b1), .slice Ae E.length ce] 278) := ⟨_, rfl⟩
 have B0 : Below w.heap.size w wb := by rw [hwb]; exact below_new (Below.refl _ _) _
 have X0 : wb.heap[w.heap.size]? = some (.cells #[.map (some b0), .map (some b1), .slice Ae E.length ce] 278 (0, 0)) := by rw [hwb]; exact heap_alloc_new w _
 have hfb := hF.lt
 have HR := hZ hR
 have HL := hZ hl
 have HVL := hZ hv
 have HFb : Hid (FoundAt wb fb E.length F) := hZ ((B0.block fb hfb).trans hF)
 have HG0 : Hid (w.grownBy wb (some fb)) := hZ (grown_of B0)
 have HX0 := hZ X0
 have hbs : w.heap.size < wb.heap.size := by rw [hwb]; simp
 have HWB := hZ hwb
 have HEE := hZ hE
 obtain ⟨n, hn⟩ : ∃ n, n = E.length := ⟨_, rfl⟩
 have HN := hZ hn
 obtain ⟨q, hq⟩ : ∃ q, q = l.length := ⟨_, rfl⟩
 have HQ := hZ hq
 rw [<- hn] at hE2 ⊢
 rw [<- hn] at HX0 HFb HWB
 rw [<- hq] at hll ⊢
 clear hR hl hv hF B0 X0 hwb hE hn hq
 go_enter Tryz.func272, Tryz.ntmps272
 go_upto_region 1 with fail
 rw [<- HWB.out]
 go_wp2_with fail
 go_loopw [10] (fun iv wr => ∃ (k : Nat) (F1 : Nat -> Bool), k <= q /\ iv = .int .i64 k /\ Hid (FoundAt wr fb n F1) /\ Hid (Found E F (l.take k) F1) /\ Hid (wb.grownBy wr (some fb))) (fun iv _ => q - (intOf iv).toNat)
 case atStart => exact ⟨0, F, by omega, rfl, HFb, hZ (by simpa using Found.nil E F), hZ (grown_of (Below.refl _ _))⟩
 case round =>
  obtain ⟨k, F1, hk, rfl, HF1, HFD, HG⟩ := hrel;obtain ⟨wo, rfl⟩ : ∃ wo : World, wo = wr := ⟨_, rfl⟩;by_cases hlt : k < q
  ·obtain ⟨x, hx⟩ : ∃ x, l[k]? = some x := ⟨_, List.getElem?_eq_getElem (by rw [<- HQ.out]; exact hlt)⟩
   have hxn : x < n := by rw [HN.out]; exact HVL.out x (List.mem_of_getElem? hx)
   have hGw : w.grownBy wo (some fb) := grown_over HG0.out HG.out
   have mv : ∀ (wx : World), w.grownBy wx (some fb) -> NatsAt (strike (fun b => fb <= b) wx) As l /\ RowIn enR (strike (fun b => fb <= b) wx) Ae E := fun wx hg =>
    ⟨HL.out.move hg.size fun b hb hS => ⟨hS, hg.block b hb (by simp; omega)⟩, HR.out.move hg.size fun b hb hS => ⟨hS, hg.block b hb (by simp; omega)⟩⟩
   obtain ⟨g, o, rfl, hg, hc⟩ := (mv wo hGw).1.free k x hx;have hfc := HF1.out.cell hxn;have hff := Lib.frozen_of_heap HF1.out x;have hxi : (0 : Int) <= x := by omega
   have hxi2 : (x : Int) < n := by omega
   have htk : l.take (k + 1) = l.take k ++ [x] := by rw [List.take_add_one, hx]; rfl
   have HTK := hZ htk;clear htk;cases hFx : F1 x with
   | true =>
    rw [hFx] at hfc;have FD2 : Hid (Found E F (l.take (k + 1)) F1) := hZ (by rw [HTK.out]; exact HFD.out.skip hFx);clear hFx hx mv hGw;go_wp2_with fail
    go_roundw
    case rel => exact ⟨k + 1, F1, by omega, by go_num, HF1, FD2, HG⟩
    case measure => simp [intOf]; omega
   | false =>
    rw [hFx] at hfc;obtain ⟨w5, hw5⟩ : ∃ w5, w5 = wo.setCell ⟨fb, x, none⟩ (.bool true) := ⟨_, rfl⟩
    have hg5 : wo.grownBy w5 (some fb) := by
     rw [hw5];exact ⟨rfl, rfl, rfl, by simp, fun b _ hne => Below.heap_setCell _ _ _ _ (by show b ≠ fb; exact fun e => hne (by rw [e]))⟩
    have hF5 : FoundAt w5 fb n (fun j => if j = x then true else F1 j) := by rw [hw5]; exact HF1.out.put hxn
    have hgd : w5.grownBy w5.drew (some fb) := grown_of (Below.drew (Below.refl _ _));have hg5d : w.grownBy w5.drew (some fb) := grown_over (grown_over hGw hg5) hgd;have hgb : wb.grownBy w5.drew (some fb) := grown_over (grown_over HG.out hg5) hgd;have hy : E[x]? = some E[x] := List.getElem?_eq_getElem (by rw [<- HN.out]; exact hxn);obtain ⟨y, hyy⟩ : ∃ y, y = E[x] := ⟨_, rfl⟩;rw [<- hyy] at hy;obtain ⟨g2, o2, lv, rfl, hg2, hc2, As2, cs2, rfl, hNs, hlen2⟩ := (mv w5.drew hg5d).2 x y hy;have hb0 := hgb.block w.heap.size hbs (by simp; omega) |>.trans HX0.out
    have e2 := (strike_cell.1 (hc2 2 _ rfl)).2;have e2' : w5.drew.cell? ⟨g2, o2 + x * 4 + 2, none⟩ = some (.slice As2 y.said.length cs2) := e2
    have hH0 : w5.drew.cell? ⟨w.heap.size, 0, none⟩ = some (.map (some b0)) /\ w5.drew.cell? ⟨w.heap.size, 1, none⟩ = some (.map (some b1)) /\ w5.drew.cell? ⟨w.heap.size, 2, none⟩ = some (.slice (some ⟨g2, o2, none⟩) n ce) /\ w5.drew.cell? ⟨g2, o2 + x * 4 + 2, none⟩ = some (.slice As2 y.said.length cs2) :=
     ⟨cZ hb0 0, cZ hb0 1, cZ hb0 2, e2'⟩
    have hlt2 : unf E.length (fun j => if j = x then true else F1 j) < U := by
     rw [<- HN.out];have h1 := unf_put hxn hFx;have h2 := unf_le (n := n) (HFD.out.old);rw [<- HN.out] at hU;omega
    have IH := hZ (ih (fun j => if j = x then true else F1 j) fb y.said As2 cs2 w5.drew hlt2 (mv w5.drew hg5d).2 hNs (HEE.out y (List.mem_of_getElem? hy)) hlen2 (by rw [<- HN.out]; exact hF5));rw [<- HN.out] at IH;have HHG := hZ hgb;have HY := hZ hy;have HW5 := hZ hw5;clear hw5 hg5 hF5 hgd hg5d hgb hy hyy hc2 hNs hb0 e2 e2' hlt2 hFx hx mv hGw;go_upto_region 6 with fail
    rw [<- HW5.out];clear hfc hff hc;refine AnyX.start (fun wx => wx.cell? ⟨w.heap.size, 0, none⟩ = some (.map (some b0)) /\ wx.cell? ⟨w.heap.size, 1, none⟩ = some (.map (some b1)) /\ wx.cell? ⟨w.heap.size, 2, none⟩ = some (.slice (some ⟨g2, o2, none⟩) n ce) /\ wx.cell? ⟨g2, o2 + x * 4 + 2, none⟩ = some (.slice As2 y.said.length cs2)) (fun k => k == 8) (by kernel_rfl) ?_;refine AnyX.tk (i := 0) (v := ?_) rfl (fun _ _ _ h => h) hH0 (Or.inl ⟨by rfl, ?_⟩) ?_;rotate_left
    ·(intro wS hS; (try obtain ⟨c0, c1, c2, c3⟩ := hS); go_simp; try with_reducible rfl)
    simp only [getElem_toArray, getElem_cons_succ, getElem_cons_zero];simp only [Act.put, setIfInBounds_toArray, set_cons_zero, set_cons_succ];refine AnyX.mv (i := 1) (v := ?_) rfl (fun _ _ _ h => h) (Or.inl ⟨by rfl, ?_⟩) ?_;rotate_left
    ·(intro wS _; go_simp; try with_reducible rfl)
    simp only [getElem_toArray, getElem_cons_succ, getElem_cons_zero];simp only [Act.put, setIfInBounds_toArray, set_cons_zero, set_cons_succ];refine AnyX.tk (i := 2) (v := ?_) rfl (fun _ _ _ h => h) hH0 (Or.inl ⟨by rfl, ?_⟩) ?_;rotate_left
    ·(intro wS hS; (try obtain ⟨c0, c1, c2, c3⟩ := hS); go_simp; try with_reducible rfl)
    simp only [getElem_toArray, getElem_cons_succ, getElem_cons_zero];simp only [Act.put, setIfInBounds_toArray, set_cons_zero, set_cons_succ];refine AnyX.mv (i := 3) (v := ?_) rfl (fun _ _ _ h => h) (Or.inl ⟨by rfl, ?_⟩) ?_;rotate_left
    ·(intro wS _; go_simp; try with_reducible rfl)
    simp only [getElem_toArray, getElem_cons_succ, getElem_cons_zero];simp only [Act.put, setIfInBounds_toArray, set_cons_zero, set_cons_succ];refine AnyX.mv (i := 4) (v := ?_) rfl (fun _ _ _ h => h) (Or.inl ⟨by rfl, ?_⟩) ?_;rotate_left
    ·(intro wS _; go_simp; try with_reducible rfl)
    simp only [getElem_toArray, getElem_cons_succ, getElem_cons_zero];simp only [Act.put, setIfInBounds_toArray, set_cons_zero, set_cons_succ];refine AnyX.mv (i := 5) (v := ?_) rfl (fun _ _ _ h => h) (Or.inl ⟨by rfl, ?_⟩) ?_;rotate_left
    ·(intro wS _; go_simp; try with_reducible rfl)
    simp only [getElem_toArray, getElem_cons_succ, getElem_cons_zero];simp only [Act.put, setIfInBounds_toArray, set_cons_zero, set_cons_succ];refine AnyX.tk (i := 6) (v := ?_) rfl (fun _ _ _ h => h) hH0 (Or.inl ⟨by rfl, ?_⟩) ?_;rotate_left
    ·(intro wS hS; (try obtain ⟨c0, c1, c2, c3⟩ := hS); go_simp; try with_reducible rfl)
    simp only [getElem_toArray, getElem_cons_succ, getElem_cons_zero];simp only [Act.put, setIfInBounds_toArray, set_cons_zero, set_cons_succ];refine AnyX.mv (i := 7) (v := ?_) rfl (fun _ _ _ h => h) (Or.inl ⟨by rfl, ?_⟩) ?_;rotate_left
    ·(intro wS _; go_simp; try with_reducible rfl)
    simp only [getElem_toArray, getElem_cons_succ, getElem_cons_zero];simp only [Act.put, setIfInBounds_toArray, set_cons_zero, set_cons_succ];refine AnyX.go 8 (by kernel_rfl) rfl rfl (fun K hK => ?_);simp only [getElem_toArray, getElem_cons_succ, getElem_cons_zero];go_simp
    refine IH.out.mono ?_;rintro e w6 ⟨rfl, F3, hF3, hFD3, hg3⟩;have FD3 : Hid (Found E F (l.take (k + 1)) F3) := hZ (by rw [HTK.out]; exact HFD.out.more HY.out hFD3);have HF3 := hZ hF3;have HG3 := hZ (grown_over HHG.out hg3);clear hF3 hFD3 hg3;refine hK.out _ _ (fun hoff _ => absurd hoff (by decide)) ?_;clear hK;(try simp only [Act.put, setIfInBounds_toArray, set_cons_zero, set_cons_succ]);refine AnyX.done (by kernel_rfl) ?_ _;go_wp2_with fail
    go_roundw
    case rel => exact ⟨k + 1, F3, by omega, by go_num, HF3, FD3, HG3⟩
    case measure => simp [intOf]; omega
  ·obtain rfl : k = q := by omega
   have hfull : l.take k = l := List.take_of_length_le (by rw [<- HQ.out]; exact Nat.le_refl _);have FIN : Hid (Found E F l F1) := hZ (by have := HFD.out; rwa [hfull] at this);go_wp2_with fail
   go_end0
   exact ⟨rfl, F1, HF1.out, FIN.out, grown_over HG0.out HG.out⟩
theorem strike_none (w : World) : strike (fun _ => False) w = w := by
  unfold strike
  have : (w.heap.mapIdx fun i o => if False then Obj.cells #[] 0 (0, 0) else o) = w.heap := by
    apply Array.ext
    · simp
    · intro i h1 h2; simp
  simp only [if_false] at this ⊢;rw [this]
theorem row_ahead {α : Type} {R : Reads α} {w w' : World} {A : Option Addr} {xs : List α} {fb : Nat} (h : RowIn R w A xs) (hb : Below w.heap.size w w') (hf : w.heap.size <= fb) : RowIn R (strike (fun b => fb <= b) w') A xs := by
  rw [<- strike_none w] at h;exact h.move hb.size fun b hlt _ => ⟨by omega, hb.block b hlt⟩
theorem nats_ahead {w w' : World} {A : Option Addr} {xs : List Nat} {fb : Nat} (h : NatsAt w A xs) (hb : Below w.heap.size w w') (hf : w.heap.size <= fb) : NatsAt (strike (fun b => fb <= b) w') A xs := by
  rw [<- strike_none w] at h;exact h.move hb.size fun b hlt _ => ⟨by omega, hb.block b hlt⟩
theorem bool_info : (Tryz.prog.info? 4).map (fun i => (i.zero, i.size, i.bytes)) = some (some (.bool false), 1, 1) := by kernel_rfl
theorem made_bools (n : Nat) : madeCells (Value.bool false).cells (n * 1) = ((List.range n).map fun _ => Value.bool false).toArray := by
  apply Array.ext
  · simp [madeCells, Value.cells]
  · intro i h1 h2; simp [madeCells, Value.cells, Nat.mod_one]
theorem found_any (E : List En) (hE : Valid E) (hE2 : E.length <= 1000000) (Ae : Option Addr) (ce b0 b1 : Nat) (l : List Nat) (As : Option Addr) (cs : Nat) (w : World)
    (hR : RowIn enR w Ae E) (hl : NatsAt w As l) (hv : ∀ i ∈ l, i < E.length) (hll : l.length <= 1000000) :
    Calls Tryz.prog 248 #[.agg #[.map (some b0), .map (some b1), .slice Ae E.length ce], .slice As l.length cs] w fun e w' => ∃ fb, e = .returned (.slice (some ⟨fb, 0, none⟩) E.length E.length) /\ w.heap.size <= fb /\ FoundAt w' fb E.length (reachB E l) /\ Below w.heap.size w w' := by
  obtain ⟨w1, hw1⟩ : ∃ w1, w1 = w.alloc (.cells #[.map (some b0), .map (some b1), .slice Ae E.length ce] 278) := ⟨_, rfl⟩;have B1 : Below w.heap.size w w1 := by rw [hw1]; exact below_new (Below.refl _ _) _
  have X1 : w1.heap[w.heap.size]? = some (.cells #[.map (some b0), .map (some b1), .slice Ae E.length ce] 278 (0, 0)) := by rw [hw1]; exact heap_alloc_new w _
  have s1 : w1.heap.size = w.heap.size + 1 := by rw [hw1]; simp
  obtain ⟨w2, hw2⟩ : ∃ w2, w2 = w1.alloc (.cells (madeCells (Value.bool false).cells (E.length * 1)) 4) := ⟨_, rfl⟩;have B2 : Below w1.heap.size w1 w2 := by rw [hw2]; exact below_new (Below.refl _ _) _
  have F2 : FoundAt w2 w1.heap.size E.length (fun _ => false) := by
    unfold FoundAt
    rw [hw2, <- made_bools]; exact heap_alloc_new w1 _
  have B02 := below_over B1 B2;have MK := hZ (mark_any E hE hE2 Ae ce b0 b1 E.length (unf E.length (fun _ => false) + 1) (fun _ => false) w1.heap.size l As cs w2 (Nat.lt_succ_self _) (row_ahead hR B02 (by omega)) (nats_ahead hl B02 (by omega)) hv hll F2);obtain ⟨i0, hi, hz0, hz1, hz2⟩ := info_parts bool_info;have MS := run_makeSlice (P := Tryz.prog) (w := w1) 190 4 i0 (.bool false) Tryz.underlying190 hi hz0 .i64 .i64 (E.length : Int) (E.length : Int) (by omega) (by omega) (by rw [hz1]; simp; omega) (by rw [hz2]; omega) (by omega);rw [hz1] at MS;simp only [Int.toNat_natCast] at MS;rw [<- hw2] at MS;obtain ⟨x0, x1, x2⟩ := cq3 X1;simp at x0 x1 x2;have Y := (B2.block w.heap.size (by omega)).trans X1;have HY := hZ Y;have HB := hZ B02;have HW1 := hZ hw1;obtain ⟨n, hn⟩ : ∃ n, n = E.length := ⟨_, rfl⟩;have HN := hZ hn;rw [<- hn] at MS x2 HY HW1 MK hE2 ⊢;have hlo : w.heap.size <= w1.heap.size := by omega
  have HS2 : Hid (w2.heap.size = w1.heap.size + 1) := hZ (by rw [hw2]; simp);have HS1 := hZ s1;clear B1 X1 hw2 B2 F2 B02 Y hR hl hw1 hn s1;go_enter Tryz.func248, Tryz.ntmps248
  go_upto_region 1 with fail
  rw [<- HW1.out];go_upto_region 2 with fail
  clear MS x0 x1 x2;obtain ⟨x0, x1, x2⟩ := cq3 HY.out;simp at x0 x1 x2;go_wp2_with fail
  refine MK.out.mono ?_;rintro e w3 ⟨rfl, F, hF, hFD, hg⟩
  have FA : Hid (FoundAt w3 w1.heap.size n (reachB E l)) := hZ (by
    have : F = reachB E l := funext fun i => hFD.all i
    rw [<- this]; exact hF)
  have FB : Hid (Below w.heap.size w w3) := hZ (HB.out.trans ⟨hg.os, hg.tape, hg.output, hg.size, fun b hb => hg.block b (by have := HS1.out; have := HS2.out; omega) (by have := HS1.out; simp; omega)⟩);clear hF hFD hg x0 x1 x2;go_wp2_with fail
  go_ret;exact ⟨_, rfl, hlo, FA.out, FB.out⟩
theorem mis_any (at_ kind : Int) (As : Option Addr) (n cs : Nat) (b : Bool) (w : World) : Calls Tryz.prog 244 #[.agg #[.int .i64 at_, .int .i64 kind, .slice As n cs, .bool b]] w fun e w' => e = .returned (.bool (!b)) /\ Below w.heap.size w w' := by
  go_enter Tryz.func244, Tryz.ntmps244
  go_wp2_with fail
  go_ret;exact ⟨rfl, below_new (Below.refl _ _) _⟩
theorem two_boxes (w : World) (c1 c2 : Array Value) (t1 t2 : TypeId) : ∃ W2, W2 = (w.alloc (.cells c1 t1)).alloc (.cells c2 t2) /\ Below w.heap.size w W2 /\ W2.heap[w.heap.size]? = some (.cells c1 t1 (0, 0)) /\ W2.heap[w.heap.size + 1]? = some (.cells c2 t2 (0, 0)) /\ w.heap.size + 1 < W2.heap.size := by
  have hs1 : (w.alloc (.cells c1 t1)).heap.size = w.heap.size + 1 := by simp
  refine ⟨_, rfl, below_new (below_new (Below.refl _ _) _) _, ?_, ?_, by simp⟩
  · rw [Lib.alloc_old _ _ _ (by rw [hs1]; omega)]; exact heap_alloc_new w _
  · rw [<- hs1]; exact heap_alloc_new _ _
noncomputable def hidB (E : List En) (l : List Nat) : Bool := (List.range E.length).any fun i => reachB E l i && (match E[i]? with | some y => y.kind == 2 | none => false)
theorem circ_any (E : List En) (hE : Valid E) (hE2 : E.length <= 1000000) (Ae : Option Addr) (ce b0 b1 : Nat) (x : En) (As : Option Addr) (cs : Nat) (w : World)
    (hR : RowIn enR w Ae E) (hl : NatsAt w As x.said) (hv : ∀ i ∈ x.said, i < E.length) (hll : x.said.length <= 1000000) (hx : x.at_ < E.length) :
    Calls Tryz.prog 245 #[.agg #[.map (some b0), .map (some b1), .slice Ae E.length ce], .agg #[.int .i64 x.at_, .int .i64 x.kind, .slice As x.said.length cs, .bool x.whole]] w fun e w' => e = .returned (.bool (reachB E x.said x.at_)) /\ Below w.heap.size w w' := by
  obtain ⟨W2, hW2, hB, X1, X2, hlo⟩ := two_boxes w #[.map (some b0), .map (some b1), .slice Ae E.length ce] #[.int .i64 x.at_, .int .i64 x.kind, .slice As x.said.length cs, .bool x.whole] 278 284;have BD : Below W2.heap.size W2 W2.drew := Below.drew (Below.refl _ _);have BW := below_over hB BD;have AL := hZ (found_any E hE hE2 Ae ce b0 b1 x.said As cs W2.drew (hR.below BW) (hl.below BW) hv hll);have Y1 := (BD.block _ (by omega)).trans X1;have Y2 := (BD.block _ hlo).trans X2
  have hH0 : (W2.drew.cell? ⟨w.heap.size, 0, none⟩ = some (.map (some b0)) /\ W2.drew.cell? ⟨w.heap.size, 1, none⟩ = some (.map (some b1)) /\ W2.drew.cell? ⟨w.heap.size, 2, none⟩ = some (.slice Ae E.length ce)) /\ W2.drew.cell? ⟨w.heap.size + 1, 0, none⟩ = some (.int .i64 x.at_) /\ W2.drew.cell? ⟨w.heap.size + 1, 2, none⟩ = some (.slice As x.said.length cs) :=
    ⟨⟨cZ Y1 0, cZ Y1 1, cZ Y1 2⟩, cZ Y2 0, cZ Y2 2⟩
  have HBW := hZ BW;have HW2 := hZ hW2;have hsd : W2.drew.heap.size = W2.heap.size := rfl;have HSD := hZ hsd;have hx1 : (0 : Int) <= x.at_ := by omega
  have hx2 : (x.at_ : Int) < E.length := by omega
  obtain ⟨n, hn⟩ : ∃ n, n = E.length := ⟨_, rfl⟩;rw [<- hn] at hH0 HW2 AL hx hx2 hE2 ⊢;clear hB X1 X2 BD BW hW2 Y1 Y2 hR hl hsd hn;go_enter Tryz.func245, Tryz.ntmps245
  go_upto_region 1 with fail
  rw [<- HW2.out];refine AnyX.start (fun wx => (wx.cell? ⟨w.heap.size, 0, none⟩ = some (.map (some b0)) /\ wx.cell? ⟨w.heap.size, 1, none⟩ = some (.map (some b1)) /\ wx.cell? ⟨w.heap.size, 2, none⟩ = some (.slice Ae n ce)) /\ wx.cell? ⟨w.heap.size + 1, 0, none⟩ = some (.int .i64 x.at_) /\ wx.cell? ⟨w.heap.size + 1, 2, none⟩ = some (.slice As x.said.length cs)) (fun _ => false) (by kernel_rfl) ?_;refine AnyX.tk (i := 0) (v := ?_) rfl (fun _ _ _ h => h) hH0 (Or.inl ⟨by rfl, ?_⟩) ?_;rotate_left
  · (intro wS hS; (try obtain ⟨⟨c0, c1, c2⟩, c3, c4⟩ := hS); go_simp; try with_reducible rfl)
  simp only [getElem_toArray, getElem_cons_succ, getElem_cons_zero];simp only [Act.put, setIfInBounds_toArray, set_cons_zero, set_cons_succ];refine AnyX.mv (i := 1) (v := ?_) rfl (fun _ _ _ h => h) (Or.inl ⟨by rfl, ?_⟩) ?_;rotate_left
  · (intro wS _; go_simp; try with_reducible rfl)
  simp only [getElem_toArray, getElem_cons_succ, getElem_cons_zero];simp only [Act.put, setIfInBounds_toArray, set_cons_zero, set_cons_succ];refine AnyX.tk (i := 2) (v := ?_) rfl (fun _ _ _ h => h) hH0 (Or.inl ⟨by rfl, ?_⟩) ?_;rotate_left
  · (intro wS hS; (try obtain ⟨⟨c0, c1, c2⟩, c3, c4⟩ := hS); go_simp; try with_reducible rfl)
  simp only [getElem_toArray, getElem_cons_succ, getElem_cons_zero];simp only [Act.put, setIfInBounds_toArray, set_cons_zero, set_cons_succ];refine AnyX.mv (i := 4) (v := ?_) rfl (fun _ _ _ h => h) (Or.inl ⟨by rfl, ?_⟩) ?_;rotate_left
  · (intro wS _; go_simp; try with_reducible rfl)
  simp only [getElem_toArray, getElem_cons_succ, getElem_cons_zero];simp only [Act.put, setIfInBounds_toArray, set_cons_zero, set_cons_succ];refine AnyX.tk (i := 5) (v := ?_) rfl (fun _ _ _ h => h) hH0 (Or.inl ⟨by rfl, ?_⟩) ?_;rotate_left
  · (intro wS hS; (try obtain ⟨⟨c0, c1, c2⟩, c3, c4⟩ := hS); go_simp; try with_reducible rfl)
  simp only [getElem_toArray, getElem_cons_succ, getElem_cons_zero];simp only [Act.put, setIfInBounds_toArray, set_cons_zero, set_cons_succ];refine AnyX.go 3 (by kernel_rfl) rfl rfl (fun K hK => ?_);simp only [getElem_toArray, getElem_cons_succ, getElem_cons_zero];go_simp
  refine AL.out.mono ?_;rintro e w3 ⟨fb, rfl, hfb, hF, hb⟩;have hc := hF.cell hx;have HF := hZ (below_over HBW.out hb)
  have hH3 : (w3.cell? ⟨w.heap.size, 0, none⟩ = some (.map (some b0)) /\ w3.cell? ⟨w.heap.size, 1, none⟩ = some (.map (some b1)) /\ w3.cell? ⟨w.heap.size, 2, none⟩ = some (.slice Ae n ce)) /\ w3.cell? ⟨w.heap.size + 1, 0, none⟩ = some (.int .i64 x.at_) /\ w3.cell? ⟨w.heap.size + 1, 2, none⟩ = some (.slice As x.said.length cs) := by
    have hw : ∀ (b o : Nat) (v : Value), b <= w.heap.size + 1 -> W2.drew.cell? ⟨b, o, none⟩ = some v -> w3.cell? ⟨b, o, none⟩ = some v := fun b o v h1 h2 => (hb.cell (p := ⟨b, o, none⟩) (by show b < W2.drew.heap.size; rw [HSD.out]; omega)).trans h2
    exact ⟨⟨hw _ _ _ (by omega) hH0.1.1, hw _ _ _ (by omega) hH0.1.2.1, hw _ _ _ (by omega) hH0.1.2.2⟩, hw _ _ _ (by omega) hH0.2.1, hw _ _ _ (by omega) hH0.2.2⟩
  clear hF hb;refine hK.out _ _ (fun hoff _ => hH3) ?_;clear hK;(try simp only [Act.put, setIfInBounds_toArray, set_cons_zero, set_cons_succ]);refine AnyX.mv (i := 6) (v := ?_) rfl (fun _ _ _ h => h) (Or.inl ⟨by rfl, ?_⟩) ?_;rotate_left
  · (intro wS _; go_simp; try with_reducible rfl)
  simp only [getElem_toArray, getElem_cons_succ, getElem_cons_zero];simp only [Act.put, setIfInBounds_toArray, set_cons_zero, set_cons_succ];refine AnyX.go 7 (by kernel_rfl) rfl rfl (fun K hK => ?_);simp only [getElem_toArray, getElem_cons_succ, getElem_cons_zero];go_simp
  refine hK.out _ _ (fun hoff _ => hH3) ?_;clear hK;(try simp only [Act.put, setIfInBounds_toArray, set_cons_zero, set_cons_succ]);refine AnyX.mv (i := 8) (v := ?_) rfl (fun _ _ _ h => h) (Or.inl ⟨by rfl, ?_⟩) ?_;rotate_left
  · (intro wS _; go_simp; try with_reducible rfl)
  simp only [getElem_toArray, getElem_cons_succ, getElem_cons_zero];simp only [Act.put, setIfInBounds_toArray, set_cons_zero, set_cons_succ];refine AnyX.done (by kernel_rfl) ?_ _;go_wp2_with fail
  go_ret;exact ⟨rfl, HF.out⟩
theorem hid_at {E : List En} {l : List Nat} {k : Nat} {x : En} (hx : E[k]? = some x) : (match E[k]? with | some y => y.kind == 2 | none => false) = (x.kind == 2) := by rw [hx]
theorem hid_snoc (E : List En) (l : List Nat) (k : Nat) : ((List.range (k + 1)).any fun i => reachB E l i && (match E[i]? with | some y => y.kind == 2 | none => false)) = (((List.range k).any fun i => reachB E l i && (match E[i]? with | some y => y.kind == 2 | none => false)) || (reachB E l k && (match E[k]? with | some y => y.kind == 2 | none => false))) := by
  rw [List.range_succ, List.any_append]; simp
theorem hid_yes {E : List En} {l : List Nat} {k : Nat} {x : En} (hk : k < E.length) (hx : E[k]? = some x) (h1 : reachB E l k = true) (h2 : (x.kind == 2) = true) : hidB E l = true := by
  unfold hidB
  rw [List.any_eq_true];exact ⟨k, List.mem_range.2 hk, by rw [h1, hx]; exact h2⟩
theorem hid_any (E : List En) (hE : Valid E) (hE2 : E.length <= 1000000) (Ae : Option Addr) (ce b0 b1 : Nat) (x : En) (As : Option Addr) (cs : Nat) (w : World)
    (hR : RowIn enR w Ae E) (hl : NatsAt w As x.said) (hv : ∀ i ∈ x.said, i < E.length) (hll : x.said.length <= 1000000) :
    Calls Tryz.prog 246 #[.agg #[.map (some b0), .map (some b1), .slice Ae E.length ce], .agg #[.int .i64 x.at_, .int .i64 x.kind, .slice As x.said.length cs, .bool x.whole]] w fun e w' => e = .returned (.bool (hidB E x.said)) /\ Below w.heap.size w w' := by
  obtain ⟨W2, hW2, hB, X1, X2, hlo⟩ := two_boxes w #[.map (some b0), .map (some b1), .slice Ae E.length ce] #[.int .i64 x.at_, .int .i64 x.kind, .slice As x.said.length cs, .bool x.whole] 278 284;have AL := hZ (found_any E hE hE2 Ae ce b0 b1 x.said As cs W2 (hR.below hB) (hl.below hB) hv hll);obtain ⟨x0, x1, x2⟩ := cq3 X1;have z2 := cZ X2 2;simp at x0 x1 x2 z2;have HX1 := hZ X1;have HB := hZ hB;have HW2 := hZ hW2;have HR := hZ (hR.below hB);obtain ⟨V, hV⟩ : ∃ V, V = hidB E x.said := ⟨_, rfl⟩;have HV := hZ hV;obtain ⟨n, hn⟩ : ∃ n, n = E.length := ⟨_, rfl⟩;have HN := hZ hn;rw [<- hn] at x2 HX1 HW2 AL hE2 ⊢;rw [<- hV];clear hB X1 X2 hW2 hR hl hn hV;go_enter Tryz.func246, Tryz.ntmps246
  go_upto_region 1 with fail
  rw [<- HW2.out];go_wp2_with fail
  refine AL.out.mono ?_;rintro e w3 ⟨fb, rfl, hfb, hF, hb⟩;have HF := hZ hF;have HB3 := hZ (below_over HB.out hb);have Y1 := (hb.block w.heap.size (by omega)).trans HX1.out;have HR3 := hZ (HR.out.below hb);have y2 := cZ Y1 2;simp at y2;clear hF hb x0 x1 x2 z2 Y1;go_wp2_with fail
  go_loopw [12] (fun iv wr => ∃ k : Nat, k <= n /\ iv = .int .i64 k /\ wr = w3 /\ Hid (((List.range k).any fun i => reachB E x.said i && (match E[i]? with | some y => y.kind == 2 | none => false)) = false)) (fun iv _ => n - (intOf iv).toNat)
  case atStart => exact ⟨0, by omega, rfl, rfl, hZ rfl⟩
  case round =>
    obtain ⟨k, hk, rfl, rfl, HQ⟩ := hrel;by_cases hlt : k < n
    · have hc := HF.out.cell hlt
      have hy : E[k]? = some E[k] := List.getElem?_eq_getElem (by rw [<- HN.out]; exact hlt);obtain ⟨y, hyy⟩ : ∃ y, y = E[k] := ⟨_, rfl⟩;rw [<- hyy] at hy;obtain ⟨g2, o2, lv, rfl, hg2, hc2, As2, cs2, rfl, hNs, hlen2⟩ := HR3.out k y hy;have u1 := hc2 1 _ rfl;have u1' : wr.cell? ⟨g2, o2 + k * 4 + 1, none⟩ = some (.int .i64 y.kind) := u1
      have HY := hZ hy;have hNE : k < E.length := by rw [<- HN.out]; exact hlt
      obtain ⟨r, hr⟩ : ∃ r, reachB E x.said k = r := ⟨_, rfl⟩;obtain ⟨p, hp⟩ : ∃ p, (y.kind == 2) = p := ⟨_, rfl⟩;rw [hr] at hc
      have NX : Hid ((r && p) = false -> ((List.range (k + 1)).any fun i => reachB E x.said i && (match E[i]? with | some y => y.kind == 2 | none => false)) = false) := hZ (fun h => by
        rw [hid_snoc, HQ.out, hid_at HY.out (l := []), hr, hp, h]; rfl)
      have YS : Hid (r = true -> p = true -> V = true) := hZ (fun h1 h2 => by rw [HV.out]; exact hid_yes hNE HY.out (by rw [hr, h1]) (by rw [hp, h2]));clear hy hyy hc2 hNs u1 hr HY;cases r with
      | false =>
        go_wp2_with fail
        go_roundw
        case rel => exact ⟨k + 1, by omega, by go_num, by first | rfl | trivial, hZ (NX.out rfl)⟩
        case measure => simp [intOf]; omega
      | true =>
        cases p with
        | false =>
          go_wp2_with fail
          go_roundw
          case rel => exact ⟨k + 1, by omega, by go_num, by first | rfl | trivial, hZ (NX.out rfl)⟩
          case measure => simp [intOf]; omega
        | true =>
          have RV := YS.out rfl rfl;subst RV;go_wp2_with fail
          go_ret;exact ⟨rfl, HB3.out⟩
    · obtain rfl : k = n := by omega
      have RV : V = false := by rw [HV.out]; unfold hidB; rw [<- HN.out]; exact HQ.out
      subst RV;go_wp2_with fail
      go_ret;exact ⟨rfl, HB3.out⟩
def fstN (p : Nat -> Bool) (n : Nat) : Int := match (List.range n).find? p with | some i => (i : Int) | none => -1
theorem fstN_yes {p : Nat -> Bool} {n k : Nat} (hk : k < n) (h : ∀ i, i < k -> p i = false) (hp : p k = true) : fstN p n = k := by
 unfold fstN
 have : (List.range n).find? p = some k := by
  rw [List.find?_range_eq_some];exact ⟨hp, List.mem_range.2 hk, fun i hi => by rw [h i hi]; rfl⟩
 rw [this]
theorem fstN_no {p : Nat -> Bool} {n : Nat} (h : ∀ i, i < n -> p i = false) : fstN p n = -1 := by
 unfold fstN
 have : (List.range n).find? p = none := by
  rw [List.find?_eq_none];intro i hi;rw [h i (List.mem_range.1 hi)]; decide
 rw [this]
noncomputable def atE (E : List En) (p : En -> Bool) (i : Nat) : Bool := match E[i]? with | some x => p x | none => false
theorem atE_some {E : List En} {p : En -> Bool} {i : Nat} {x : En} (h : E[i]? = some x) : atE E p i = p x := by unfold atE; rw [h]
theorem index_mis (E : List En) (hE : Valid E) (hE2 : E.length <= 1000000) (hA : ∀ x ∈ E, x.at_ < E.length) (Ae : Option Addr) (ce b0 b1 : Nat) (w : World) (hR : RowIn enR w Ae E) :
  Calls Tryz.prog 243 #[.slice Ae E.length ce, .func (.func 244) #[] #[]] w fun e w' => e = .returned (.int .i64 (fstN (atE E (fun x => !x.whole)) E.length)) /\ Below w.heap.size w w' := by
 have HR := hZ hR
 obtain ⟨V, hV⟩ : ∃ V, V = fstN (atE E (fun x => !x.whole)) E.length := ⟨_, rfl⟩
 have HV := hZ hV
 rw [<- hV]
 obtain ⟨n, hn⟩ : ∃ n, n = E.length := ⟨_, rfl⟩
 have HN := hZ hn
 have HEE := hZ hE
 have HAA := hZ hA
 rw [<- hn] at hE2 ⊢
 clear hR hn hV hE hA
 go_enter Tryz.func243, Tryz.ntmps243
 go_wp2_with fail
 go_loopw [8] (fun iv wr => ∃ k : Nat, k <= n /\ iv = .int .i64 k /\ Hid (∀ i, i < k -> atE E (fun x => !x.whole) i = false) /\ Hid (Below w.heap.size w wr)) (fun iv _ => n - (intOf iv).toNat)
 case atStart => exact ⟨0, by omega, rfl, hZ (fun i h => by omega), hZ (Below.refl _ _)⟩
 case round =>
  obtain ⟨k, hk, rfl, HQ, HB⟩ := hrel;obtain ⟨wo, rfl⟩ : ∃ wo : World, wo = wr := ⟨_, rfl⟩;by_cases hlt : k < n
  ·have hx : E[k]? = some E[k] := List.getElem?_eq_getElem (by rw [<- HN.out]; exact hlt)
   obtain ⟨x, hxx⟩ : ∃ x, x = E[k] := ⟨_, rfl⟩;rw [<- hxx] at hx;obtain ⟨g, o, lv, rfl, hg, hc, As, cs, rfl, hNs, hlen⟩ := HR.out.below HB.out k x hx;have u0 := hc 0 _ rfl;have u1 := hc 1 _ rfl;have u2 := hc 2 _ rfl;have u3 := hc 3 _ rfl;have y0 : wo.cell? ⟨g, o + k * 4, none⟩ = some (.int .i64 x.at_) := u0;have y1 : wo.cell? ⟨g, o + k * 4 + 1, none⟩ = some (.int .i64 x.kind) := u1;have y2 : wo.cell? ⟨g, o + k * 4 + 2, none⟩ = some (.slice As x.said.length cs) := u2;have y3 : wo.cell? ⟨g, o + k * 4 + 3, none⟩ = some (.bool x.whole) := u3;have hmem := List.mem_of_getElem? hx;have CA := hZ (mis_any x.at_ x.kind As x.said.length cs x.whole wo);obtain ⟨r, hr⟩ : ∃ r, (!x.whole) = r := ⟨_, rfl⟩;rw [hr] at CA;have HAT : Hid (atE E (fun x => !x.whole) k = r) := hZ (by rw [atE_some hx]; exact hr);clear hx hxx hc hNs hlen u0 u1 u2 u3 hr hmem;cases r with
   | true =>
    have RV : V = (k : Int) := by rw [HV.out]; exact fstN_yes (by rw [<- HN.out]; exact hlt) HQ.out HAT.out
    subst RV;go_wp2_with fail
    refine CA.out.mono ?_; rintro e w2 ⟨rfl, hb2⟩
    have HB2 := hZ (below_over HB.out hb2);clear y0 y1 y2 y3 hb2;go_wp2_with fail
    go_ret;exact ⟨rfl, HB2.out⟩
   | false =>
    go_wp2_with fail
    refine CA.out.mono ?_; rintro e w2 ⟨rfl, hb2⟩
    have HB2 := hZ (below_over HB.out hb2);clear y0 y1 y2 y3 hb2;go_wp2_with fail
    go_roundw
    case rel => exact ⟨k + 1, by omega, by go_num, hZ (fun i hi => by
     by_cases e : i = k
     ·rw [e]; exact HAT.out
     ·exact HQ.out i (by omega)), HB2⟩
    case measure => simp [intOf]; omega
  ·have RV : V = -1 := by rw [HV.out]; exact fstN_no (fun i hi => HQ.out i (by rw [<- HN.out] at hi; omega))
   subst RV;go_wp2_with fail
   go_ret;exact ⟨rfl, HB.out⟩
theorem index_circ (E : List En) (hE : Valid E) (hE2 : E.length <= 1000000) (hA : ∀ x ∈ E, x.at_ < E.length) (Ae : Option Addr) (ce b0 b1 : Nat) (w : World) (hR : RowIn enR w Ae E) :
  Calls Tryz.prog 243 #[.slice Ae E.length ce, .func (.func 245) #[.agg #[.map (some b0), .map (some b1), .slice Ae E.length ce]] #[]] w fun e w' => e = .returned (.int .i64 (fstN (atE E (fun x => reachB E x.said x.at_)) E.length)) /\ Below w.heap.size w w' := by
 have HR := hZ hR
 obtain ⟨V, hV⟩ : ∃ V, V = fstN (atE E (fun x => reachB E x.said x.at_)) E.length := ⟨_, rfl⟩
 have HV := hZ hV
 rw [<- hV]
 obtain ⟨n, hn⟩ : ∃ n, n = E.length := ⟨_, rfl⟩
 have HN := hZ hn
 have HEE := hZ hE
 have HAA := hZ hA
 rw [<- hn] at hE2 ⊢
 clear hR hn hV hE hA
 go_enter Tryz.func243, Tryz.ntmps243
 go_wp2_with fail
 go_loopw [8] (fun iv wr => ∃ k : Nat, k <= n /\ iv = .int .i64 k /\ Hid (∀ i, i < k -> atE E (fun x => reachB E x.said x.at_) i = false) /\ Hid (Below w.heap.size w wr)) (fun iv _ => n - (intOf iv).toNat)
 case atStart => exact ⟨0, by omega, rfl, hZ (fun i h => by omega), hZ (Below.refl _ _)⟩
 case round =>
  obtain ⟨k, hk, rfl, HQ, HB⟩ := hrel;obtain ⟨wo, rfl⟩ : ∃ wo : World, wo = wr := ⟨_, rfl⟩;by_cases hlt : k < n
  ·have hx : E[k]? = some E[k] := List.getElem?_eq_getElem (by rw [<- HN.out]; exact hlt)
   obtain ⟨x, hxx⟩ : ∃ x, x = E[k] := ⟨_, rfl⟩;rw [<- hxx] at hx;obtain ⟨g, o, lv, rfl, hg, hc, As, cs, rfl, hNs, hlen⟩ := HR.out.below HB.out k x hx;have u0 := hc 0 _ rfl;have u1 := hc 1 _ rfl;have u2 := hc 2 _ rfl;have u3 := hc 3 _ rfl;have y0 : wo.cell? ⟨g, o + k * 4, none⟩ = some (.int .i64 x.at_) := u0;have y1 : wo.cell? ⟨g, o + k * 4 + 1, none⟩ = some (.int .i64 x.kind) := u1;have y2 : wo.cell? ⟨g, o + k * 4 + 2, none⟩ = some (.slice As x.said.length cs) := u2;have y3 : wo.cell? ⟨g, o + k * 4 + 3, none⟩ = some (.bool x.whole) := u3;have hmem := List.mem_of_getElem? hx;have CA := hZ (circ_any E HEE.out (by rw [<- HN.out]; exact hE2) _ ce b0 b1 x As cs wo (HR.out.below HB.out) hNs (HEE.out x hmem) hlen (HAA.out x hmem));rw [<- HN.out] at CA;obtain ⟨r, hr⟩ : ∃ r, reachB E x.said x.at_ = r := ⟨_, rfl⟩;rw [hr] at CA;have HAT : Hid (atE E (fun x => reachB E x.said x.at_) k = r) := hZ (by rw [atE_some hx]; exact hr);clear hx hxx hc hNs hlen u0 u1 u2 u3 hr hmem;cases r with
   | true =>
    have RV : V = (k : Int) := by rw [HV.out]; exact fstN_yes (by rw [<- HN.out]; exact hlt) HQ.out HAT.out
    subst RV;go_wp2_with fail
    refine CA.out.mono ?_; rintro e w2 ⟨rfl, hb2⟩
    have HB2 := hZ (below_over HB.out hb2);clear y0 y1 y2 y3 hb2;go_wp2_with fail
    go_ret;exact ⟨rfl, HB2.out⟩
   | false =>
    go_wp2_with fail
    refine CA.out.mono ?_; rintro e w2 ⟨rfl, hb2⟩
    have HB2 := hZ (below_over HB.out hb2);clear y0 y1 y2 y3 hb2;go_wp2_with fail
    go_roundw
    case rel => exact ⟨k + 1, by omega, by go_num, hZ (fun i hi => by
     by_cases e : i = k
     ·rw [e]; exact HAT.out
     ·exact HQ.out i (by omega)), HB2⟩
    case measure => simp [intOf]; omega
  ·have RV : V = -1 := by rw [HV.out]; exact fstN_no (fun i hi => HQ.out i (by rw [<- HN.out] at hi; omega))
   subst RV;go_wp2_with fail
   go_ret;exact ⟨rfl, HB.out⟩
theorem index_hid (E : List En) (hE : Valid E) (hE2 : E.length <= 1000000) (hA : ∀ x ∈ E, x.at_ < E.length) (Ae : Option Addr) (ce b0 b1 : Nat) (w : World) (hR : RowIn enR w Ae E) :
  Calls Tryz.prog 243 #[.slice Ae E.length ce, .func (.func 246) #[.agg #[.map (some b0), .map (some b1), .slice Ae E.length ce]] #[]] w fun e w' => e = .returned (.int .i64 (fstN (atE E (fun x => hidB E x.said)) E.length)) /\ Below w.heap.size w w' := by
 have HR := hZ hR
 obtain ⟨V, hV⟩ : ∃ V, V = fstN (atE E (fun x => hidB E x.said)) E.length := ⟨_, rfl⟩
 have HV := hZ hV
 rw [<- hV]
 obtain ⟨n, hn⟩ : ∃ n, n = E.length := ⟨_, rfl⟩
 have HN := hZ hn
 have HEE := hZ hE
 have HAA := hZ hA
 rw [<- hn] at hE2 ⊢
 clear hR hn hV hE hA
 go_enter Tryz.func243, Tryz.ntmps243
 go_wp2_with fail
 go_loopw [8] (fun iv wr => ∃ k : Nat, k <= n /\ iv = .int .i64 k /\ Hid (∀ i, i < k -> atE E (fun x => hidB E x.said) i = false) /\ Hid (Below w.heap.size w wr)) (fun iv _ => n - (intOf iv).toNat)
 case atStart => exact ⟨0, by omega, rfl, hZ (fun i h => by omega), hZ (Below.refl _ _)⟩
 case round =>
  obtain ⟨k, hk, rfl, HQ, HB⟩ := hrel;obtain ⟨wo, rfl⟩ : ∃ wo : World, wo = wr := ⟨_, rfl⟩;by_cases hlt : k < n
  ·have hx : E[k]? = some E[k] := List.getElem?_eq_getElem (by rw [<- HN.out]; exact hlt)
   obtain ⟨x, hxx⟩ : ∃ x, x = E[k] := ⟨_, rfl⟩;rw [<- hxx] at hx;obtain ⟨g, o, lv, rfl, hg, hc, As, cs, rfl, hNs, hlen⟩ := HR.out.below HB.out k x hx;have u0 := hc 0 _ rfl;have u1 := hc 1 _ rfl;have u2 := hc 2 _ rfl;have u3 := hc 3 _ rfl;have y0 : wo.cell? ⟨g, o + k * 4, none⟩ = some (.int .i64 x.at_) := u0;have y1 : wo.cell? ⟨g, o + k * 4 + 1, none⟩ = some (.int .i64 x.kind) := u1;have y2 : wo.cell? ⟨g, o + k * 4 + 2, none⟩ = some (.slice As x.said.length cs) := u2;have y3 : wo.cell? ⟨g, o + k * 4 + 3, none⟩ = some (.bool x.whole) := u3;have hmem := List.mem_of_getElem? hx;have CA := hZ (hid_any E HEE.out (by rw [<- HN.out]; exact hE2) _ ce b0 b1 x As cs wo (HR.out.below HB.out) hNs (HEE.out x hmem) hlen);rw [<- HN.out] at CA;obtain ⟨r, hr⟩ : ∃ r, hidB E x.said = r := ⟨_, rfl⟩;rw [hr] at CA;have HAT : Hid (atE E (fun x => hidB E x.said) k = r) := hZ (by rw [atE_some hx]; exact hr);clear hx hxx hc hNs hlen u0 u1 u2 u3 hr hmem;cases r with
   | true =>
    have RV : V = (k : Int) := by rw [HV.out]; exact fstN_yes (by rw [<- HN.out]; exact hlt) HQ.out HAT.out
    subst RV;go_wp2_with fail
    refine CA.out.mono ?_; rintro e w2 ⟨rfl, hb2⟩
    have HB2 := hZ (below_over HB.out hb2);clear y0 y1 y2 y3 hb2;go_wp2_with fail
    go_ret;exact ⟨rfl, HB2.out⟩
   | false =>
    go_wp2_with fail
    refine CA.out.mono ?_; rintro e w2 ⟨rfl, hb2⟩
    have HB2 := hZ (below_over HB.out hb2);clear y0 y1 y2 y3 hb2;go_wp2_with fail
    go_roundw
    case rel => exact ⟨k + 1, by omega, by go_num, hZ (fun i hi => by
     by_cases e : i = k
     ·rw [e]; exact HAT.out
     ·exact HQ.out i (by omega)), HB2⟩
    case measure => simp [intOf]; omega
  ·have RV : V = -1 := by rw [HV.out]; exact fstN_no (fun i hi => HQ.out i (by rw [<- HN.out] at hi; omega))
   subst RV;go_wp2_with fail
   go_ret;exact ⟨rfl, HB.out⟩
end Go.Proofs.YteecgiebimdbhaaGreatDoor
