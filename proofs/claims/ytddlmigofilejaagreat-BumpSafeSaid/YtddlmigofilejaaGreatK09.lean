/-
  Several texts in one.
-/
import Derived.Test.YtddlmigofilejaaGreatK08
import Derived.Deep.Quiet
set_option maxRecDepth 100000
set_option maxHeartbeats 8000000
namespace Go.Proofs.YtddlmigofilejaaGreat
open Go.RowKit
open Go.Sort
open M
theorem indexD_any (A : Option Addr) (c n : Nat) (xs : List De) (w : World) (hn : xs.length = n) (hz : n <= 9223372036854775807) (hS : RowIn deR w A xs) :
    Calls Tryz.prog 190 #[.slice A n c, .func (.func 181) #[] #[]] w fun e w' => ∃ r : Int, e = .returned (.int .i64 r) /\ decide (0 <= r) = !xs.all mayD /\ Below w.heap.size w w' := by
  have HS := hZ hS;have HN := hZ hn;clear hS hn;go_enter Tryz.func190, Tryz.ntmps190
  go_wp2_with fail
  go_loopw [8] (fun i wr => ∃ k : Nat, k <= n /\ i = .int .i64 k /\ Hid ((xs.take k).all mayD = true) /\ Below w.heap.size w wr) (fun i _ => n - (intOf i).toNat)
  case atStart => exact ⟨0, by omega, rfl, hZ (by simp), Below.refl _ _⟩
  case round =>
    obtain ⟨k, hk, rfl, HP, hb⟩ := hrel;obtain ⟨wo, rfl⟩ : ∃ wo : World, wo = wr := ⟨_, rfl⟩;by_cases hlt : k < n
    · obtain ⟨x, hx⟩ : ∃ x, xs[k]? = some x := ⟨_, List.getElem?_eq_getElem (by rw [HN.out]; exact hlt)⟩
      obtain ⟨g, o, v0, v1, v2, v3, v4, v5, v6, rfl, -, a0, a1, u0, u1, u2, u3, u4, u5, u6, us, zs⟩ := (HS.out.below hb).de hx;obtain ⟨An, cA, As, cS, ev, -⟩ := us.parts;simp only [List.cons.injEq, and_true] at ev;obtain ⟨rfl, rfl, rfl, rfl, rfl, rfl, rfl⟩ := ev;have IM := hZ (cmayNotD_any x.kind x.name x.typ An As cA cS wo us zs);have HX := hZ hx;clear hx us zs;obtain ⟨q, hq⟩ : ∃ q, mayD ⟨x.kind, x.name, x.typ⟩ = q := ⟨_, rfl⟩;rw [hq] at IM;have HQ := hZ hq;clear hq;cases q with
      | false =>
        have R : Hid (decide (0 <= (k : Int)) = !xs.all mayD) := hZ (by
          have : xs.all mayD = false := by rw [List.all_eq_false]; exact ⟨x, List.mem_of_getElem? HX.out, by rw [show mayD x = false from HQ.out]; decide⟩
          rw [this]; simp)
        go_wp2_with fail
        refine IM.out.mono ?_; rintro e w2 ⟨rfl, hb2⟩
        have hb3 := below_over hb hb2;clear a0 a1 u0 u1 u2 u3 u4 u5 u6 hb hb2;go_wp2_with fail
        go_ret;exact ⟨_, rfl, R.out, hb3⟩
      | true =>
        go_wp2_with fail
        refine IM.out.mono ?_; rintro e w2 ⟨rfl, hb2⟩
        have hb3 := below_over hb hb2;clear a0 a1 u0 u1 u2 u3 u4 u5 u6 hb hb2;go_wp2_with fail
        go_roundw
        case rel => exact ⟨k + 1, by omega, by go_num, hZ (by rw [all_snoc _ _ _ _ HX.out, HP.out, show mayD x = true from HQ.out]; rfl), hb3⟩
        case measure => simp [intOf]; omega
    · have R : Hid (decide (0 <= (-1 : Int)) = !xs.all mayD) := hZ (by
        have h := HP.out;rw [List.take_of_length_le (by rw [HN.out]; omega)] at h;rw [h]; rfl)
      go_wp2_with fail
      go_ret;exact ⟨_, rfl, R.out, hb⟩
theorem containsD_any (A : Option Addr) (c n : Nat) (xs : List De) (w : World) (hn : xs.length = n) (hz : n <= 9223372036854775807) (hS : RowIn deR w A xs) :
    Calls Tryz.prog 180 #[.slice A n c, .func (.func 181) #[] #[]] w fun e w' => e = .returned (.bool (!xs.all mayD)) /\ Below w.heap.size w w' := by
  have HC := hZ (indexD_any A c n xs w hn hz hS);clear hn hS;go_enter Tryz.func180, Tryz.ntmps180
  go_wp2_with fail
  refine HC.out.mono ?_; rintro e w2 ⟨r, rfl, hr, hb2⟩
  have HR := hZ hr;clear hr HC;go_wp2_with fail
  go_ret;exact ⟨ret_bool HR.out.symm, hb2⟩
theorem cmay6_any (m : Mo) (l : List Value) (w : World) (h : MoAt w l m) : Calls Tryz.prog 164 #[.agg l.toArray] w fun e w' => e = .returned (.bool (mayM m)) /\ Below w.heap.size w w' := by
  obtain ⟨Ai, ci, Ad, cd, rfl, z1, z2, z3, hI, hD⟩ := h;obtain ⟨w0, hw0⟩ : ∃ w0, w0 = w.alloc (.cells #[.string m.name, .slice Ai m.imps.length ci, .slice Ad m.decs.length cd] 126) := ⟨_, rfl⟩;have B0 : Below w.heap.size w w0 := by rw [hw0]; exact below_new (Below.refl _ _) _
  have O0 : w0.heap[w.heap.size]? = some (.cells #[.string m.name, .slice Ai m.imps.length ci, .slice Ad m.decs.length cd] 126 (0, 0)) := by rw [hw0]; exact heap_alloc_new w _
  have hl0 : w.heap.size < w0.heap.size := by rw [hw0]; simp
  have S0 := hZ (fun w => csmall_b m.name w z1);have SI : Hid (∀ w', Below w.heap.size w w' -> Calls Tryz.prog 55 #[.slice Ai m.imps.length ci] w' fun e w'' => e = .returned (.bool (decide (m.imps.length <= 20) && m.imps.all mayI)) /\ Below w'.heap.size w' w'') := hZ (fun w' hb => cmayI_any Ai ci _ m.imps w' rfl z2 (hI.below hb));have SD : Hid (∀ w', Below w.heap.size w w' -> Calls Tryz.prog 180 #[.slice Ad m.decs.length cd, .func (.func 181) #[] #[]] w' fun e w'' => e = .returned (.bool (!m.decs.all mayD)) /\ Below w'.heap.size w' w'') := hZ (fun w' hb => containsD_any Ad cd _ m.decs w' rfl z3 (hD.below hb));obtain ⟨V, hV⟩ : ∃ V, mayM m = V := ⟨_, rfl⟩;rw [hV];have HV : Hid ((smallB m.name.data.toList && (decide (m.imps.length <= 20) && (decide (m.decs.length <= 60) && (m.imps.all mayI && m.decs.all mayD)))) = V) := hZ hV;generalize m.imps.length = ni at *
  generalize m.decs.length = nd at *
  generalize smallB m.name.data.toList = b0 at S0 HV
  generalize m.imps.all mayI = b1 at SI HV
  generalize m.decs.all mayD = b2 at SD HV
  have HV0 : Hid ((b0 && ((decide (ni <= 20) && b1) && (decide (nd <= 60) && b2))) = V) := hZ (by
    rw [<- HV.out];cases b0 <;> cases b1 <;> cases b2 <;> cases decide (ni <= 20) <;> cases decide (nd <= 60) <;> rfl)
  generalize (decide (ni <= 20) && b1) = q at SI HV0
  have x0 := cZ O0 0;simp at x0;have HO := hZ O0;have HB := hZ B0;have HW0 := hZ hw0;clear hV hI hD hw0 B0 O0 z1 z2 HV;go_enter Tryz.func164, Tryz.ntmps164
  go_upto_region 1 with fail
  rw [<- HW0.out];clear HW0;go_wp2_with fail
  refine (S0.out _).mono ?_; rintro e w1 ⟨rfl, hb1⟩
  have O1 := (hb1.block _ hl0).trans HO.out;have x1 := cZ O1 1;simp at x1;have HB1 := hZ (below_over HB.out hb1);have hl1 := Nat.lt_of_lt_of_le hl0 hb1.size;clear x0 hb1 HB HO hl0 S0;cases b0 with
  | false => go_wp2_with fail; go_ret; exact ⟨by rw [<- HV0.out]; rfl, HB1.out⟩
  | true =>
  go_wp2_with fail
  refine (SI.out _ HB1.out).mono ?_; rintro e w2 ⟨rfl, hb2⟩
  have O2 := (hb2.block _ hl1).trans O1;have x2 := cZ O2 2;simp at x2;have HB2 := hZ (below_over HB1.out hb2);clear x1 hb2 HB1 O1 O2 hl1 SI;cases q with
  | false => go_wp2_with fail; go_ret; exact ⟨by rw [<- HV0.out]; rfl, HB2.out⟩
  | true =>
  by_cases hd : nd <= 60
  rotate_left
  · have e1 : ¬ (nd : Int) <= 60 := by omega
    go_wp2_with fail
    go_ret;exact ⟨by rw [<- HV0.out, decide_eq_false hd]; simp <;> omega, HB2.out⟩
  have e1 : (nd : Int) <= 60 := by omega
  go_wp2_with fail
  refine (SD.out _ HB2.out).mono ?_; rintro e w3 ⟨rfl, hb3⟩
  have HB3 := hZ (below_over HB2.out hb3);have HV3 : Hid (b2 = V) := hZ (by rw [<- HV0.out, decide_eq_true hd]; simp);clear x2 hb3 HB2 SD HV0;go_wp2_with fail
  go_ret;exact ⟨by rw [<- HV3.out]; cases b2 <;> simp, HB3.out⟩
end Go.Proofs.YtddlmigofilejaaGreat
namespace Go.Proofs.YtddlmigofilejaaGreat
open Go Go.RowKit
section
variable {P : Program} {ops : Array Oper} {C : World -> Prop}
theorem any_x {md : Region.Mode} {Q : Exit -> Act -> World -> Prop} : ∀ (k : Nat) {listed : Array Bool} {a : Act} {w : World}, wpAny P md ops Q k listed a w -> AnyX P md ops Q (fun _ => True) (fun _ => false) k listed a w
 | 0, _, _, _, h => h
 | k + 1, _, _, _, h => ⟨h.1, fun i hi => wpOp_mono (fun _ _ hx => ⟨fun _ _ => trivial, any_x k hx⟩) (h.2 i hi)⟩
theorem back_spec (hb : backward ops = true) {i : Nat} {o : Oper} (ho : ops[i]? = some o) {e : Edge} (he : e ∈ o.after) (hbe : Region.binds .any e = true) : e.on < i := by
 have h1 := (List.all_eq_true.1 hb) i (List.mem_range.2 (Array.getElem?_eq_some_iff.1 ho).1)
 rw [ho] at h1
 simp only [Option.map_some, Option.getD_some] at h1
 have h2 := (Array.all_eq_true_iff_forall_mem.1 h1) e he
 rw [hbe] at h2
 simpa using h2
theorem getD_set_self {l : Array Bool} {i : Nat} (h : i < l.size) (d : Bool) : (l.setIfInBounds i true).getD i d = true := by simp [h]
theorem any_head {ops' : Array Oper} {Q : Exit -> Act -> World -> Prop} {Q' : Act -> Prop} {s r : Nat} {Le : Array Bool}
  (hs : ops'.size = s) (hso : s <= ops.size) (hops : ∀ i, i < s -> ops[i]? = ops'[i]?) (hb : backward ops' = true) (hg : ∀ (i : Nat) (o : Oper), ops'[i]? = some o -> o.guard = none)
  (hw : ∀ i j, i < s -> s <= j -> Le.getD j true = false -> Waits .any ops i j)
  (hLe : Le.size = ops.size) (hLt : ∀ i, i < s -> Le.getD i false = true) (hQ : ∀ a w k, C w -> Q' a -> wpAny P .any ops Q (k + r) Le a w) :
  ∀ (fuel : Nat) (l L : Array Bool) (a : Act) (w : World), l.size = s -> L.size = ops.size -> (∀ i, i < s -> L.getD i false = l.getD i false) -> (∀ i, s <= i -> L.getD i false = Le.getD i false) -> Shuts .any ops L -> C w ->
   wpAnyQ P .any ops' C Q' fuel l a -> wpAny P .any ops Q (fuel + r) L a w := by
 have fin : ∀ (l L : Array Bool), l.size = s -> L.size = ops.size -> (∀ i, i < s -> L.getD i false = l.getD i false) -> (∀ i, s <= i -> L.getD i false = Le.getD i false) -> Region.ready .any ops' l = [] -> L = Le := by
  intro l L h1 h2 h3 h4 h0;apply Array.ext (by rw [h2, hLe])
  intro i hi hi';have e1 : L.getD i false = L[i] := by simp [hi]
  have e2 : Le.getD i false = Le[i] := by simp [hi']
  rw [<- e1, <- e2];rcases Nat.lt_or_ge i s with h | h
  ·rw [h3 i h, hLt i h]
   cases hu : l.getD i false with
   | true => rfl
   | false =>
    obtain ⟨j, hj⟩ := ready_some (ops := ops') (by rw [h1, hs]) hb (i + 1) i (by omega) (by omega) hu;rw [h0] at hj; cases hj
  ·exact h4 i h
 intro fuel
 induction fuel with
 | zero =>
  intro l L a w h1 h2 h3 h4 _ hC h;rw [fin l L h1 h2 h3 h4 h.1];exact hQ a w 0 hC h.2
 | succ fuel ih =>
  intro l L a w h1 h2 h3 h4 h5 hC h;by_cases h0 : Region.ready .any ops' l = []
  ·rw [fin l L h1 h2 h3 h4 h0]
   exact hQ a w _ hC (h.1 h0)
  ·obtain ⟨i0, hi0⟩ := List.exists_mem_of_ne_nil _ h0
   have low : ∀ i, i ∈ Region.ready .any ops' l -> i < s := fun i hi => by
    obtain ⟨-, o, ho, -⟩ := mem_ready.1 hi;have := (Array.getElem?_eq_some_iff.1 ho).1
    omega
   have hlisted : ∀ i, i < s -> L.getD i true = l.getD i true := fun i hi => by
    rw [inBounds (by omega) true, inBounds (by omega) true]; exact h3 i hi
   have lift : ∀ i, i < s -> (i ∈ Region.ready .any ops' l ↔ i ∈ Region.ready .any ops L) := by
    intro i hi;rw [mem_ready, mem_ready, hlisted i hi, hops i hi];refine and_congr_right fun _ => exists_congr fun o => and_congr_right fun ho => forall_congr' fun e => forall_congr' fun he => forall_congr' fun hbe => ?_
    have := back_spec hb ho he hbe
    rw [h3 e.on (by omega)]
   have hu0 : L.getD i0 false = false := by
    have h6 := (mem_ready.1 hi0).1;have h7 := low i0 hi0;rw [inBounds (by omega) true] at h6;rw [h3 i0 h7]; exact h6
   rw [show fuel + 1 + r = (fuel + r) + 1 by omega];refine ⟨fun h => ?_, fun i hi => ?_⟩
   ·have h6 := (lift i0 (low i0 hi0)).1 hi0
    rw [h] at h6; cases h6
   ·have his : i < s := by
     rcases Nat.lt_or_ge i s with h | h
     ·exact h
     ·exfalso
      obtain ⟨hun, o, ho, hall⟩ := mem_ready.1 hi;have hsz := (Array.getElem?_eq_some_iff.1 ho).1
      have hLi : Le.getD i true = false := by
       rw [inBounds (by omega) true, <- h4 i h, <- inBounds (by omega) true]; exact hun
      have h6 := (hw i0 i (low i0 hi0) h hLi).listed h5 ho hall;rw [hu0] at h6; cases h6
    have hi' := (lift i his).2 hi
    have r1 : ∀ j, j < s -> (L.setIfInBounds i true).getD j false = (l.setIfInBounds i true).getD j false := fun j hj => by
     by_cases e : i = j
     ·subst e; rw [getD_set_self (by omega), getD_set_self (by omega)]
     ·rw [getD_set_ne false e, getD_set_ne false e]; exact h3 j hj
    have r2 : ∀ j, s <= j -> (L.setIfInBounds i true).getD j false = Le.getD j false := fun j hj => by
     rw [getD_set_ne false (by omega)]; exact h4 j hj
    have hq := wpOp_of_qOp (K' := wpAny P .any ops Q (fuel + r) (L.setIfInBounds i true)) (Q' := Q) hC (fun a' w' hC' hk => ih (l.setIfInBounds i true) (L.setIfInBounds i true) a' w' (by simp [h1]) (by simp [h2]) r1 r2 (h5.step hi) hC' hk) (h.2 i hi');unfold wpOp at hq ⊢
    rw [hops i his];cases ho : ops'[i]? with
    | none => rw [ho] at hq; exact hq
    | some o =>
     rw [ho] at hq;simp only [Region.wanted, hg i o ho, if_true] at hq ⊢;exact hq
def headDone (n s i : Nat) : Array Bool := ((List.range n).map fun j => decide (j < s) || j == i).toArray
theorem wp_region_head {id : Nat} {Q : Exit -> Act -> World -> Prop} {a : Act} {w : World} {l : List Oper} (s r i : Nat) {oi : Oper} {v : Value}
  (hm : P.follows .mixedOrders = true) (hlen : l.length = s + r + 1) (his : s <= i) (hi : l.toArray[i]? = some oi) (hns : Region.noSelect l.toArray = true)
  (hf : Region.free .any l.toArray (Array.replicate l.toArray.size false) i = true) (hr : (Region.ready .any l.toArray (Array.replicate l.toArray.size false)).contains i = true)
  (hsh : shutsB .any l.toArray (Array.replicate l.toArray.size false) = true) (hsh2 : shutsB .any l.toArray ((Array.replicate l.toArray.size false).setIfInBounds i true) = true)
  (hQp : ∀ c a w, Q (.panic c) (a.put oi.dst v) w -> Q (.panic c) a w) (hy : YieldsIf P l.toArray (fun _ => True) oi v a)
  (hB : Region.lexB .any (l.take s).toArray = true) (hb : backward (l.take s).toArray = true) (hg : ((l.take s).all fun o => o.guard.isNone) = true)
  (hw : ((List.range s).all fun k => (List.range l.length).all fun j => decide (j < s) || j == i || waitsB .any l.toArray k l.length j) = true)
  (hC : C w.drew)
  (h : wpQuiet P (l.take s).toArray C (fun a' => ∀ w', C w' -> ∀ k, AnyX P .any l.toArray Q (fun _ => True) (fun _ => false) (k + r) (headDone l.length s i) a' w') (l.take s) (a.put oi.dst v)) : (Code.region id l.toArray true).wp P Q a w := by
 have hin : i < l.length := by
  have := (Array.getElem?_eq_some_iff.1 hi).1
  simpa using this
 have hts : (l.take s).length = s := by rw [List.length_take]; omega
 simp only [Region.lexB, Bool.and_eq_true] at hB
 have hq := wpAnyQ_lex (C := C) (md := .any) (P := P) hB.1 _ 0 (Array.replicate (l.take s).toArray.size false) (a.put oi.dst v) (by simp) (by simpa using hB.2) h
 have hgd : ∀ j, j < l.length -> ∀ d, (headDone l.length s i).getD j d = (decide (j < s) || j == i) := fun j hj d => by simp [headDone, hj]
 have main := any_head (P := P) (ops := l.toArray) (ops' := (l.take s).toArray) (C := C) (Q := Q) (Q' := fun a' => ∀ w', C w' -> ∀ k, AnyX P .any l.toArray Q (fun _ => True) (fun _ => false) (k + r) (headDone l.length s i) a' w') (s := s) (r := r) (Le := headDone l.length s i)
  (by simpa using hts) (by simp; omega) (fun j hj => by simp [List.getElem?_take, hj]) hb
  (fun j o ho => by
   have h1 := (List.all_eq_true.1 hg) o (by rw [List.getElem?_toArray] at ho; exact List.mem_of_getElem? ho);simpa using h1)
  (fun k j hk hj hun => by
   rcases Nat.lt_or_ge j l.length with hjl | hjl
   ·rw [hgd j hjl] at hun
    have h1 := (List.all_eq_true.1 ((List.all_eq_true.1 hw) k (List.mem_range.2 hk))) j (List.mem_range.2 hjl);rw [hun, Bool.false_or] at h1;exact waits_of _ _ h1
   ·have : (headDone l.length s i).size = l.length := by simp [headDone]
    rw [Array.getD_eq_getD_getElem?, Array.getElem?_eq_none (by omega)] at hun;cases hun)
  (by simp [headDone]) (fun j hj => by rw [hgd j (by omega)]; simp [hj]) (fun a' w' k hC' hq' => (hq' w' hC' k).any)
  s (Array.replicate s false) ((Array.replicate l.toArray.size false).setIfInBounds i true) (a.put oi.dst v) w.drew (by simp) (by simp)
  (fun j hj => by
   rw [getD_set_ne false (by omega)];have h1 : j < l.length := by omega
   simp [hj, h1])
  (fun j hj => by
   by_cases e : i = j
   ·subst e
    rw [getD_set_self (by simpa using hin), hgd i hin]; simp
   ·rw [getD_set_ne false e]
    rcases Nat.lt_or_ge j l.length with hjl | hjl
    ·rw [hgd j hjl]; simp [hjl]; exact ⟨hj, fun h => e h.symm⟩
    ·have : (headDone l.length s i).size = l.length := by simp [headDone]
     rw [Array.getD_eq_getD_getElem?, Array.getD_eq_getD_getElem?, Array.getElem?_eq_none (by simpa using hjl), Array.getElem?_eq_none (by omega)])
  (shuts_of hsh2) hC (by simpa [hts] using hq)
 refine wp_region_any hm ?_
 have e1 : l.toArray.size = s + r + 1 := by simpa using hlen
 have hX := AnyX.move (S := fun _ => True) (off := fun _ => false) (k := s + r) (w := w.drew) hi hns hf hr hsh hQp hy (any_x _ main)
 have hX := hX.any
 rw [<- e1] at hX
 exact hX
end
end Go.Proofs.YtddlmigofilejaaGreat
namespace Go.Proofs.YtddlmigofilejaaGreat
open Go.RowKit Go.Shelf
open Go.Sort Go.Maps
open M
noncomputable def faults7 (m : Mo) : List (Int × Int) :=
  [(fstN (dupB (·.asn) m.imps) m.imps.length, 5), (fstN (dupB (·.name) m.decs) m.decs.length, 5), (fstN (atE (entries m) (fun x => !x.whole)) (entries m).length, 4),
   (fstN (atE (entries m) (fun x => reachB (entries m) x.said x.at_)) (entries m).length, 6), (fstN (atE (entries m) (fun x => hidB (entries m) x.said)) (entries m).length, 10)]
noncomputable def check7 (m : Mo) : Option (Int × Int) := (faults7 m).find? fun x => decide (0 <= x.1)
def CkOut (w : World) (m : Mo) (e : Ending) (w' : World) : Prop :=
 match check7 m with
 | none => e = .returned .nilIface
 | some (i, c) => ∃ g, e = .returned (.iface 73 (.pointer (some ⟨g, 0, none⟩))) /\ w.heap.size <= g /\ w'.heap[g]? = some (.cells #[.int .i64 i, .iface 33 (.int .i64 c)] 75 (0, 0))
theorem entries_valid (m : Mo) : Valid (entries m) := by
 intro x hx j hj
 rw [entries_len]
 obtain ⟨i, hi⟩ := List.mem_iff_getElem?.1 hx
 have hil : i < m.decs.length := by
  have := (List.getElem?_eq_some_iff.1 hi).1
  rwa [entries_len] at this
 obtain ⟨d, hd⟩ : ∃ d, m.decs[i]? = some d := ⟨_, List.getElem?_eq_getElem hil⟩
 rw [entries_at hd] at hi
 cases hi
 exact said_lt m _ d.typ (Nat.le_refl _) j hj
theorem entries_own (m : Mo) : ∀ x ∈ entries m, x.at_ < (entries m).length := by
 intro x hx
 rw [entries_len]
 obtain ⟨i, hi⟩ := List.mem_iff_getElem?.1 hx
 have hil : i < m.decs.length := by
  have := (List.getElem?_eq_some_iff.1 hi).1
  rwa [entries_len] at this
 obtain ⟨d, hd⟩ : ∃ d, m.decs[i]? = some d := ⟨_, List.getElem?_eq_getElem hil⟩
 rw [entries_at hd] at hi
 cases hi
 exact hil
theorem find_at {α : Type} {p : α -> Bool} {l : List α} {k : Nat} {x : α} (hx : l[k]? = some x) (hn : ∀ y ∈ l.take k, (!p y) = true) (hp : p x = true) : l.find? p = some x := by
 obtain ⟨hk, rfl⟩ := List.getElem?_eq_some_iff.1 hx
 rw [List.find?_eq_some_iff_append]
 exact ⟨hp, l.take k, l.drop (k + 1), by simp, hn⟩
theorem check7_yes (m : Mo) (l : List Value) (w : World) (h : MoAt w l m) (hm : mayM m = true) (hIs : ∀ x ∈ m.imps, x.asn.size <= maxLen) (hM : ∀ d ∈ m.decs, many d.typ <= 9000 /\ d.name.size <= maxLen)
  (hcap : ∀ Ai ci Ad cd, l = [.string m.name, .slice Ai m.imps.length ci, .slice Ad m.decs.length cd] -> m.imps.length <= ci /\ m.decs.length <= cd) :
  Calls Tryz.prog 148 #[.agg l.toArray] w fun e w' => CkOut w m e w' /\ Below w.heap.size w w' := by
 have HM := hZ hm
 have HV := hZ h
 have hm' := hm
 simp only [mayM, Bool.and_eq_true, decide_eq_true_eq] at hm'
 have z20 := hm'.2.1
 have z60 := hm'.2.2.1
 have RD := hZ (fun w' (hb : Below w.heap.size w w') => read7_any m l w' (h.below hb) (by omega) (by omega) hIs hM)
 obtain ⟨Ai, ci, Ad, cd, rfl, z1, z2, z3, hI, hD⟩ := h
 obtain ⟨hc1, hc2⟩ := hcap Ai ci Ad cd rfl
 have HI := hZ hI
 have HD := hZ hD
 clear hm hm' hI hD hIs hM hcap
 obtain ⟨w0, hw0⟩ : ∃ w0, w0 = w.alloc (.cells #[.string m.name, .slice Ai m.imps.length ci, .slice Ad m.decs.length cd] 126) := ⟨_, rfl⟩
 have HB0 : Hid (Below w.heap.size w w0) := hZ (by rw [hw0]; exact below_new (Below.refl _ _) _)
 have HO0 : Hid (w0.heap[w.heap.size]? = some (.cells #[.string m.name, .slice Ai m.imps.length ci, .slice Ad m.decs.length cd] 126 (0, 0))) := hZ (by rw [hw0]; exact heap_alloc_new w _)
 have HW0 := hZ hw0
 have hl0 : w.heap.size < w0.heap.size := by rw [hw0]; simp
 clear hw0
 go_enter Tryz.func148, Tryz.ntmps148
 go_wp2_with fail
 rw [<- HW0.out]
 obtain ⟨o0, o1, o2⟩ := cq3 HO0.out
 simp at o0 o1 o2
 go_wp2_with fail
 refine (cmay6_any m _ _ (HV.out.below HB0.out)).mono ?_; rintro e w1 ⟨rfl, hb1⟩; rw [HM.out]
 have HB1 : Hid (Below w.heap.size w w1) := hZ (below_over HB0.out hb1)
 have HO1 : Hid (w1.heap[w.heap.size]? = some (.cells #[.string m.name, .slice Ai m.imps.length ci, .slice Ad m.decs.length cd] 126 (0, 0))) := hZ ((hb1.block _ hl0).trans HO0.out)
 have hl1 : w.heap.size < w1.heap.size := Nat.lt_of_lt_of_le hl0 hb1.size
 clear hb1 HB0 HO0 HW0 hl0 o0 o1 o2
 obtain ⟨o0, o1, o2⟩ := cq3 HO1.out
 simp at o0 o1 o2
 go_wp2_with fail
 refine (RD.out w1 HB1.out).mono ?_; rintro e w2 ⟨b0, b1, Ae, ce, rfl, NM, RE, hb2⟩
 obtain ⟨n, hn⟩ : ∃ n, n = (entries m).length := ⟨_, rfl⟩
 rw [<- hn]
 have HNE := hZ hn
 have hn60 : n <= 60 := by rw [hn, entries_len]; exact z60
 obtain ⟨wb, hwb⟩ : ∃ wb, wb = w2.alloc (.cells #[.map (some b0), .map (some b1), .slice Ae n ce] 212) := ⟨_, rfl⟩
 have BB : Below w2.heap.size w2 wb := by rw [hwb]; exact below_new (Below.refl _ _) _
 have HXn : Hid (wb.heap[w2.heap.size]? = some (.cells #[.map (some b0), .map (some b1), .slice Ae n ce] 212 (0, 0))) := hZ (by rw [hwb]; exact heap_alloc_new w2 _)
 have HBw : Hid (Below w.heap.size w wb) := hZ (below_over (below_over HB1.out hb2) BB)
 have HOb : Hid (wb.heap[w.heap.size]? = some (.cells #[.string m.name, .slice Ai m.imps.length ci, .slice Ad m.decs.length cd] 126 (0, 0))) := hZ ((BB.block _ (Nat.lt_of_lt_of_le hl1 hb2.size)).trans ((hb2.block _ hl1).trans HO1.out))
 have HRE : Hid (RowIn enR wb Ae (entries m)) := hZ (RE.below BB)
 have HWB := hZ hwb
 clear hn hwb BB NM RE hb2 o0 o1 o2 RD
 go_upto_region 4 with fail
 rw [<- HWB.out]
 clear HWB
 obtain ⟨F1, hF1⟩ : ∃ F1, F1 = fstN (dupB (·.asn) m.imps) m.imps.length := ⟨_, rfl⟩
 obtain ⟨F2, hF2⟩ : ∃ F2, F2 = fstN (dupB (·.name) m.decs) m.decs.length := ⟨_, rfl⟩
 obtain ⟨F3, hF3⟩ : ∃ F3, F3 = fstN (atE (entries m) (fun x => !x.whole)) (entries m).length := ⟨_, rfl⟩
 obtain ⟨F4, hF4⟩ : ∃ F4, F4 = fstN (atE (entries m) (fun x => reachB (entries m) x.said x.at_)) (entries m).length := ⟨_, rfl⟩
 obtain ⟨F5, hF5⟩ : ∃ F5, F5 = fstN (atE (entries m) (fun x => hidB (entries m) x.said)) (entries m).length := ⟨_, rfl⟩
 have c1 : ∀ dd os, Calls Tryz.prog 31 #[.slice Ai m.imps.length ci, .func (.func 166) #[] #[]] (Sort.grow (redrawn wb dd) os) fun e w'' => e = .returned (.int .i64 F1) /\ ∃ pp : Regrown, w'' = Sort.grow (redrawn wb pp.d) pp.os := fun dd os => Calls.regrown_of (by rw [hF1]; exact againI_any Ai ci _ m.imps _ rfl (by omega) hc1 ((HI.out.below HBw.out).below (below_regrown _ dd os)))
 have c2 : ∀ dd os, Calls Tryz.prog 167 #[.slice Ad m.decs.length cd, .func (.func 168) #[] #[]] (Sort.grow (redrawn wb dd) os) fun e w'' => e = .returned (.int .i64 F2) /\ ∃ pp : Regrown, w'' = Sort.grow (redrawn wb pp.d) pp.os := fun dd os => Calls.regrown_of (by rw [hF2]; exact againD_any Ad cd _ m.decs _ rfl (by omega) hc2 ((HD.out.below HBw.out).below (below_regrown _ dd os)))
 have c3 : ∀ dd os, Calls Tryz.prog 169 #[.slice Ae n ce, .func (.func 170) #[] #[]] (Sort.grow (redrawn wb dd) os) fun e w'' => e = .returned (.int .i64 F3) /\ ∃ pp : Regrown, w'' = Sort.grow (redrawn wb pp.d) pp.os := fun dd os => Calls.regrown_of (by rw [hF3, HNE.out]; exact index_mis (entries m) (entries_valid m) (by rw [entries_len]; omega) (entries_own m) Ae ce b0 b1 _ (HRE.out.below (below_regrown _ dd os)))
 have c4 : ∀ dd os, Calls Tryz.prog 169 #[.slice Ae n ce, .func (.func 171) #[.agg #[.map (some b0), .map (some b1), .slice Ae n ce]] #[]] (Sort.grow (redrawn wb dd) os) fun e w'' => e = .returned (.int .i64 F4) /\ ∃ pp : Regrown, w'' = Sort.grow (redrawn wb pp.d) pp.os := fun dd os => Calls.regrown_of (by rw [hF4, HNE.out]; exact index_circ (entries m) (entries_valid m) (by rw [entries_len]; omega) (entries_own m) Ae ce b0 b1 _ (HRE.out.below (below_regrown _ dd os)))
 have c5 : ∀ dd os, Calls Tryz.prog 169 #[.slice Ae n ce, .func (.func 172) #[.agg #[.map (some b0), .map (some b1), .slice Ae n ce]] #[]] (Sort.grow (redrawn wb dd) os) fun e w'' => e = .returned (.int .i64 F5) /\ ∃ pp : Regrown, w'' = Sort.grow (redrawn wb pp.d) pp.os := fun dd os => Calls.regrown_of (by rw [hF5, HNE.out]; exact index_hid (entries m) (entries_valid m) (by rw [entries_len]; omega) (entries_own m) Ae ce b0 b1 _ (HRE.out.below (below_regrown _ dd os)))
 have HFS : Hid (faults7 m = [(F1, 5), (F2, 5), (F3, 4), (F4, 6), (F5, 10)]) := hZ (by rw [hF1, hF2, hF3, hF4, hF5]; rfl)
 clear hF1 hF2 hF3 hF4 hF5
 obtain ⟨ni, hni⟩ : ∃ ni, ni = m.imps.length := ⟨_, rfl⟩
 obtain ⟨nd, hnd⟩ : ∃ nd, nd = m.decs.length := ⟨_, rfl⟩
 rw [<- hni] at c1 HOb z20 hc1
 rw [<- hnd] at c2 HOb z60 hc2
 have y1 := cZ HOb.out 1
 have y2 := cZ HOb.out 2
 obtain ⟨n0, n1, n2⟩ := cq3 HXn.out
 simp at y1 y2 n0 n1 n2
 have p1 := cell_regrown y1
 have p2 := cell_regrown y2
 have q0 := cell_regrown n0
 have q1 := cell_regrown n1
 have q2 := cell_regrown n2
 have hIm : (m.imps.length : Int) = ni := by rw [hni]
 clear hni hnd hIm y1 y2 n0 n1 n2
 refine wp_region_head (C := fun w' => ∃ p : Regrown, w' = Sort.grow (redrawn wb p.d) p.os) 29 2 31 (v := .int .i64 0) (by kernel_rfl) rfl (by decide) rfl (by kernel_rfl) (by kernel_rfl) (by kernel_rfl) (by kernel_rfl) (by kernel_rfl) (fun _ _ _ h => h) (Or.inl ⟨by rfl, ?hy⟩) (by kernel_rfl) (by kernel_rfl) (by kernel_rfl) (by kernel_rfl) ⟨⟨wb.drawn + 1, #[]⟩, by rw [grow_empty]; rfl⟩ ?hq
 case hy => intro wS _; go_simp
 case hq =>
  simp only [List.take_succ_cons, List.take_zero, Act.put, List.setIfInBounds_toArray, List.set_cons_zero, List.set_cons_succ];repeat (any_goals (first | go_big_quiet_step (first | with_reducible exact c1 _ _ | with_reducible exact c2 _ _ | with_reducible exact c3 _ _ | with_reducible exact c4 _ _ | with_reducible exact c5 _ _) | quiet_step (first | with_reducible exact c1 _ _ | with_reducible exact c2 _ _ | with_reducible exact c3 _ _ | with_reducible exact c4 _ _ | with_reducible exact c5 _ _)))
  refine wpQuiet_nil ?_;intro w' hw' k;obtain ⟨⟨dq, osq⟩, hw''⟩ := hw';have HB' : Hid (Below wb.heap.size wb w') := hZ (by rw [hw'']; exact below_regrown _ _ _)
  clear hw'' c1 c2 c3 c4 c5 p1 p2 q0 q1 q2;refine AnyX.go 29 (by kernel_rfl) rfl rfl (fun K hK => ?_);simp only [List.getElem_toArray, List.getElem_cons_succ, List.getElem_cons_zero];go_simp
  refine hK.out _ _ (fun hoff _ => trivial) ?_;clear hK;(try simp only [Act.put, List.setIfInBounds_toArray, List.set_cons_zero, List.set_cons_succ]);refine AnyX.go 30 (by kernel_rfl) rfl rfl (fun K hK => ?_);simp only [List.getElem_toArray, List.getElem_cons_succ, List.getElem_cons_zero];go_simp
  refine hK.out _ _ (fun hoff _ => trivial) ?_;clear hK;(try simp only [Act.put, List.setIfInBounds_toArray, List.set_cons_zero, List.set_cons_succ]);refine AnyX.done (by kernel_rfl) ?_ _;clear HXn HOb HRE HI HD HV;obtain ⟨wz, hwz⟩ : ∃ wz, wz = w'.alloc (.cells #[.int .i64 F1, .iface 33 (.int .i64 5), .int .i64 F2, .iface 33 (.int .i64 5), .int .i64 F3, .iface 33 (.int .i64 4), .int .i64 F4, .iface 33 (.int .i64 6), .int .i64 F5, .iface 33 (.int .i64 10)] 75) := ⟨_, rfl⟩;have HX : Hid (wz.heap[w'.heap.size]? = some (.cells #[.int .i64 F1, .iface 33 (.int .i64 5), .int .i64 F2, .iface 33 (.int .i64 5), .int .i64 F3, .iface 33 (.int .i64 4), .int .i64 F4, .iface 33 (.int .i64 6), .int .i64 F5, .iface 33 (.int .i64 10)] 75 (0, 0))) := hZ (by rw [hwz]; exact heap_alloc_new w' _);have HBz : Hid (Below w.heap.size w wz) := hZ (below_over (below_over HBw.out HB'.out) (by rw [hwz]; exact below_new (Below.refl _ _) _));have hlz : w'.heap.size < wz.heap.size := by rw [hwz]; simp
  rw [<- hwz];clear hwz HB' HBw;go_wp2_with fail
  go_loopw [43] (fun iv wr => ∃ k : Nat, k <= 5 /\ iv = .int .i64 k /\ Hid (Below wz.heap.size wz wr) /\ Hid (∀ x ∈ (faults7 m).take k, ¬ 0 <= x.1)) (fun iv _ => 5 - (intOf iv).toNat)
  case atStart => exact ⟨0, by omega, rfl, hZ (Below.refl _ _), hZ (by simp)⟩
  case round =>
   obtain ⟨k, hk, rfl, HBr, HNO⟩ := hrel;obtain ⟨wo, rfl⟩ : ∃ wo : World, wo = wr := ⟨_, rfl⟩;by_cases hlt : k < 5
   ·obtain ⟨i, c, hx, a0, a1⟩ : ∃ i c : Int, (faults7 m)[k]? = some (i, c) /\ wo.cell? ⟨w'.heap.size, k * 2, none⟩ = some (.int .i64 i) /\ wo.cell? ⟨w'.heap.size, k * 2 + 1, none⟩ = some (.iface 33 (.int .i64 c)) := by
     have X := (HBr.out.block w'.heap.size hlz).trans HX.out;rw [HFS.out];have h5 : k = 0 \/ k = 1 \/ k = 2 \/ k = 3 \/ k = 4 := by omega
     rcases h5 with rfl | rfl | rfl | rfl | rfl
     all_goals exact ⟨_, _, rfl, by rw [cZ X _]; rfl, by rw [cZ X _]; rfl⟩
    obtain ⟨w6, hw6⟩ : ∃ w6, w6 = wo.alloc (.cells #[.int .i64 i, .iface 33 (.int .i64 c)] 75) := ⟨_, rfl⟩;have HB6 : Hid (Below wo.heap.size wo w6) := hZ (by rw [hw6]; exact below_new (Below.refl _ _) _);have X6 : w6.heap[wo.heap.size]? = some (.cells #[.int .i64 i, .iface 33 (.int .i64 c)] 75 (0, 0)) := by rw [hw6]; exact heap_alloc_new wo _
    have HW6 := hZ hw6;have HX6 := hZ hx;clear hw6 hx;go_upto_region 7 with fail
    rw [<- HW6.out];obtain ⟨x0, x1⟩ := cq2 X6;simp at x0 x1;clear X6 a0 a1;by_cases hi : 0 <= i
    ·have FIN : Hid (CkOut w m (.returned (.iface 73 (.pointer (some ⟨w6.heap.size, 0, none⟩)))) (w6.alloc (.cells #[.int .i64 i, .iface 33 (.int .i64 c)] 75)) /\ Below w.heap.size w (w6.alloc (.cells #[.int .i64 i, .iface 33 (.int .i64 c)] 75))) := hZ (by
      have bz := below_over (below_over HBz.out HBr.out) HB6.out;refine ⟨?_, below_over bz (below_new (Below.refl _ _) _)⟩;unfold CkOut
      rw [show check7 m = some (i, c) from find_at HX6.out (fun y hy => by simpa using HNO.out y hy) (by simpa using hi)];exact ⟨w6.heap.size, rfl, bz.size, heap_alloc_new w6 _⟩)
     go_wp2_with fail
     go_ret; exact FIN.out
    ·have HN' : Hid (∀ x ∈ (faults7 m).take (k + 1), ¬ 0 <= x.1) := hZ (fun x hx => by
      rw [List.take_add_one, List.mem_append] at hx;rcases hx with h | h
      ·exact HNO.out x h
      ·rw [HX6.out] at h
       simp at h;rw [h]; exact hi)
     have HBn : Hid (Below wz.heap.size wz w6) := hZ (below_over HBr.out HB6.out);go_wp2_with fail
     go_roundw
     case rel => exact ⟨k + 1, by omega, by go_num, HBn, HN'⟩
     case measure => simp [intOf]; omega
   ·have FIN : Hid (CkOut w m (.returned .nilIface) wo /\ Below w.heap.size w wo) := hZ (by
     refine ⟨?_, below_over HBz.out HBr.out⟩;have h5 : k = 5 := by omega
     subst h5;unfold CkOut
     rw [show check7 m = none from List.find?_eq_none.2 (fun x hx => by
      have := HNO.out x (by rw [HFS.out] at hx ⊢; exact hx)
      simpa using this)])
    go_wp2_with fail
    go_ret; exact FIN.out
noncomputable def mentN (m : Mo) (t : Ty) (k : Nat) : List ByteArray := (List.range k).filterMap fun i => if reachB (entries m) (saidT m t) i then (m.decs[i]?).map (·.name) else none
theorem mentN_yes {m : Mo} {t : Ty} {k : Nat} {d : De} (h : m.decs[k]? = some d) (hr : reachB (entries m) (saidT m t) k = true) : mentN m t (k + 1) = mentN m t k ++ [d.name] := by
 unfold mentN; rw [List.range_succ, List.filterMap_append]; simp [hr, h]
theorem mentN_no {m : Mo} {t : Ty} {k : Nat} (hr : reachB (entries m) (saidT m t) k = false) : mentN m t (k + 1) = mentN m t k := by
 unfold mentN; rw [List.range_succ, List.filterMap_append]; simp [hr]
theorem mentN_len (m : Mo) (t : Ty) : ∀ k, (mentN m t k).length <= k
 | 0 => by simp [mentN]
 | k + 1 => by
  have h := mentN_len m t k;unfold mentN at h ⊢
  rw [List.range_succ, List.filterMap_append, List.length_append];have : (List.filterMap (fun i => if reachB (entries m) (saidT m t) i then (m.decs[i]?).map (·.name) else none) [k]).length <= 1 := List.length_filterMap_le _ _
  omega
def OwnStr (w : World) (lo : Nat) (v : Value) (l : List ByteArray) : Prop := w.ownsRow lo 9 1 v l.length (l.map .string)
theorem mstr_info : (Tryz.prog.info? 9).map (fun i => (i.zero, i.size, i.bytes)) = some (some (.string ⟨#[]⟩), 1, 16) := by kernel_rfl
def sortS (l : List ByteArray) : List (List UInt8) := (l.map (·.data.toList)).mergeSort fun x y => decide (x <= y)
def StrsAt (w : World) (A : Option Addr) (ss : List (List UInt8)) : Prop := ∀ (i : Nat) (x : List UInt8), ss[i]? = some x -> ∃ g, A = some ⟨g, 0, none⟩ /\ g < w.heap.size /\ w.cell? ⟨g, i, none⟩ = some (.string ⟨x.toArray⟩)
theorem sortS_any (Al : Option Addr) (cl lo : Nat) (l : List ByteArray) (w : World) (h : OwnStr w lo (.slice Al l.length cl) l) (hl : l.length <= 1000000) :
  Calls Tryz.prog 36 #[.slice Al l.length cl] w fun e w' => e = .returned (.tuple #[]) /\ StrsAt w' Al (sortS l) /\ ∀ n, n <= lo -> n <= w.heap.size -> Below n w w' := by
 rcases h.2 with ⟨e, h0⟩ | ⟨g, cap, cur, hv, hB, hg, hnc, hcm, hcs, htake⟩
 ·have hl0 : l = [] := List.length_eq_zero_iff.1 (by simpa using h0)
  subst hl0;refine (Tryz.slices_Sort_string_none Al cl w).mono ?_;rintro e w' ⟨rfl, rfl⟩;exact ⟨rfl, fun i x hx => by simp [sortS] at hx, fun n _ _ => ⟨rfl, rfl, rfl, Nat.le_refl _, fun _ _ => rfl⟩⟩
 ·cases hv
  have hlt : g < w.heap.size := (Array.getElem?_eq_some_iff.1 hg).1
  have hH : Holds encStr w g 0 (l.map (·.data.toList)).toArray := fun j hj => by
   refine ⟨?_, Lib.frozen_of_heap hg _⟩;simp at hj;rw [cZ hg, <- Array.getElem?_toList];have e : (cur.toList.take (l.length * 1))[0 + j]? = some (.string l[j]) := by rw [htake]; simp [hj]
   rw [List.getElem?_take] at e;split at e
   ·rw [e, getElem!_pos _ _ (by simpa using hj)]; simp [encStr]
   ·cases e
  have C := Tryz.slices_Sort_string g 0 cl (l.map (·.data.toList)) w hH hlt (by simp; omega);rw [List.length_map] at C;refine C.mono ?_;rintro e w' ⟨rfl, n, os, rfl⟩;have hsl : (sortS l).length = l.length := by unfold sortS; rw [List.length_mergeSort, List.length_map]
  refine ⟨rfl, fun i x hx => ?_, fun b hb hb2 => ⟨rfl, rfl, rfl, by simp [grow, ahead], fun k hk => ?_⟩⟩
  ·have hi : i < l.length := by rw [<- hsl]; exact (List.getElem?_eq_some_iff.1 hx).1
   refine ⟨g, rfl, by simp [grow, ahead]; omega, ?_⟩;have hk2 : g < (putRow encStr (Sort.ahead w n) g 0 (sortS l).toArray).heap.size := by simpa [ahead] using hlt
   have hH2 : Holds encStr (Sort.ahead w n) g 0 (l.map fun x : ByteArray => x.data.toList).toArray := hH;have c1 := cell?_putRow encStr (Sort.ahead w n) g 0 (l.map fun x : ByteArray => x.data.toList).toArray (sortS l).toArray hH2 (by simp [hsl]) i (by simp [hsl]; exact hi);rw [Nat.zero_add] at c1
   have hg2 : (grow (putRow encStr (Sort.ahead w n) g 0 (sortS l).toArray) os).heap[g]? = (putRow encStr (Sort.ahead w n) g 0 (sortS l).toArray).heap[g]? := by
    simp only [grow];rw [Array.getElem?_append_left hk2]
   show (grow (putRow encStr (Sort.ahead w n) g 0 (sortS l).toArray) os).cell? ⟨g, i, none⟩ = _
   rw [World.cell?_of_block (a := ⟨g, i, none⟩) hg2, c1, getElem!_pos _ _ (by simp [hsl]; exact hi)];obtain ⟨h1, h2⟩ := List.getElem?_eq_some_iff.1 hx;simp [encStr, h2]
  ·have hk2 : k < (putRow encStr (Sort.ahead w n) g 0 (sortS l).toArray).heap.size := by simp [ahead]; omega
   show (grow (putRow encStr (Sort.ahead w n) g 0 (sortS l).toArray) os).heap[k]? = _
   simp only [grow];rw [Array.getElem?_append_left hk2];simp only [putRow, mapBlock, ahead, Array.getElem?_modify];rw [if_neg (by omega)];rfl
theorem ment_yes (m : Mo) (l : List Value) (t : Ty) (v : Value) (w : World) (h : MoAt w l m) (hv : TyV w v t) (hm : mayM m = true) (ht : mayT t = true) (hIs : ∀ x ∈ m.imps, x.asn.size <= maxLen) (hM : ∀ d ∈ m.decs, many d.typ <= 9000 /\ d.name.size <= maxLen) (hNs : ∀ d ∈ m.decs, d.name.size <= 281474976710656) :
  Calls Tryz.prog 150 #[.agg l.toArray, v] w fun e w' => ∃ (A : Option Addr) (c : Nat), e = .returned (.slice A (mentN m t m.decs.length).length c) /\ StrsAt w' A (sortS (mentN m t m.decs.length)) /\ Below w.heap.size w w' := by
 have HM := hZ hm
 have HT := hZ ht
 have HV := hZ h
 have HTV := hZ hv
 have hm' := hm
 simp only [mayM, Bool.and_eq_true, decide_eq_true_eq] at hm'
 have z20 := hm'.2.1
 have z60 := hm'.2.2.1
 have zt : many t <= 9000 := by
  simp only [mayT, Bool.and_eq_true, decide_eq_true_eq] at ht;omega
 have RD := hZ (fun w' (hb : Below w.heap.size w w') => read7_any m l w' (h.below hb) (by omega) (by omega) hIs hM)
 obtain ⟨Ai, ci, Ad, cd, rfl, z1, z2, z3, hI, hD⟩ := h
 obtain ⟨lv, rfl, hvA⟩ := hv
 obtain ⟨An, cA, As, cS, rfl, -⟩ := hvA.parts
 have HD := hZ hD
 clear hm hm' ht hI hD hIs hM hvA
 obtain ⟨w0, hw0, B0, O0, O1, hl0⟩ := two_boxes w #[.string m.name, .slice Ai m.imps.length ci, .slice Ad m.decs.length cd] #[.int .i64 t.kind, .string t.pkg, .int .i64 t.major, .string t.mod, .string t.name, .slice An t.names.length cA, .slice As t.subs.length cS] 126 50
 have HW0 := hZ hw0
 have HB0 := hZ B0
 have HO0 := hZ O0
 have HO1 := hZ O1
 clear hw0 B0 O0 O1
 go_enter Tryz.func150, Tryz.ntmps150
 go_upto_region 1 with fail
 rw [<- HW0.out]
 obtain ⟨o0, o1, o2⟩ := cq3 HO0.out
 have O1 := HO1.out
 obtain ⟨s0, s1, s2, s3, s4, s5, s6⟩ := cq7 O1
 simp at o0 o1 o2 s0 s1 s2 s3 s4 s5 s6
 clear O1
 go_wp2_with fail
 refine (cmay6_any m _ _ (HV.out.below HB0.out)).mono ?_; rintro e w1 ⟨rfl, hb1⟩; rw [HM.out]
 have HB1 : Hid (Below w.heap.size w w1) := hZ (below_over HB0.out hb1)
 have HP1 : Hid (w1.heap[w.heap.size]? = some (.cells #[.string m.name, .slice Ai m.imps.length ci, .slice Ad m.decs.length cd] 126 (0, 0))) := hZ ((hb1.block _ (by omega)).trans HO0.out)
 have HQ1 : Hid (w1.heap[w.heap.size + 1]? = some (.cells #[.int .i64 t.kind, .string t.pkg, .int .i64 t.major, .string t.mod, .string t.name, .slice An t.names.length cA, .slice As t.subs.length cS] 50 (0, 0))) := hZ ((hb1.block _ hl0).trans HO1.out)
 have hl1 : w.heap.size + 1 < w1.heap.size := Nat.lt_of_lt_of_le hl0 hb1.size
 clear hb1 HB0 HO0 HO1 HW0 hl0 o0 o1 o2 s0 s1 s2 s3 s4 s5 s6
 have Q1 := HQ1.out
 obtain ⟨s0, s1, s2, s3, s4, s5, s6⟩ := cq7 Q1
 simp at s0 s1 s2 s3 s4 s5 s6
 clear Q1
 go_wp2_with fail
 refine (mayK_any t _ _ (HTV.out.below HB1.out)).mono ?_; rintro e w2 ⟨rfl, hb2⟩; rw [HT.out]
 have HB2 : Hid (Below w.heap.size w w2) := hZ (below_over HB1.out hb2)
 have HP2 : Hid (w2.heap[w.heap.size]? = some (.cells #[.string m.name, .slice Ai m.imps.length ci, .slice Ad m.decs.length cd] 126 (0, 0))) := hZ ((hb2.block _ (by omega)).trans HP1.out)
 have HQ2 : Hid (w2.heap[w.heap.size + 1]? = some (.cells #[.int .i64 t.kind, .string t.pkg, .int .i64 t.major, .string t.mod, .string t.name, .slice An t.names.length cA, .slice As t.subs.length cS] 50 (0, 0))) := hZ ((hb2.block _ hl1).trans HQ1.out)
 have hl2 : w.heap.size + 1 < w2.heap.size := Nat.lt_of_lt_of_le hl1 hb2.size
 clear hb2 HB1 HP1 HQ1 hl1 s0 s1 s2 s3 s4 s5 s6
 obtain ⟨o0, o1, o2⟩ := cq3 HP2.out
 simp at o0 o1 o2
 go_wp2_with fail
 refine (RD.out w2 HB2.out).mono ?_; rintro e w3 ⟨b0, b1, Ae, ce, rfl, NM, RE, hb3⟩
 obtain ⟨E, hE⟩ : ∃ E, E = entries m := ⟨_, rfl⟩
 rw [<- hE] at RE ⊢
 have HE := hZ hE
 have hE60 : E.length <= 60 := by rw [hE, entries_len]; exact z60
 obtain ⟨wb, hwb⟩ : ∃ wb, wb = w3.alloc (.cells #[.map (some b0), .map (some b1), .slice Ae E.length ce] 212) := ⟨_, rfl⟩
 have BB : Below w3.heap.size w3 wb := by rw [hwb]; exact below_new (Below.refl _ _) _
 have HXb : Hid (wb.heap[w3.heap.size]? = some (.cells #[.map (some b0), .map (some b1), .slice Ae E.length ce] 212 (0, 0))) := hZ (by rw [hwb]; exact heap_alloc_new w3 _)
 have hlb : w3.heap.size < wb.heap.size := by rw [hwb]; simp
 have hl3 := hb3.size
 have HBb : Hid (Below w.heap.size w wb) := hZ (below_over (below_over HB2.out hb3) BB)
 have HPb : Hid (wb.heap[w.heap.size]? = some (.cells #[.string m.name, .slice Ai m.imps.length ci, .slice Ad m.decs.length cd] 126 (0, 0))) := hZ ((BB.block _ (by omega)).trans ((hb3.block _ (by omega)).trans HP2.out))
 have HQb : Hid (wb.heap[w.heap.size + 1]? = some (.cells #[.int .i64 t.kind, .string t.pkg, .int .i64 t.major, .string t.mod, .string t.name, .slice An t.names.length cA, .slice As t.subs.length cS] 50 (0, 0))) := hZ ((BB.block _ (by omega)).trans ((hb3.block _ hl2).trans HQ2.out))
 have HRE : Hid (RowIn enR wb Ae E) := hZ (RE.below BB)
 have HNM : Hid (NmS wb b0 b1 m) := hZ (NM.below BB)
 have HWB := hZ hwb
 clear hE hwb BB RE NM hb3 HB2 HP2 HQ2 o0 o1 o2 RD
 go_upto_region 4 with fail
 rw [<- HWB.out]
 clear HWB
 obtain ⟨n0, n1, n2⟩ := cq3 HXb.out
 have Qb := HQb.out
 obtain ⟨s0, s1, s2, s3, s4, s5, s6⟩ := cq7 Qb
 simp at n0 n1 n2 s0 s1 s2 s3 s4 s5 s6
 clear Qb
 go_wp2_with fail
 refine (said_any m b0 b1 Ae E.length ce (many t) t (Nat.le_refl _) zt _ wb HNM.out (HTV.out.below HBb.out)).mono ?_; rintro e w4 ⟨v', rfl, ho4, hb4⟩
 obtain ⟨Ap, cp, rfl⟩ := own_slice ho4
 have HN4 : Hid (NatsAt w4 Ap (saidT m t)) := hZ (nats_own ho4 rfl (Nat.le_refl _)).free
 have HB4 : Hid (Below w.heap.size w w4) := hZ (below_over HBb.out hb4)
 have HP4 : Hid (w4.heap[w.heap.size]? = some (.cells #[.string m.name, .slice Ai m.imps.length ci, .slice Ad m.decs.length cd] 126 (0, 0))) := hZ ((hb4.block _ (by omega)).trans HPb.out)
 have HX4 : Hid (w4.heap[w3.heap.size]? = some (.cells #[.map (some b0), .map (some b1), .slice Ae E.length ce] 212 (0, 0))) := hZ ((hb4.block _ hlb).trans HXb.out)
 have HR4 : Hid (RowIn enR w4 Ae E) := hZ (HRE.out.below hb4)
 have hl4 := hb4.size
 clear ho4 hb4 HPb HQb HXb HRE HBb HNM n0 n1 n2 s0 s1 s2 s3 s4 s5 s6
 obtain ⟨n0, n1, n2⟩ := cq3 HX4.out
 simp at n0 n1 n2
 go_wp2_with fail
 refine (found_any E (by rw [HE.out]; exact entries_valid m) (by omega) Ae ce b0 b1 (saidT m t) Ap cp w4 HR4.out HN4.out (fun i hi => by rw [HE.out, entries_len]; exact said_lt m _ t (Nat.le_refl _) i hi) (Nat.le_trans (said_len m _ t (Nat.le_refl _)) (by omega))).mono ?_
 rintro e w5 ⟨fb, rfl, hfb, FA, hb5⟩
 have HF5 := hZ FA
 have HB5 : Hid (Below w.heap.size w w5) := hZ (below_over HB4.out hb5)
 have HP5 : Hid (w5.heap[w.heap.size]? = some (.cells #[.string m.name, .slice Ai m.imps.length ci, .slice Ad m.decs.length cd] 126 (0, 0))) := hZ ((hb5.block _ (by omega)).trans HP4.out)
 have hl5 := hb5.size
 clear FA hb5 HB4 HP4 HX4 HR4 HN4 n0 n1 n2
 obtain ⟨n, hn⟩ : ∃ n, n = E.length := ⟨_, rfl⟩
 rw [<- hn] at HF5 hE60 ⊢
 have hnd : n = m.decs.length := by rw [hn, HE.out, entries_len]
 have HND := hZ hnd
 have HFm : Hid (reachB E (saidT m t) = reachB (entries m) (saidT m t)) := hZ (by rw [HE.out])
 have HNs := hZ hNs
 have hfl := HF5.out.lt
 clear hn hnd hNs HE
 go_wp2_with fail
 go_loopw [8, 31] (fun lv iv wr => ∃ (k : Nat) (Al : Option Addr) (cl : Nat), k <= n /\ iv = .int .i64 k /\ lv = .slice Al (mentN m t k).length cl /\ Hid (OwnStr wr w5.heap.size (.slice Al (mentN m t k).length cl) (mentN m t k)) /\ Hid (Below w5.heap.size w5 wr)) (fun _ iv _ => n - (intOf iv).toNat)
 case atStart => exact ⟨0, none, 0, by omega, rfl, rfl, hZ (World.ownsRow_nil _ _ _ _), hZ (Below.refl _ _)⟩
 case round =>
  obtain ⟨k, Al, cl, hk, rfl, rfl, HOW, HBr⟩ := hrel;obtain ⟨wo, rfl⟩ : ∃ wo : World, wo = wr := ⟨_, rfl⟩;have hso := HBr.out.size;by_cases hlt : k < n
  ·obtain ⟨d, hd⟩ : ∃ d, m.decs[k]? = some d := ⟨_, List.getElem?_eq_getElem (by rw [<- HND.out]; exact hlt)⟩
   have f0 : wo.cell? ⟨fb, k, none⟩ = some (.bool (reachB E (saidT m t) k)) := FoundAt.cell (show FoundAt wo fb n _ from (HBr.out.block fb hfl).trans HF5.out) hlt;cases hF : reachB E (saidT m t) k with
   | false =>
    rw [hF] at f0;have hst : mentN m t (k + 1) = mentN m t k := mentN_no (by rw [<- HFm.out]; exact hF);have HST := hZ hst;clear hF hst hd;go_wp2_with fail
    go_roundw
    case rel => exact ⟨k + 1, Al, cl, by omega, by go_num, by rw [HST.out], by rw [HST.out]; exact HOW, HBr⟩
    case measure => simp [intOf]; omega
   | true =>
    rw [hF] at f0;have hst : mentN m t (k + 1) = mentN m t k ++ [d.name] := mentN_yes hd (by rw [<- HFm.out]; exact hF);have HST := hZ hst;have HBw : Hid (Below w.heap.size w wo) := hZ (below_over HB5.out HBr.out);obtain ⟨g, o, v0, v1, v2, v3, v4, v5, v6, hAd, hg, a0, a1, u0, u1, u2, u3, u4', u5', u6, us, zs⟩ := RowIn.de (HD.out.below HBw.out) hd;subst hAd;have x2 := cZ ((HBr.out.block w.heap.size (by omega)).trans HP5.out) 2;simp at x2;have CL := hZ (clone_own d.name wo (HNs.out d (List.mem_of_getElem? hd)));have HDD := hZ hd;have hkd : k < m.decs.length := by rw [<- HND.out]; exact hlt
    clear hF hst hd us zs u0 u1 u2 u3 u4' u5' u6;go_wp2_with fail
    refine CL.out.mono ?_; rintro e w8 ⟨rfl, hb8⟩
    have hs8 := hb8.size;have ON : OwnStr w8 w5.heap.size (.slice Al (mentN m t k).length cl) (mentN m t k) := own_from HOW.out (fun b hb hlt => hb8.block b hlt);have HOL := hZ ON;have hln := mentN_len m t k;obtain ⟨q, hq⟩ : ∃ q, q = (mentN m t k).length := ⟨_, rfl⟩;have HQ := hZ hq;unfold OwnStr at ON
    rw [<- hq] at ON hln ⊢;obtain ⟨inf0, hi0, hz0, hz1, hz2⟩ := info_parts mstr_info;have hMX : q + 1 <= maxLen := by unfold maxLen; omega
    have hAL : ∀ oo, w5.heap.size <= (w8.alloc oo).heap.size := fun oo => by have e1 : (w8.alloc oo).heap.size = w8.heap.size + 1 := (by simp); omega
    have HB8 : Hid (Below w5.heap.size w5 w8) := hZ (below_over HBr.out hb8);have hlow : ∀ b, (Value.slice Al q cl).ownBlock = some b -> w5.heap.size <= b := fun b e => (ON.lt b e).1
    clear hq hb8 a0 a1 x2 CL;go_wp2_with (first | (refine wpList_append_lies _ rfl (.tmp 37) (.tmp 45) 47 rfl w5.heap.size 9 inf0 _ 1 16 Tryz.underlying47 hi0 hz0 hz1 hz2 (by rfl) (by decide) (.slice Al q cl) q _ rfl (ON.alloc _) ⟨w8.heap.size, 0, none⟩ 1 1 [.string d.name] rfl rfl (fun q' u hq => by rw [WideShapes.add_plain, Nat.zero_add, cZ (heap_alloc_new w8 _), <- hq, <- List.getElem?_toArray]) (fun u hu => by simp at hu; subst hu; rfl) Nat.one_pos hMX (by omega) (hAL _) _ rfl ?_; intro gb cap w9 hown hgrow hat hlt9))
    have HO9 : Hid (OwnStr w9 w5.heap.size (.slice (some ⟨gb, 0, none⟩) (mentN m t (k + 1)).length cap) (mentN m t (k + 1))) := hZ (by
     unfold OwnStr
     rw [HST.out, List.length_append, List.map_append, <- HQ.out];exact hown)
    have HL9 : Hid ((mentN m t (k + 1)).length = q + 1) := hZ (by rw [HST.out, List.length_append, <- HQ.out]; rfl);have HB9 : Hid (Below w5.heap.size w5 w9) := hZ (below_over HB8.out (show Below w8.heap.size w8 w8 from Below.refl _ _) |>.trans ⟨hgrow.os, hgrow.tape, hgrow.output, Nat.le_trans (by simp) hgrow.size, fun b hb => (hgrow.block b (by simp; omega) (fun e => by have := hlow b e.symm; omega)).trans (Lib.alloc_old _ _ _ (by omega))⟩);clear hown hgrow hat hlt9 ON;go_wp2_with fail
    go_roundw
    case rel => exact ⟨k + 1, some ⟨gb, 0, none⟩, cap, by omega, by go_num, by rw [HL9.out], HO9, HB9⟩
    case measure => simp [intOf]; omega
  ·obtain rfl : k = n := by omega
   have SO := hZ (sortS_any Al cl w5.heap.size (mentN m t k) wo HOW.out (Nat.le_trans (mentN_len m t k) (by omega)));go_wp2_with fail
   refine SO.out.mono ?_; rintro e w6 ⟨rfl, hst, hb6⟩
   have FIN : Hid (StrsAt w6 Al (sortS (mentN m t m.decs.length)) /\ Below w.heap.size w w6) := hZ
    ⟨by rw [<- HND.out]; exact hst, below_over HB5.out (HBr.out.trans (hb6 _ (Nat.le_refl _) hso))⟩
   clear hst hb6;go_wp2_with fail
   go_ret;exact ⟨Al, cl, by rw [<- HND.out]; rfl, FIN.out⟩
theorem check7_no (m : Mo) (l : List Value) (w : World) (h : MoAt w l m) (hm : mayM m = false) :
    Calls Tryz.prog 148 #[.agg l.toArray] w fun e w' => e = .returned (.iface 33 (.int .i64 1)) /\ Below w.heap.size w w' := by
  have HM := hZ hm;have HV := hZ h;obtain ⟨Ai, ci, Ad, cd, rfl, z1, z2, z3, -, -⟩ := h;clear hm;obtain ⟨w0, hw0⟩ : ∃ w0, w0 = w.alloc (.cells #[.string m.name, .slice Ai m.imps.length ci, .slice Ad m.decs.length cd] 126) := ⟨_, rfl⟩;have HB0 : Hid (Below w.heap.size w w0) := hZ (by rw [hw0]; exact below_new (Below.refl _ _) _);have HO0 : Hid (w0.heap[w.heap.size]? = some (.cells #[.string m.name, .slice Ai m.imps.length ci, .slice Ad m.decs.length cd] 126 (0, 0))) := hZ (by rw [hw0]; exact heap_alloc_new w _);have HW0 := hZ hw0;clear hw0;go_enter Tryz.func148, Tryz.ntmps148
  go_wp2_with fail
  rw [<- HW0.out];obtain ⟨o0, o1, o2⟩ := cq3 HO0.out;simp at o0 o1 o2;go_wp2_with fail
  refine (cmay6_any m _ _ (HV.out.below HB0.out)).mono ?_; rintro e w1 ⟨rfl, hb1⟩; rw [HM.out]
  have HB1 : Hid (Below w.heap.size w w1) := hZ (below_over HB0.out hb1);clear hb1 o0 o1 o2;go_wp2_with fail
  go_ret;exact ⟨rfl, HB1.out⟩
def knoN (m : Mo) (t : Ty) : Bool := if t.mod.size = 0 then (typAt m t.name).isSome else impHas m t.mod
end Go.Proofs.YtddlmigofilejaaGreat
namespace Go.Proofs.YtddlmigofilejaaGreat
open Go.RowKit
open Go.Sort
open M
def CapsAt (l : List Value) (m : Mo) : Prop := ∀ Ai ci Ad cd, l = [.string m.name, .slice Ai m.imps.length ci, .slice Ad m.decs.length cd] -> m.imps.length <= ci /\ m.decs.length <= cd
theorem CapsAt.of {m : Mo} {Ai Ad : Option Addr} {ci nd cd : Nat} (h1 : m.imps.length <= ci) (h2 : m.decs.length <= cd) (hn : nd = m.decs.length) : CapsAt [.string m.name, .slice Ai m.imps.length ci, .slice Ad nd cd] m := by
  intro Ai' ci' Ad' cd' e;subst hn;simp only [List.cons.injEq, Value.slice.injEq, and_true, true_and] at e;omega
end Go.Proofs.YtddlmigofilejaaGreat
namespace Go.Proofs.YtddlmigofilejaaGreat
open Go Go.ChangeShapes Go.WideShapes Go.ChangeAt Go.RowKit Go.Joins Go.Deep
open M
section
variable {H : Type} {enc : TypeId × Value -> H} {w : World} {base : Nat} {sp : Nat -> Bool} {held : Bool}
theorem open_rows7 {α : Type} (R : Reads α) (st : TypeId) (a0 : α) (ht : Tryz.prog.underlying st = some (.slice R.T)) (hk : Tryz.prog.cellsOf R.T = R.k) (hpos : 0 < R.k)
    (hE : ∀ (n : Nat) (cs : List Value) (x : DataW H × List MemPlace), DataW.trod enc Tryz.prog w base sp held n R.T cs = some x -> ∃ a, R.E w cs a)
    {fuel : Nat} {v : Value} {x : DataW H × List MemPlace} (h : DataW.trod enc Tryz.prog w base sp held fuel st [v] = some x) : ∃ (A : Option Addr) (c : Nat) (l : List α), v = .slice A l.length c /\ l.length <= maxLen /\ l.length <= c /\ RowIn R w A l := by
  rcases DataW.trod_slice ht h with ⟨hc, -⟩ | ⟨a', len, cap, elems, rest, n', hn', hc, -, -, hl, hm, hlen', hel, -, -⟩
  · obtain rfl := List.head_eq_of_cons_eq hc
    exact ⟨none, 0, [], rfl, Nat.zero_le _, Nat.zero_le _, fun i x hx => by simp at hx⟩
  · obtain rfl := List.head_eq_of_cons_eq hc
    rw [hk] at hel
    have hall : ∀ i, ∃ q : α × List Value, i < len -> w.cells? base (a'.add (i * R.k)) R.k = some q.2 /\ R.E w q.2 q.1 := by
      intro i;by_cases hi : i < len
      · have h1 := hel i hi
        rw [List.getElem?_eq_getElem (by rw [hlen']; exact hi)] at h1;obtain ⟨cs', h2, h3⟩ := Option.bind_eq_some_iff.1 h1;obtain ⟨t, ht⟩ := hE n' cs' _ h3;exact ⟨(t, cs'), fun _ => ⟨h2, ht⟩⟩
      · exact ⟨(a0, []), fun h => absurd h hi⟩
    obtain ⟨F, hF⟩ := Classical.axiomOfChoice hall;clear hall hel hE
    have hsome : ∀ i t, ((List.range len).map fun i => (F i).1)[i]? = some t -> i < len /\ t = (F i).1 := by
      intro i t ht;rw [List.getElem?_map] at ht;rcases Nat.lt_or_ge i len with hi | hi
      · rw [List.getElem?_range hi] at ht
        exact ⟨hi, (Option.some.inj ht).symm⟩
      · rw [List.getElem?_eq_none (by simpa using hi)] at ht
        cases ht
    have hle : ((List.range len).map fun i => (F i).1).length = len := by simp
    refine ⟨some a', cap, (List.range len).map fun i => (F i).1, by rw [hle], by rw [hle]; exact Nat.le_trans hl hm, by rw [hle]; exact hl, fun i t ht => ?_⟩;obtain ⟨hi, rfl⟩ := hsome i t ht;obtain ⟨b, o, spot⟩ := a';have hat := (World.cells?_some (hF i hi).1).2.2;have hlk := R.len _ _ _ (hF i hi).2
    have hspot : spot = none := by
      have hc := (World.cells?_some (hF 0 (by omega)).1).2.2 0 hpos;rw [List.getElem?_eq_getElem (by rw [R.len _ _ _ (hF 0 (by omega)).2]; exact hpos)] at hc;have := World.cell?_spot hc
      simpa [Addr.add] using this
    subst hspot
    have hcell : ∀ j v, (F i).2[j]? = some v -> w.cell? ⟨b, o + i * R.k + j, none⟩ = some v := by
      intro j v hv
      have hj : j < R.k := by
        have := (List.getElem?_eq_some_iff.1 hv).1
        rw [hlk] at this; exact this
      have := hat j hj
      rw [WideShapes.add_plain, WideShapes.add_plain] at this;rw [this]; exact hv
    exact ⟨b, o, (F i).2, rfl, World.block_lt_of_cell? w _ (hcell 0 _ (List.getElem?_eq_getElem (by rw [hlk]; exact hpos))), hcell, (hF i hi).2⟩
end
end Go.Proofs.YtddlmigofilejaaGreat
namespace Go.Proofs.YtddlmigofilejaaGreat
open Go.RowKit
open Go.Sort
open M
theorem all_one {α : Type} (p : α -> Bool) (l : List α) (j : Nat) (x : α) (h : l[j]? = some x) (hp : p x = false) : l.all p = false := by
  rw [List.all_eq_false];exact ⟨x, List.mem_of_getElem? h, by rw [hp]; decide⟩
end Go.Proofs.YtddlmigofilejaaGreat
