/-
  Several texts in one.
-/
import Derived.Test.YtddlmigofilejaaGreatDoorK23
import Derived.DeepKeys3
import Derived.Carry
open List (getElem_toArray getElem_cons_succ getElem_cons_zero set_cons_zero set_cons_succ setIfInBounds_toArray)
set_option maxRecDepth 100000
set_option maxHeartbeats 8000000
namespace Go.Proofs.YtddlmigofilejaaGreatDoor
open Go Go.RowKit Go.Shelf
open Go.Sort Go.Maps
open M
theorem ifSize : (Tryz.prog.info? 53).map (·.size) = some 5 := by kernel_rfl
theorem ifOne {p d : ByteArray} {m : Int} {A B : Option Addr} {n c k e : Nat} : (#[.string p, .int .i64 m, .string d, .slice A n c, .slice B k e] : Array Value).all (·.oneCell') = true := Array.all_eq_true_iff_forall_mem.2 (fun v hv => by simp at hv; rcases hv with rfl | rfl | rfl | rfl | rfl <;> rfl)
theorem cell5 {w : World} {b : Nat} {v0 v1 v2 v3 v4 : Value} {T : TypeId} {fr : Nat × Nat} (h : w.heap[b]? = some (.cells #[v0, v1, v2, v3, v4] T fr)) : ∀ i v, ([v0, v1, v2, v3, v4] : List Value)[i]? = some v -> w.cell? ⟨b, i, none⟩ = some v := fun i v hv => by
  rw [cZ h, <- hv, <- List.getElem?_toArray]
theorem nmSizeI : (Tryz.prog.info? 50).map (·.size) = some 8 := by kernel_rfl
theorem nmOneI {s : ByteArray} {k m : Int} {p d n : ByteArray} {A5 A6 : Option Addr} {n5 c5 n6 c6 : Nat} : (#[.string s, .int .i64 k, .string p, .int .i64 m, .string d, .string n, .slice A5 n5 c5, .slice A6 n6 c6] : Array Value).all (·.oneCell') = true := Array.all_eq_true_iff_forall_mem.2 (fun v hv => by simp at hv; rcases hv with rfl | rfl | rfl | rfl | rfl | rfl | rfl | rfl <;> rfl)
theorem cell8I {w : World} {b : Nat} {v0 v1 v2 v3 v4 v5 v6 v7 : Value} {T : TypeId} {fr : Nat × Nat} (h : w.heap[b]? = some (.cells #[v0, v1, v2, v3, v4, v5, v6, v7] T fr)) : ∀ i v, ([v0, v1, v2, v3, v4, v5, v6, v7] : List Value)[i]? = some v -> w.cell? ⟨b, i, none⟩ = some v := fun i v hv => by
  rw [cZ h, <- hv, <- List.getElem?_toArray]
theorem impSizeI : (Tryz.prog.info? 57).map (·.size) = some 4 := by kernel_rfl
theorem impOneI {a c d : ByteArray} {b : Int} : (#[.string a, .int .i64 b, .string c, .string d] : Array Value).all (·.oneCell') = true := Array.all_eq_true_iff_forall_mem.2 (fun v hv => by simp at hv; rcases hv with rfl | rfl | rfl | rfl <;> rfl)
theorem cell4I {w : World} {b : Nat} {v0 v1 v2 v3 : Value} {T : TypeId} {fr : Nat × Nat} (h : w.heap[b]? = some (.cells #[v0, v1, v2, v3] T fr)) : ∀ i v, ([v0, v1, v2, v3] : List Value)[i]? = some v -> w.cell? ⟨b, i, none⟩ = some v := fun i v hv => by
  rw [cZ h, <- hv, <- List.getElem?_toArray]
section
variable {ops : Array Oper} {rest : List Oper} {o : Oper} {act : Act} {Q : Exit -> Act -> World -> Prop}
end
section
variable {ops : Array Oper} {rest : List Oper} {o : Oper} {act : Act} {Q : Exit -> Act -> World -> Prop}
end
theorem row_grown {w w' : World} {r : Option Nat} (h : w.grownBy w' r) {b : Nat} (hb : w.heap.size <= b) (vs : Array Value) : w.grownBy (w'.setRow b vs) r :=
  ⟨h.os, h.tape, h.output, by rw [size_setRow]; exact h.size, fun k hk hne => (setRow_other _ _ _ _ (by omega)).trans (h.block k hk hne)⟩
theorem below_grow {w0 w w' : World} {kb : Nat} (h : Below w0.heap.size w0 w) (hg : w.grownBy w' (some kb)) (hk : w0.heap.size <= kb) : Below w0.heap.size w0 w' :=
  ⟨hg.os.trans h.os, hg.tape.trans h.tape, hg.output.trans h.output, Nat.le_trans h.size hg.size, fun b hb => (hg.block b (Nat.lt_of_lt_of_le hb h.size) (fun e => by cases e; omega)).trans (h.block b hb)⟩
abbrev cpO (L : Int) (mv : Value) : Obj := .cells #[.int .i64 L, mv] 236 (0, 0)
mutual
def fitT : Ty -> Prop
  | .mk _ p _ d n ns ss => (p.size <= 281474976710656 /\ d.size <= 281474976710656 /\ n.size <= 281474976710656 /\ ns.length <= 200 /\ ∀ s ∈ ns, s.size <= 281474976710656) /\ fitL ss
def fitL : List Ty -> Prop
  | [] => True
  | t :: r => fitT t /\ fitL r
end
theorem fitL_mem : ∀ l : List Ty, fitL l ↔ ∀ t ∈ l, fitT t
  | [] => by simp [fitL]
  | t :: r => by simp [fitL, fitL_mem r]
theorem fitT_own {t : Ty} (h : fitT t) : (t.pkg.size <= 281474976710656 /\ t.mod.size <= 281474976710656 /\ t.name.size <= 281474976710656 /\ t.names.length <= 200 /\ ∀ s ∈ t.names, s.size <= 281474976710656) /\ ∀ s ∈ t.subs, fitT s := by
  cases t with
  | mk k p m d n ns ss =>
    unfold fitT at h
    exact ⟨h.1, (fitL_mem ss).1 h.2⟩
def leftAt (L : Int) (ss : List Ty) (i : Nat) : Int := L - ss.length - manyL (ss.take i) + i
theorem manyL_drop : ∀ (l : List Ty) (i : Nat), manyL l = manyL (l.take i) + manyL (l.drop i)
  | [], i => by simp [manyL]
  | a :: r, 0 => by simp [manyL]
  | a :: r, i + 1 => by
    have := manyL_drop r i
    simp only [List.take_succ_cons, List.drop_succ_cons, manyL];omega
theorem left_many {L : Int} {ss : List Ty} {i : Nat} {s : Ty} (hs : ss[i]? = some s) (hL : (manyL ss : Int) + 1 <= L) : (many s : Int) <= leftAt L ss i /\ leftAt L ss i <= L := by
  have hi := (List.getElem?_eq_some_iff.1 hs).1;have h1 := manyL_drop ss i;have h2 := manyL_take ss i s hs;have h3 := manyL_drop ss (i + 1);have h4 := manyL_len (ss.drop (i + 1));rw [List.length_drop] at h4;have h5 := manyL_len (ss.take i);rw [List.length_take] at h5;unfold leftAt
  omega
theorem left_zero (L : Int) (ss : List Ty) : leftAt L ss 0 = L - ss.length := by unfold leftAt; simp [manyL]
theorem left_end (L : Int) (ss : List Ty) : leftAt L ss ss.length = L - manyL ss := by unfold leftAt; rw [List.take_length]; omega
theorem left_step {L : Int} {ss : List Ty} {i : Nat} {s : Ty} (hs : ss[i]? = some s) : leftAt L ss i - (many s - 1) = leftAt L ss (i + 1) := by
  have h2 := manyL_take ss i s hs;unfold leftAt
  omega
theorem grown_put {w w' : World} {r : Option Nat} (h : w.grownBy w' r) {g : Nat} (hg : w.heap.size <= g) (o : Nat) (l : List Value) : w.grownBy (w'.setCells g o l) r := by
  have hb : Below w'.heap.size w' w' := Below.refl _ _;refine ⟨?_, ?_, ?_, by rw [size_setCells]; exact h.size, fun b hb hne => ?_⟩
  · rw [World.os_setCells]; exact h.os
  · exact (setCells_below (n := 0) (Below.refl 0 w') (Nat.zero_le g) o l).tape.trans h.tape
  · rw [World.output_setCells]; exact h.output
  · rw [World.heap_setCells_other w' g o l (Nat.lt_of_lt_of_le hb h.size) (by omega)]
    exact h.block b hb hne
theorem listT_any (w0 w : World) (kb : Nat) (A : Option Addr) (n c : Nat) (ss : List Ty) (O : Nat -> Obj) (hn : ss.length = n) (hz : n <= 1000000) (hS : SubsAt w0 A ss) (hw : Below w0.heap.size w0 w) (hk0 : w0.heap.size <= kb) (hkl : kb < w.heap.size) (hO : w.heap[kb]? = some (O 0))
    (IH : ∀ i s, ss[i]? = some s -> ∀ (l : List Value) (wx : World), TyAt w0 l s -> Below w0.heap.size w0 wx -> kb < wx.heap.size -> wx.heap[kb]? = some (O i) ->
      Calls Tryz.prog 187 #[.pointer (some ⟨kb, 0, none⟩), .agg l.toArray] wx fun e w' => ∃ l' : List Value, e = .returned (.agg l'.toArray) /\ TyAt (strike (· < wx.heap.size) w') l' s /\ w'.heap[kb]? = some (O (i + 1)) /\ wx.grownBy w' (some kb)) :
    Calls Tryz.prog 248 #[.slice A n c, .func (.func 187) #[.pointer (some ⟨kb, 0, none⟩)] #[]] w fun e w' => ∃ (A' : Option Addr) (c' : Nat), e = .returned (.slice A' n c') /\ n <= c' /\ RowIn tR (strike (· < w.heap.size) w') A' ss /\ w'.heap[kb]? = some (O n) /\ w.grownBy w' (some kb) := by
  have HN := zH hn;have HS := zH hS;have HW := zH hw;have HIH := zH IH;have HO := zH hO;have EQ : ∀ wz : World, (binOp .eql 46 (.slice A n c) (.slice none 0 0)).run Tryz.prog wz = .ok (.bool A.isNone) wz := fun wz => Lib.run_eql_slice_nil wz _ _ _ _ _ _ _ Tryz.underlying46
  cases A with
  | none =>
    have h0 : ss = [] := hS.row.none_nil;have hn0 : n = 0 := by rw [<- hn, h0]; rfl
    have HX := zH h0;subst hn0;clear hS hn h0 hw IH hO;go_enter Tryz.func248, Tryz.ntmps248
    go_wp2_with fail
    go_ret;exact ⟨_, _, rfl, Nat.le_refl _, fun i s h => by rw [HX.out] at h; simp at h, HO.out, grown_of (Below.refl _ _)⟩
  | some ad =>
    obtain ⟨i0, hi, hz0, hz1, hz2⟩ := info_parts typ_info;obtain ⟨W1, hW1⟩ : ∃ W1, W1 = w.alloc (.cells (madeCells (Value.agg #[.int .i64 0, .string ⟨#[]⟩, .int .i64 0, .string ⟨#[]⟩, .string ⟨#[]⟩, .slice none 0 0, .slice none 0 0]).cells (n * 7)) 48) := ⟨_, rfl⟩;have MS := run_make (P := Tryz.prog) w 46 48 i0 (.agg #[.int .i64 0, .string ⟨#[]⟩, .int .i64 0, .string ⟨#[]⟩, .string ⟨#[]⟩, .slice none 0 0, .slice none 0 0]) Tryz.underlying46 hi hz0 .i64 .i64 (n : Int) (n : Int) (by omega) (by omega) (by rw [hz2]; omega) (by omega);rw [hz1] at MS;simp only [Int.toNat_natCast] at MS;rw [<- hW1] at MS;have START : Hid (Fill tR w.heap.size w.heap.size ss 0 W1) := zH (by rw [hW1]; exact Fill.start tR (Nat.le_refl _) _ _ ss (by rw [size_madeCells, hn]; rfl));have HB1 : Hid (w.grownBy W1 (some kb) /\ W1.heap[kb]? = some (O 0)) := zH (by rw [hW1]; exact ⟨grown_of (below_new (Below.refl _ _) _), (Lib.alloc_old w _ kb hkl).trans hO⟩);have EQ' : ∀ wz : World, (binOp .eql 46 (.slice (some ad) n c) (.slice none 0 0)).run Tryz.prog wz = .ok (.bool false) wz := EQ
    clear EQ hW1 hS hn hw IH hO;go_enter Tryz.func248, Tryz.ntmps248
    go_wp2_with fail
    go_loopw [15] (fun s15 wr => ∃ k : Nat, k <= n /\ s15 = .int .i64 k /\ Hid (Fill tR w.heap.size w.heap.size ss k wr) /\ Hid (w.grownBy wr (some kb) /\ wr.heap[kb]? = some (O k))) (fun s15 _ => n - (intOf s15).toNat)
    case atStart => exact ⟨0, by omega, rfl, START, HB1⟩
    case round =>
      obtain ⟨k, hk, rfl, HF, HB⟩ := hrel;obtain ⟨wo, rfl⟩ : ∃ wo : World, wo = wr := ⟨_, rfl⟩;clear MS EQ' START HB1;by_cases hlt : k < n
      · obtain ⟨s, hs⟩ : ∃ s, ss[k]? = some s := ⟨_, List.getElem?_eq_getElem (by rw [HN.out]; exact hlt)⟩
        obtain ⟨g, o, v0, v1, v2, v3, v4, v5, v6, e1, hg, a0, a1, a2, a3, a4, a5, a6, us⟩ := HS.out k s hs;obtain ⟨Bn, cB, Bs, dB, ev, -⟩ := us.parts;simp only [List.cons.injEq, and_true] at ev;obtain ⟨rfl, rfl, rfl, rfl, rfl, rfl, rfl⟩ := ev;obtain rfl := Option.some.inj e1;have hBo : Below w0.heap.size w0 wo := below_grow HW.out HB.out.1 hk0;have q := fun o v (hv : w0.cell? ⟨g, o, none⟩ = some v) => (hBo.cell (p := ⟨g, o, none⟩) hg).trans hv
        have c0 := q _ _ a0;have c1 := q _ _ a1;have c2 := q _ _ a2;have c3 := q _ _ a3;have c4 := q _ _ a4;have c5 := q _ _ a5;have c6 := q _ _ a6;obtain ⟨w8, hw8⟩ : ∃ w8, w8 = wo.alloc (.cells #[.int .i64 s.kind, .string s.pkg, .int .i64 s.major, .string s.mod, .string s.name, .slice Bn s.names.length cB, .slice Bs s.subs.length dB] 48) := ⟨_, rfl⟩;have B8 : Below wo.heap.size wo w8 := by rw [hw8]; exact below_new (Below.refl _ _) _
        have Y8 : w8.heap[wo.heap.size]? = some (.cells #[.int .i64 s.kind, .string s.pkg, .int .i64 s.major, .string s.mod, .string s.name, .slice Bn s.names.length cB, .slice Bs s.subs.length dB] 48 (0, 0)) := by rw [hw8]; exact heap_alloc_new wo _
        have s8 : w8.heap.size = wo.heap.size + 1 := by rw [hw8]; simp
        have hkw : kb < wo.heap.size := Nat.lt_of_lt_of_le hkl HB.out.1.size;have CL := zH (HIH.out k s hs _ w8 us (below_grow hBo (grown_of B8) hk0) (by omega) ((B8.block _ hkw).trans HB.out.2));have HSS := zH hs;have HB8 := zH B8;have HW8 := zH hw8;have HY8 := zH Y8;clear hs us hg e1 hBo q a0 a1 a2 a3 a4 a5 a6 B8 hw8;go_upto_region 7 with fail
        rw [<- HW8.out];clear c0 c1 c2 c3 c4 c5 c6;obtain ⟨y0, y1, y2, y3, y4, y5, y6⟩ := cq7 Y8;simp at y0 y1 y2 y3 y4 y5 y6;clear Y8;go_wp2_with fail
        refine CL.out.mono ?_; rintro e w2 ⟨l', rfl, hT2, hO2, hg2⟩
        obtain ⟨Cn, cC, Cs, dC, rfl, -⟩ := hT2.parts;have hlw : w.heap.size < wo.heap.size := HF.out.hg;have hs2 := hg2.size;have F2 : Fill tR w.heap.size w.heap.size ss k w2 := HF.out.keep (by omega) (fun b h1 hb => (hg2.block b (by omega) (fun e => by cases e; omega)).trans (HB8.out.block b hb));have HT := F2.at (m := 7) (by rw [HN.out]; exact hlt) rfl;have F3 : Hid (Fill tR w.heap.size w.heap.size ss (k + 1) (w2.setCells w.heap.size (k * 7) [.int .i64 s.kind, .string s.pkg, .int .i64 s.major, .string s.mod, .string s.name, .slice Cn s.names.length cC, .slice Cs s.subs.length dC])) := zH (F2.put HSS.out (B := w8.heap.size) hT2 (by omega))
        have B3 : Hid (w.grownBy (w2.setCells w.heap.size (k * 7) [.int .i64 s.kind, .string s.pkg, .int .i64 s.major, .string s.mod, .string s.name, .slice Cn s.names.length cC, .slice Cs s.subs.length dC]) (some kb) /\ (w2.setCells w.heap.size (k * 7) [.int .i64 s.kind, .string s.pkg, .int .i64 s.major, .string s.mod, .string s.name, .slice Cn s.names.length cC, .slice Cs s.subs.length dC]).heap[kb]? = some (O (k + 1))) := zH
          ⟨grown_put (grown_over HB.out.1 (grown_over (grown_of HB8.out) hg2)) (Nat.le_refl _) _ _, by rw [World.heap_setCells_other _ _ _ _ (by omega) (by omega)]; exact hO2⟩
        clear F2 hg2 hT2 hO2 CL y0 y1 y2 y3 y4 y5 y6 HB8 HW8 HY8;go_upto_region 8 with (first | ((with_reducible refine wpList_putMid 48 w.heap.size (k * 7) #[.int .i64 s.kind, .string s.pkg, .int .i64 s.major, .string s.mod, .string s.name, .slice Cn s.names.length cC, .slice Cs s.subs.length dC] ?_ ?_ ?_ ?_ ?_ ?_); exact HT; exact tySize; exact tyOne; rfl; rfl))
        obtain ⟨w9, hw9⟩ : ∃ w9, w9 = w2.setCells w.heap.size (k * 7) [.int .i64 s.kind, .string s.pkg, .int .i64 s.major, .string s.mod, .string s.name, .slice Cn s.names.length cC, .slice Cs s.subs.length dC] := ⟨_, rfl⟩;rw [<- hw9] at F3 B3;have HW9 := zH hw9;clear hw9 HT;try rw [<- HW9.out]
        go_wp2_with fail
        go_roundw
        case rel => exact ⟨k + 1, by omega, by go_num, F3, B3⟩
        case measure => simp [intOf]; omega
      · have hkn : k = n := by omega
        have DONE := zH (HF.out.done (m := w.heap.size) (by rw [HN.out]; omega) (Nat.le_refl _));have HKN := zH hkn;clear hkn;go_wp2_with fail
        go_ret;exact ⟨_, _, rfl, Nat.le_refl _, DONE.out, by rw [<- HKN.out]; exact HB.out.2, HB.out.1⟩
def ClnOut (w0 w : World) (n : Nat) (ss : List Ty) (e : Ending) (w' : World) : Prop :=
  ∃ (A : Option Addr) (c : Nat), e = .returned (.slice A n c) /\ n <= c /\ Below w.heap.size w w' /\ (0 < n -> ∃ g, A = some ⟨g, 0, none⟩ /\ w.heap.size <= g /\ g < w'.heap.size /\ w'.there g 0 (n * 7) /\
    ∀ i s, ss[i]? = some s -> ∃ l : List Value, TyAt w0 l s /\ ∀ q v, l[q]? = some v -> w'.cell? ⟨g, i * 7 + q, none⟩ = some v)
theorem cln_own {w0 w w' : World} {n : Nat} {ss : List Ty} {v : Value} {C : List (List Value)} (hn : ss.length = n) (h1 : C.length = ss.length) (h2 : ∀ l, l ∈ C -> l.length = 7) (h4 : ∀ (i : Nat) (l : List Value) (x : Ty), C[i]? = some l -> ss[i]? = some x -> TyAt w0 l x)
    (hown : w'.ownsRow w.heap.size 48 7 v n C.flatten) (hb : Below w.heap.size w w') : ClnOut w0 w n ss (.returned v) w' := by
  rcases hown.2 with ⟨rfl, h0⟩ | ⟨g, cap, cur, rfl, hB, hg, hnc, hcm, hcs, htake⟩
  · exact ⟨none, 0, by rw [h0], by omega, hb, fun h => by omega⟩
  · refine ⟨_, cap, rfl, hnc, hb, fun _ => ⟨g, rfl, hB, (Array.getElem?_eq_some_iff.1 hg).1, fun j hj => ⟨?_, Lib.frozen_of_heap hg _⟩, fun i s hs => ?_⟩⟩
    · have : n * 7 <= cap * 7 := Nat.mul_le_mul_right _ hnc
      rw [cZ hg, Nat.zero_add, Array.getElem?_eq_getElem (by omega)]; rfl
    · have hi := (List.getElem?_eq_some_iff.1 hs).1
      have hl : C[i]? = some C[i] := List.getElem?_eq_getElem (by omega);refine ⟨_, h4 i _ s hl hs, fun q v hv => ?_⟩;have hq := (List.getElem?_eq_some_iff.1 hv).1;rw [h2 _ (List.getElem_mem (by omega))] at hq;have hf := flatk_at C h2 i q _ hl hq;rw [cZ hg, <- Array.getElem?_toList];have e2 : (cur.toList.take (n * 7))[i * 7 + q]? = C[i][q]? := by rw [htake, hf]
      rw [List.getElem?_take] at e2;split at e2
      · rw [e2]; exact hv
      · omega
theorem cloneT_any (w0 w : World) (As : Option Addr) (n cs : Nat) (ss : List Ty) (hn : ss.length = n) (hz : n <= 9000) (hS : SubsAt w0 As ss) (hw : Below w0.heap.size w0 w) :
    Calls Tryz.prog 186 #[.slice As n cs] w (ClnOut w0 w n ss) := by
  have EQ : ∀ wz : World, (binOp .eql 46 (.slice As n cs) (.slice none 0 0)).run Tryz.prog wz = .ok (.bool As.isNone) wz := fun wz => Lib.run_eql_slice_nil wz _ _ _ _ _ _ _ Tryz.underlying46
  cases As with
  | none =>
    have h0 : ss = [] := hS.row.none_nil;have hn0 : n = 0 := by rw [<- hn, h0]; rfl
    subst hn0;clear hS hn h0;go_enter Tryz.func186, Tryz.ntmps186
    go_wp2_with fail
    go_ret;exact ⟨none, 0, rfl, Nat.le_refl _, Below.refl _ _, fun h => by omega⟩
  | some ad =>
    have HL : ∃ C : List (List Value), C.length = ss.length /\ (∀ l, l ∈ C -> l.length = 7) /\ (∀ (i : Nat) (l : List Value) (x : Ty), C[i]? = some l -> ss[i]? = some x -> TyAt w0 l x) /\ (∀ (j : Nat) (u : Value), C.flatten[j]? = some u -> w.cell? (ad.add j) = some u) /\ ∀ u ∈ C.flatten, u.oneCell' = true := by
      cases hc : ss with
      | nil => exact ⟨[], rfl, fun l h => (by cases h), fun i l x h => by simp at h, fun j u h => by simp at h, fun u h => by simp at h⟩
      | cons s0 r0 =>
        obtain ⟨g, o, _, _, _, _, _, _, _, e, hg, -⟩ := hS 0 s0 (by rw [hc]; rfl);obtain rfl := Option.some.inj e;obtain ⟨C, k1, k2, k3, k4⟩ := RowIn.lists (R := tR) (by show 0 < 7; omega) hS.row;rw [<- hc];refine ⟨C, k1, k2, k3, fun j u hu => ?_, fun u hu => ?_⟩
        · rw [WideShapes.add_plain]
          exact (hw.cell (p := ⟨g, _, none⟩) hg).trans (k4 j u hu)
        · obtain ⟨l, hl, hu⟩ := List.mem_flatten.1 hu
          obtain ⟨i, hi⟩ := List.mem_iff_getElem?.1 hl;have hil := (List.getElem?_eq_some_iff.1 hi).1;exact ty_one (k3 i l _ hi (List.getElem?_eq_getElem (by omega))) u hu
    obtain ⟨C, h1, h2, h4, hnews, hone⟩ := HL;have hfl : C.flatten.length = n * 7 := by rw [flatC_len C h2, h1, hn]
    have hnews2 : ∀ (j : Nat) (u : Value), C.flatten[j]? = some u -> (w.alloc (.cells #[] 48)).cell? (ad.add j) = some u := fun j u hu => cell_alloc (hnews j u hu)
    have own0 := World.ownsRow_lit (base := w.heap.size) (e := 48) (size := 7) w #[] 0 (Nat.le_refl _) (by decide) rfl;obtain ⟨i1, hi1, hy0, hy1, hy2⟩ := info_parts typ_info;have EQ' : ∀ wz : World, (binOp .eql 46 (.slice (some ad) n cs) (.slice none 0 0)).run Tryz.prog wz = .ok (.bool false) wz := EQ
    have hbase : w.heap.size <= (w.alloc (.cells #[] 48)).heap.size := by simp
    have HH4 := zH h4;have HH2 := zH h2;have HH1 := zH h1;have HN := zH hn;clear EQ hS hn hw h4 h2 h1 hnews;go_enter Tryz.func186, Tryz.ntmps186
    go_wp2_with (at_builtin; refine wpList_append_own_at _ rfl _ _ 46 rfl w.heap.size 48 i1 _ 7 112 Tryz.underlying46 hi1 hy0 hy1 hy2 rfl (by decide) _ 0 [] rfl own0 ad n cs C.flatten rfl ?c0 hnews2 hone ?c3 ?c4 hbase ?_)
    case c3 => unfold maxLen; omega
    case c4 => omega
    intro v5 w4 hown hgrow _ hat
    have FIN : Hid (ClnOut w0 w n ss (.returned v5) w4) := zH (by
      have hown2 : w4.ownsRow w.heap.size 48 7 v5 n C.flatten := by first | exact hown | simpa using hown
      refine cln_own HN.out HH1.out HH2.out HH4.out hown2 ⟨hgrow.os, hgrow.tape, hgrow.output, Nat.le_trans hbase hgrow.size, fun b hb => ?_⟩;rw [hgrow.block b (by simp; omega) (by simp [Value.ownBlock]; omega)];exact Lib.alloc_old w _ b hb)
    clear hown hgrow hat hnews2 hone own0 EQ';go_wp2_with fail
    go_ret;exact FIN.out
def CyOut (kb : Nat) (mv : Value) (L : Int) (t : Ty) (w : World) (e : Ending) (w' : World) : Prop :=
 ∃ l : List Value, e = .returned (.agg l.toArray) /\ TyAt (strike (· < w.heap.size) w') l t /\ w'.heap[kb]? = some (cpO (L - (many t - 1)) mv) /\ w.grownBy w' (some kb)
def CyAt (w0 : World) (kb : Nat) (mv : Value) (t : Ty) : Prop :=
 ∀ (L : Int) (l : List Value) (wx : World), (many t : Int) <= L -> L <= 65536 -> TyAt w0 l t -> Below w0.heap.size w0 wx -> kb < wx.heap.size -> wx.heap[kb]? = some (cpO L mv) ->
  Calls Tryz.prog 187 #[.pointer (some ⟨kb, 0, none⟩), .agg l.toArray] wx (CyOut kb mv L t wx)
theorem subsC_any (w0 w : World) (kb : Nat) (mv : Value) (L : Int) (A : Option Addr) (n c : Nat) (ss : List Ty) (hn : ss.length = n) (hz : n <= 1000000) (hS : SubsAt w0 A ss) (hw : Below w0.heap.size w0 w) (hk0 : w0.heap.size <= kb) (hkl : kb < w.heap.size) (hkb : w.heap[kb]? = some (cpO L mv))
  (hL : (manyL ss : Int) + 1 <= L) (hL2 : L <= 65536) (IH : ∀ s, s ∈ ss -> CyAt w0 kb mv s) :
  Calls Tryz.prog 221 #[.pointer (some ⟨kb, 0, none⟩), .slice A n c] w fun e w' => ∃ (A' : Option Addr) (c' : Nat), e = .returned (.slice A' n c') /\ n <= c' /\ RowIn tR (strike (· < w.heap.size) w') A' ss /\ w'.heap[kb]? = some (cpO (L - manyL ss) mv) /\ w.grownBy w' (some kb) := by
 obtain ⟨w1, hw1⟩ : ∃ w1, w1 = w.setCell ⟨kb, 0, none⟩ (.int .i64 (L - (n : Int))) := ⟨_, rfl⟩
 have hml := manyL_len ss
 have hL0 : 0 < L := by omega
 have HG1 : Hid (w.grownBy w1 (some kb)) := zH (by
  rw [hw1];exact ⟨rfl, rfl, rfl, by simp, fun b _ hne => Below.heap_setCell _ _ _ _ (fun e => hne (by rw [e]))⟩)
 have HK1 : Hid (w1.heap[kb]? = some (cpO (leftAt L ss 0) mv)) := zH (by
  have := Joins.block_setCell (i := 0) hkb (.int .i64 (L - (n : Int)))
  rw [hw1, this, left_zero, hn];rfl)
 have s1 : w1.heap.size = w.heap.size := by rw [hw1]; simp
 have CL := zH (listT_any w0 w1 kb A n c ss (fun i => cpO (leftAt L ss i) mv) hn hz hS (below_grow hw HG1.out hk0) hk0 (by omega) HK1.out (fun i s hs l wx hT hb hk hO => by
  have hl := left_many hs hL;refine (IH s (List.mem_of_getElem? hs) _ l wx hl.1 (by omega) hT hb hk hO).mono ?_;rintro e w' ⟨l', rfl, h1, h2, h3⟩;exact ⟨l', rfl, h1, by rw [h2, left_step hs], h3⟩))
 have x0 := cZ hkb 0
 have f0 := Lib.frozen_of_heap hkb 0
 simp at x0
 have wr1 : IntKind.i64.wrap (L - (n : Int)) = L - (n : Int) := by rw [IntKind.wrap_i64]; omega
 have HW1 := zH hw1
 have HEND : Hid (leftAt L ss n = L - manyL ss) := zH (by rw [<- hn]; exact left_end L ss)
 have HS1 := zH s1
 clear hS hw hk0 hkl hkb hL IH hml hw1 s1 hn
 go_enter Tryz.func221, Tryz.ntmps221
 go_upto_region 3 with fail
 rw [<- HW1.out]
 clear x0 f0 wr1
 go_wp2_with fail
 refine CL.out.mono ?_; rintro e w2 ⟨A', c', rfl, hc', hR, hO, hg⟩
 have FIN : Hid (n <= c' /\ RowIn tR (strike (· < w.heap.size) w2) A' ss /\ w2.heap[kb]? = some (cpO (L - manyL ss) mv) /\ w.grownBy w2 (some kb)) := zH ⟨hc', by rw [<- HS1.out]; exact hR, by rw [hO, HEND.out], grown_over HG1.out hg⟩
 clear hc' hR hO hg CL
 go_wp2_with fail
 go_ret
 exact ⟨_, _, rfl, FIN.out⟩
theorem names_keep {S : Nat -> Prop} {w w' : World} {A : Option Addr} {l : List ByteArray} (h : NamesAt (strike S w) A l) (hz : w.heap.size <= w'.heap.size) {S' : Nat -> Prop} (hb : ∀ b, b < w.heap.size -> ¬ S b -> ¬ S' b /\ w'.heap[b]? = w.heap[b]?) : NamesAt (strike S' w') A l :=
 (RowIn.move (R := stR) h.row hz hb).names
theorem copyC_any (w0 : World) (kb : Nat) (mv : Value) (hk0 : w0.heap.size <= kb) (N : Nat) : ∀ (t : Ty), many t <= N -> fitT t -> CyAt w0 kb mv t := by
 induction N with
 | zero => intro t h; have := many_pos t; omega
 | succ N ih =>
  intro t hN hF L l w hL hL2 hT hw hkl hkb;obtain ⟨⟨zp, zm, zn, znl, zns⟩, hfs⟩ := fitT_own hF;obtain ⟨An, cn, As, cs, rfl, -, -, -, -, -, hNA, hS⟩ := hT.parts;have hme := manyL_eq t;have hml := manyL_len t.subs;obtain ⟨W2, hW2, B2, O0, O1, hl2⟩ := two_boxes w #[.int .i64 t.kind, .string t.pkg, .int .i64 t.major, .string t.mod, .string t.name, .slice An t.names.length cn, .slice As t.subs.length cs] #[.int .i64 0, .string ⟨#[]⟩, .int .i64 0, .string ⟨#[]⟩, .string ⟨#[]⟩, .slice none 0 0, .slice none 0 0] 48 48;have HB2 := zH B2;have HO0 := zH O0;have HO1 := zH O1;have HW := zH hW2;have HK2 : Hid (W2.heap[kb]? = some (cpO L mv)) := zH ((B2.block _ hkl).trans hkb);have HW0 := zH hw
  have KEEP : Hid (∀ wx : World, wx.heap[w.heap.size]? = W2.heap[w.heap.size]? -> wx.cell? ⟨w.heap.size, 0, none⟩ = some (.int .i64 t.kind) /\ wx.cell? ⟨w.heap.size, 1, none⟩ = some (.string t.pkg) /\ wx.cell? ⟨w.heap.size, 2, none⟩ = some (.int .i64 t.major) /\ wx.cell? ⟨w.heap.size, 3, none⟩ = some (.string t.mod) /\ wx.cell? ⟨w.heap.size, 4, none⟩ = some (.string t.name) /\ wx.cell? ⟨w.heap.size, 5, none⟩ = some (.slice An t.names.length cn) /\ wx.cell? ⟨w.heap.size, 6, none⟩ = some (.slice As t.subs.length cs)) := zH (fun wx hb => by
   have X0 := hb.trans HO0.out;exact ⟨cZ X0 0, cZ X0 1, cZ X0 2, cZ X0 3, cZ X0 4, cZ X0 5, cZ X0 6⟩)
  have C0 := zH (fun (wx : World) => cln_any t.pkg wx zp);have C1 := zH (fun (wx : World) => cln_any t.mod wx zm);have C2 := zH (fun (wx : World) => cln_any t.name wx zn);have C3 := zH (fun (wx : World) (hb : Below w.heap.size w wx) => listS_any w0 wx An t.names.length cn t.names rfl (by omega) hNA (below_over hw hb) zns);have C4 := zH (fun (wx : World) (hb : Below w.heap.size w wx) => subsC_any w0 wx kb mv L As t.subs.length cs t.subs rfl (by omega) hS (below_over hw hb) hk0 (Nat.lt_of_lt_of_le hkl hb.size) ((hb.block _ hkl).trans hkb) (by omega) hL2 (fun s hs => ih s (by have := manyL_mem _ _ hs; omega) (hfs s hs)));have HME : Hid ((many t : Int) - 1 = manyL t.subs) := zH (by omega);have HSZ : Hid (t.pkg.size <= 9223372036854775807 /\ t.mod.size <= 9223372036854775807 /\ t.name.size <= 9223372036854775807 /\ t.names.length <= 9223372036854775807 /\ t.subs.length <= 9223372036854775807) := zH ⟨by omega, by omega, by omega, by omega, by omega⟩;have HKL := zH hkl;clear hW2 B2 O0 O1 hkb hw hT hNA hS hfs hF zns hL hL2 hN hme hml zp zm zn znl hkl;go_enter Tryz.func187, Tryz.ntmps187
  go_upto_region 1 with fail
  rw [<- HW.out];clear HW;have hH0 := KEEP.out W2.drew rfl;refine AnyX.start (fun wx => wx.cell? ⟨w.heap.size, 0, none⟩ = some (.int .i64 t.kind) /\ wx.cell? ⟨w.heap.size, 1, none⟩ = some (.string t.pkg) /\ wx.cell? ⟨w.heap.size, 2, none⟩ = some (.int .i64 t.major) /\ wx.cell? ⟨w.heap.size, 3, none⟩ = some (.string t.mod) /\ wx.cell? ⟨w.heap.size, 4, none⟩ = some (.string t.name) /\ wx.cell? ⟨w.heap.size, 5, none⟩ = some (.slice An t.names.length cn) /\ wx.cell? ⟨w.heap.size, 6, none⟩ = some (.slice As t.subs.length cs)) (fun _ => false) (by kernel_rfl) ?_;refine AnyX.mv (i := 0) (v := ?_) rfl (fun _ _ _ h => h) (Or.inl ⟨by rfl, ?_⟩) ?_;rotate_left
  ·(intro wS _; go_simp; try with_reducible rfl)
  simp only [getElem_toArray, getElem_cons_succ, getElem_cons_zero];simp only [Act.put, setIfInBounds_toArray, set_cons_zero, set_cons_succ];refine AnyX.tk (i := 1) (v := ?_) rfl (fun _ _ _ h => h) hH0 (Or.inl ⟨by rfl, ?_⟩) ?_;rotate_left
  ·(intro wS hS; (try obtain ⟨x0, x1, x2, x3, x4, x5, x6⟩ := hS); go_simp; try with_reducible rfl)
  simp only [getElem_toArray, getElem_cons_succ, getElem_cons_zero];simp only [Act.put, setIfInBounds_toArray, set_cons_zero, set_cons_succ];refine AnyX.mv (i := 2) (v := ?_) rfl (fun _ _ _ h => h) (Or.inl ⟨by rfl, ?_⟩) ?_;rotate_left
  ·(intro wS _; go_simp; try with_reducible rfl)
  simp only [getElem_toArray, getElem_cons_succ, getElem_cons_zero];simp only [Act.put, setIfInBounds_toArray, set_cons_zero, set_cons_succ];refine AnyX.tk (i := 3) (v := ?_) rfl (fun _ _ _ h => h) hH0 (Or.inl ⟨by rfl, ?_⟩) ?_;rotate_left
  ·(intro wS hS; (try obtain ⟨x0, x1, x2, x3, x4, x5, x6⟩ := hS); go_simp; try with_reducible rfl)
  simp only [getElem_toArray, getElem_cons_succ, getElem_cons_zero];simp only [Act.put, setIfInBounds_toArray, set_cons_zero, set_cons_succ];refine AnyX.mv (i := 5) (v := ?_) rfl (fun _ _ _ h => h) (Or.inl ⟨by rfl, ?_⟩) ?_;rotate_left
  ·(intro wS _; go_simp; try with_reducible rfl)
  simp only [getElem_toArray, getElem_cons_succ, getElem_cons_zero];simp only [Act.put, setIfInBounds_toArray, set_cons_zero, set_cons_succ];refine AnyX.tk (i := 6) (v := ?_) rfl (fun _ _ _ h => h) hH0 (Or.inl ⟨by rfl, ?_⟩) ?_;rotate_left
  ·(intro wS hS; (try obtain ⟨x0, x1, x2, x3, x4, x5, x6⟩ := hS); go_simp; try with_reducible rfl)
  simp only [getElem_toArray, getElem_cons_succ, getElem_cons_zero];simp only [Act.put, setIfInBounds_toArray, set_cons_zero, set_cons_succ];refine AnyX.mv (i := 7) (v := ?_) rfl (fun _ _ _ h => h) (Or.inl ⟨by rfl, ?_⟩) ?_;rotate_left
  ·(intro wS _; go_simp; try with_reducible rfl)
  simp only [getElem_toArray, getElem_cons_succ, getElem_cons_zero];simp only [Act.put, setIfInBounds_toArray, set_cons_zero, set_cons_succ];refine AnyX.tk (i := 8) (v := ?_) rfl (fun _ _ _ h => h) hH0 (Or.inl ⟨by rfl, ?_⟩) ?_;rotate_left
  ·(intro wS hS; (try obtain ⟨x0, x1, x2, x3, x4, x5, x6⟩ := hS); go_simp; try with_reducible rfl)
  simp only [getElem_toArray, getElem_cons_succ, getElem_cons_zero];simp only [Act.put, setIfInBounds_toArray, set_cons_zero, set_cons_succ];refine AnyX.mv (i := 10) (v := ?_) rfl (fun _ _ _ h => h) (Or.inl ⟨by rfl, ?_⟩) ?_;rotate_left
  ·(intro wS _; go_simp; try with_reducible rfl)
  simp only [getElem_toArray, getElem_cons_succ, getElem_cons_zero];simp only [Act.put, setIfInBounds_toArray, set_cons_zero, set_cons_succ];refine AnyX.tk (i := 11) (v := ?_) rfl (fun _ _ _ h => h) hH0 (Or.inl ⟨by rfl, ?_⟩) ?_;rotate_left
  ·(intro wS hS; (try obtain ⟨x0, x1, x2, x3, x4, x5, x6⟩ := hS); go_simp; try with_reducible rfl)
  simp only [getElem_toArray, getElem_cons_succ, getElem_cons_zero];simp only [Act.put, setIfInBounds_toArray, set_cons_zero, set_cons_succ];refine AnyX.mv (i := 13) (v := ?_) rfl (fun _ _ _ h => h) (Or.inl ⟨by rfl, ?_⟩) ?_;rotate_left
  ·(intro wS _; go_simp; try with_reducible rfl)
  simp only [getElem_toArray, getElem_cons_succ, getElem_cons_zero];simp only [Act.put, setIfInBounds_toArray, set_cons_zero, set_cons_succ];refine AnyX.tk (i := 14) (v := ?_) rfl (fun _ _ _ h => h) hH0 (Or.inl ⟨by rfl, ?_⟩) ?_;rotate_left
  ·(intro wS hS; (try obtain ⟨x0, x1, x2, x3, x4, x5, x6⟩ := hS); go_simp; try with_reducible rfl)
  simp only [getElem_toArray, getElem_cons_succ, getElem_cons_zero];simp only [Act.put, setIfInBounds_toArray, set_cons_zero, set_cons_succ];refine AnyX.mv (i := 16) (v := ?_) rfl (fun _ _ _ h => h) (Or.inl ⟨by rfl, ?_⟩) ?_;rotate_left
  ·(intro wS _; go_simp; try with_reducible rfl)
  simp only [getElem_toArray, getElem_cons_succ, getElem_cons_zero];simp only [Act.put, setIfInBounds_toArray, set_cons_zero, set_cons_succ];refine AnyX.mv (i := 17) (v := ?_) rfl (fun _ _ _ h => h) (Or.inl ⟨by rfl, ?_⟩) ?_;rotate_left
  ·(intro wS _; go_simp; try with_reducible rfl)
  simp only [getElem_toArray, getElem_cons_succ, getElem_cons_zero];simp only [Act.put, setIfInBounds_toArray, set_cons_zero, set_cons_succ];refine AnyX.tk (i := 18) (v := ?_) rfl (fun _ _ _ h => h) hH0 (Or.inl ⟨by rfl, ?_⟩) ?_;rotate_left
  ·(intro wS hS; (try obtain ⟨x0, x1, x2, x3, x4, x5, x6⟩ := hS); go_simp; try with_reducible rfl)
  simp only [getElem_toArray, getElem_cons_succ, getElem_cons_zero];simp only [Act.put, setIfInBounds_toArray, set_cons_zero, set_cons_succ];refine AnyX.go 4 (by kernel_rfl) rfl rfl (fun K hK => ?_);simp only [getElem_toArray, getElem_cons_succ, getElem_cons_zero];go_simp
  refine (C0.out W2.drew).mono ?_; rintro e w3 ⟨rfl, hb3⟩
  have HB3 : Hid (Below W2.heap.size W2 w3) := zH (Below.trans (Below.drew (Below.refl _ _)) hb3);have hH3 := KEEP.out w3 (HB3.out.block _ (by omega));clear hb3;simp only [];refine hK.out _ _ (fun hoff _ => hH3) ?_;clear hK;(try simp only [Act.put, setIfInBounds_toArray, set_cons_zero, set_cons_succ]);refine AnyX.go 9 (by kernel_rfl) rfl rfl (fun K hK => ?_);simp only [getElem_toArray, getElem_cons_succ, getElem_cons_zero];go_simp
  refine (C1.out w3).mono ?_; rintro e w4 ⟨rfl, hb4⟩
  have HB4 : Hid (Below W2.heap.size W2 w4) := zH (below_over HB3.out hb4);have hH4 := KEEP.out w4 (HB4.out.block _ (by omega));clear hb4;simp only [];refine hK.out _ _ (fun hoff _ => hH4) ?_;clear hK;(try simp only [Act.put, setIfInBounds_toArray, set_cons_zero, set_cons_succ]);refine AnyX.go 12 (by kernel_rfl) rfl rfl (fun K hK => ?_);simp only [getElem_toArray, getElem_cons_succ, getElem_cons_zero];go_simp
  refine (C2.out w4).mono ?_; rintro e w5 ⟨rfl, hb5⟩
  have HB5 : Hid (Below W2.heap.size W2 w5) := zH (below_over HB4.out hb5);have hH5 := KEEP.out w5 (HB5.out.block _ (by omega));clear hb5;simp only [];refine hK.out _ _ (fun hoff _ => hH5) ?_;clear hK;(try simp only [Act.put, setIfInBounds_toArray, set_cons_zero, set_cons_succ]);refine AnyX.go 15 (by kernel_rfl) rfl rfl (fun K hK => ?_);simp only [getElem_toArray, getElem_cons_succ, getElem_cons_zero];go_simp
  refine (C3.out w5 (below_over HB2.out HB5.out)).mono ?_; rintro e w6 ⟨A5, c5, rfl, hN6, hb6⟩
  have HB6 : Hid (Below W2.heap.size W2 w6) := zH (below_over HB5.out hb6);have HN6 := zH hN6;have hH6 := KEEP.out w6 (HB6.out.block _ (by omega));clear hb6 hN6;simp only [];refine hK.out _ _ (fun hoff _ => hH6) ?_;clear hK;(try simp only [Act.put, setIfInBounds_toArray, set_cons_zero, set_cons_succ]);refine AnyX.go 19 (by kernel_rfl) rfl rfl (fun K hK => ?_);simp only [getElem_toArray, getElem_cons_succ, getElem_cons_zero];go_simp
  refine (C4.out w6 (below_over HB2.out HB6.out)).mono ?_; rintro e w7 ⟨A6, c6, rfl, hc6, hR7, hk7, hg7⟩
  have s2 := HB5.out.size;have s6 := HB6.out.size;have s7 := hg7.size;have hkl := HKL.out;have b1 : w7.heap[w.heap.size]? = W2.heap[w.heap.size]? := (hg7.block _ (by omega) (fun e => by cases e; omega)).trans (HB6.out.block _ (by omega));have X7 : w7.heap[w.heap.size + 1]? = some (.cells #[.int .i64 0, .string ⟨#[]⟩, .int .i64 0, .string ⟨#[]⟩, .string ⟨#[]⟩, .slice none 0 0, .slice none 0 0] 48 (0, 0)) := ((hg7.block _ (by omega) (fun e => by cases e; omega)).trans (HB6.out.block _ hl2)).trans HO1.out;have hH7 := KEEP.out w7 b1;have HB17 := zH b1;have HX7 := zH X7
  have T7 : Hid (TyAt (strike (· < W2.heap.size) w7) [.int .i64 t.kind, .string t.pkg, .int .i64 t.major, .string t.mod, .string t.name, .slice A5 t.names.length c5, .slice A6 t.subs.length c6] t) := zH (by
   obtain ⟨z1, z2, z3, z4, z5⟩ := HSZ.out;refine ty_made z1 z2 z3 z4 z5 hc6 ?_ ?_
   ·exact names_keep HN6.out hg7.size fun b hb hS => ⟨by omega, hg7.block b hb (fun e => by cases e; omega)⟩
   ·exact hR7.move (Nat.le_refl _) fun b hb hS => ⟨by omega, rfl⟩)
  have FIN : Hid (CyOut kb mv L t w (.returned (.agg #[.int .i64 t.kind, .string t.pkg, .int .i64 t.major, .string t.mod, .string t.name, .slice A5 t.names.length c5, .slice A6 t.subs.length c6])) (w7.setRow (w.heap.size + 1) #[.int .i64 t.kind, .string t.pkg, .int .i64 t.major, .string t.mod, .string t.name, .slice A5 t.names.length c5, .slice A6 t.subs.length c6])) := zH (by
   refine ⟨[.int .i64 t.kind, .string t.pkg, .int .i64 t.major, .string t.mod, .string t.name, .slice A5 t.names.length c5, .slice A6 t.subs.length c6], rfl, T7.out.move (by simp) fun b hb hS => ⟨by omega, setRow_other _ _ _ _ (by omega)⟩, ?_, ?_⟩
   ·rw [setRow_other _ _ _ _ (by omega), hk7, HME.out]
   ·exact row_grown (grown_over (grown_of (below_over HB2.out HB6.out)) hg7) (by omega) _)
  clear hc6 hR7 hk7 hg7 b1 C0 C1 C2 C3 C4 s2 s6 s7 hkl;simp only [];refine hK.out _ _ (fun hoff _ => hH7) ?_;clear hK;(try simp only [Act.put, setIfInBounds_toArray, set_cons_zero, set_cons_succ]);refine AnyX.mv (i := 20) (v := ?_) rfl (fun _ _ _ h => h) (Or.inl ⟨by rfl, ?_⟩) ?_;rotate_left
  ·(intro wS _; go_simp; try with_reducible rfl)
  simp only [getElem_toArray, getElem_cons_succ, getElem_cons_zero];simp only [Act.put, setIfInBounds_toArray, set_cons_zero, set_cons_succ];refine AnyX.go 21 (by kernel_rfl) rfl rfl (fun K hK => ?_);simp only [getElem_toArray, getElem_cons_succ, getElem_cons_zero];refine wp_store_row 48 (.tmp 4) (.tmp 25) rfl (w.heap.size + 1) #[.int .i64 t.kind, .string t.pkg, .int .i64 t.major, .string t.mod, .string t.name, .slice A5 t.names.length c5, .slice A6 t.subs.length c6] rfl rfl _ _ X7 tySize rfl tyOne ?_;refine hK.out _ _ (fun hoff _ => KEEP.out _ ((setRow_other _ _ _ _ (by omega)).trans HB17.out)) ?_;clear hK;(try simp only [Act.put, setIfInBounds_toArray, set_cons_zero, set_cons_succ]);refine AnyX.done (by kernel_rfl) ?_ _;go_wp2_with fail
  exact ret_agg1 (fn := Tryz.f187) (vs := [.int .i64 t.kind, .string t.pkg, .int .i64 t.major, .string t.mod, .string t.name, .slice A5 t.names.length c5, .slice A6 t.subs.length c6]) (b := w.heap.size + 1) rfl rfl Tryz.underlying48 (by kernel_rfl) (cell7 (setRow_heap w7 (w.heap.size + 1) _ _ _ _ HX7.out)) rfl FIN.out
def FrOut (t : Ty) (w : World) (e : Ending) (w' : World) : Prop :=
 ∃ l : List Value, e = .returned (.agg l.toArray) /\ TyAt (strike (· < w.heap.size) w') l t /\ Below w.heap.size w w'
theorem fresh_any (t : Ty) (hM : many t <= 65536) (hF : fitT t) (l : List Value) (w : World) (hT : TyAt w l t) :
  Calls Tryz.prog 152 #[.agg l.toArray] w (FrOut t w) := by
 have HT := zH hT
 obtain ⟨An, cn, As, cs, rfl, -, -, -, -, -, -, -⟩ := hT.parts
 obtain ⟨W2, hW2, B2, O0, O1, hl2⟩ := two_boxes w #[.int .i64 t.kind, .string t.pkg, .int .i64 t.major, .string t.mod, .string t.name, .slice An t.names.length cn, .slice As t.subs.length cs] #[.int .i64 0, .string ⟨#[]⟩, .int .i64 0, .string ⟨#[]⟩, .string ⟨#[]⟩, .slice none 0 0, .slice none 0 0] 48 48
 have s2 : W2.heap.size = w.heap.size + 1 + 1 := by rw [hW2]; simp
 obtain ⟨W3, hW3⟩ : ∃ W3, W3 = W2.alloc (.map #[] 0) := ⟨_, rfl⟩
 have B3 : Below W2.heap.size W2 W3 := by rw [hW3]; exact below_new (Below.refl _ _) _
 have s3 : W3.heap.size = w.heap.size + 1 + 1 + 1 := by rw [hW3]; simp [s2]
 obtain ⟨W4, hW4⟩ : ∃ W4, W4 = W3.alloc (.cells #[.int .i64 65536, .map (some (w.heap.size + 1 + 1))] 236) := ⟨_, rfl⟩
 have B4 : Below W3.heap.size W3 W4 := by rw [hW4]; exact below_new (Below.refl _ _) _
 have s4 : W4.heap.size = w.heap.size + 1 + 1 + 1 + 1 := by rw [hW4]; simp [s3]
 have K4 : W4.heap[w.heap.size + 1 + 1 + 1]? = some (cpO 65536 (.map (some (w.heap.size + 1 + 1)))) := by rw [hW4, <- s3]; exact heap_alloc_new W3 _
 have HB4 : Hid (Below w.heap.size w W4) := zH (below_over (below_over B2 B3) B4)
 have X4 : W4.heap[w.heap.size]? = some (.cells #[.int .i64 t.kind, .string t.pkg, .int .i64 t.major, .string t.mod, .string t.name, .slice An t.names.length cn, .slice As t.subs.length cs] 48 (0, 0)) := (B4.block _ (by omega)).trans ((B3.block _ (by omega)).trans O0)
 have HR4 : Hid (W4.heap[w.heap.size + 1]? = some (.cells #[.int .i64 0, .string ⟨#[]⟩, .int .i64 0, .string ⟨#[]⟩, .string ⟨#[]⟩, .slice none 0 0, .slice none 0 0] 48 (0, 0))) := zH ((B4.block _ (by omega)).trans ((B3.block _ (by omega)).trans O1))
 have HW2 := zH hW2
 have HW3 := zH hW3
 have HW4 := zH hW4
 have CL := zH (copyC_any w (w.heap.size + 1 + 1 + 1) (.map (some (w.heap.size + 1 + 1))) (by omega) (many t) t (Nat.le_refl _) hF 65536 _ W4 (by omega) (by omega) HT.out HB4.out (by omega) K4)
 have HX4 := zH X4
 have HS4 := zH s4
 clear hW2 hW3 hW4 B2 B3 B4 O0 O1 X4 K4 hT hF hM s4 hl2
 go_enter Tryz.func152, Tryz.ntmps152
 go_upto_region 1 with fail
 rw [<- HW2.out]
 have hmm := @run_makeMap Tryz.prog
 go_upto_region 2 with fail
 clear hmm
 simp only [s2, s3, <- HW3.out, <- HW4.out]
 have X4 := HX4.out
 obtain ⟨x0, x1, x2, x3, x4, x5, x6⟩ := cq7 X4
 simp at x0 x1 x2 x3 x4 x5 x6
 clear X4
 go_wp2_with fail
 refine CL.out.mono ?_; rintro e w5 ⟨l', rfl, hT5, -, hg5⟩
 obtain ⟨Cn, cC, Cs, dC, rfl, -⟩ := hT5.parts
 have s4 := HS4.out
 have X5 : w5.heap[w.heap.size + 1]? = some (.cells #[.int .i64 0, .string ⟨#[]⟩, .int .i64 0, .string ⟨#[]⟩, .string ⟨#[]⟩, .slice none 0 0, .slice none 0 0] 48 (0, 0)) := (hg5.block _ (by omega) (fun e => absurd (Option.some.inj e) (by omega))).trans HR4.out
 have HX5 := zH X5
 have FIN : Hid (FrOut t w (.returned (.agg #[.int .i64 t.kind, .string t.pkg, .int .i64 t.major, .string t.mod, .string t.name, .slice Cn t.names.length cC, .slice Cs t.subs.length dC])) (w5.setRow (w.heap.size + 1) #[.int .i64 t.kind, .string t.pkg, .int .i64 t.major, .string t.mod, .string t.name, .slice Cn t.names.length cC, .slice Cs t.subs.length dC])) := zH
  ⟨[.int .i64 t.kind, .string t.pkg, .int .i64 t.major, .string t.mod, .string t.name, .slice Cn t.names.length cC, .slice Cs t.subs.length dC], rfl, hT5.move (by simp) fun b hb hS => ⟨by omega, setRow_other _ _ _ _ (by omega)⟩, setRow_below ⟨hg5.os.trans HB4.out.os, hg5.tape.trans HB4.out.tape, hg5.output.trans HB4.out.output, Nat.le_trans HB4.out.size hg5.size, fun b hb => (hg5.block b (by omega) (fun e => absurd (Option.some.inj e) (by omega))).trans (HB4.out.block b hb)⟩ (by omega) _⟩
 clear hT5 hg5 CL x0 x1 x2 x3 x4 x5 x6 s4
 go_wp2_with (first | (((with_reducible refine wpList_putRow 48 (w.heap.size + 1) #[.int .i64 t.kind, .string t.pkg, .int .i64 t.major, .string t.mod, .string t.name, .slice Cn t.names.length cC, .slice Cs t.subs.length dC] _ _ X5 ?_ ?_ ?_ ?_ ?_ ?_); exact tySize; rfl; exact tyOne; iterate 2 (focus (first | (go_simp; done) | rfl)))))
 exact ret_agg1 (fn := Tryz.f152) (vs := [.int .i64 t.kind, .string t.pkg, .int .i64 t.major, .string t.mod, .string t.name, .slice Cn t.names.length cC, .slice Cs t.subs.length dC]) (b := w.heap.size + 1) rfl rfl Tryz.underlying48 (by kernel_rfl) (cell7 (setRow_heap w5 (w.heap.size + 1) _ _ _ _ HX5.out)) rfl FIN.out
section
variable {P : Program} (w : World)
end
end Go.Proofs.YtddlmigofilejaaGreatDoor
namespace Go.Proofs.YtddlmigofilejaaGreatDoor
open Go.RowKit
open M
theorem T_great : greatB (⟨#[84]⟩ : ByteArray).data.toList = true := by decide +kernel
theorem p_small : smallB (⟨#[112]⟩ : ByteArray).data.toList = true := by decide +kernel
theorem m_small : smallB (⟨#[109]⟩ : ByteArray).data.toList = true := by decide +kernel
end Go.Proofs.YtddlmigofilejaaGreatDoor
