/-
  Several texts in one.
-/
import Derived.Test.YteecgiebimdbhaaGreatDoorK29
open List (getElem_toArray getElem_cons_succ getElem_cons_zero set_cons_zero set_cons_succ setIfInBounds_toArray)
set_option maxRecDepth 100000
set_option maxHeartbeats 8000000
namespace Go.Proofs.YteecgiebimdbhaaGreatDoor
open Go Go.RowKit Go.Shelf
open Go.Sort Go.Maps
open M
abbrev cpO (L : Int) (mv : Value) : Obj := .cells #[.int .i64 L, mv] 259 (0, 0)
mutual
def fitT : Ty -> Prop
  | .mk _ p _ d n ns ss => (p.size <= 281474976710656 /\ d.size <= 281474976710656 /\ n.size <= 281474976710656 /\ ns.length <= 200 /\ ∀ s ∈ ns, s.size <= 281474976710656) /\ fitL ss
def fitL : List Ty -> Prop
  | [] => True
  | t :: r => fitT t /\ fitL r
end
theorem fitL_mem : ∀ l : List Ty, fitL l ↔ ∀ t ∈ l, fitT t
  | [] => by simp [fitL]
  | t :: r => by simp [fitL, fitL_mem r]
theorem fitT_own {t : Ty} (h : fitT t) : (t.pkg.size <= 281474976710656 /\ t.mod.size <= 281474976710656 /\ t.name.size <= 281474976710656 /\ t.names.length <= 200 /\ ∀ s ∈ t.names, s.size <= 281474976710656) /\ ∀ s ∈ t.subs, fitT s := by
  cases t with
  | mk k p m d n ns ss =>
    unfold fitT at h
    exact ⟨h.1, (fitL_mem ss).1 h.2⟩
def leftAt (L : Int) (ss : List Ty) (i : Nat) : Int := L - ss.length - manyL (ss.take i) + i
theorem manyL_drop : ∀ (l : List Ty) (i : Nat), manyL l = manyL (l.take i) + manyL (l.drop i)
  | [], i => by simp [manyL]
  | a :: r, 0 => by simp [manyL]
  | a :: r, i + 1 => by
    have := manyL_drop r i
    simp only [List.take_succ_cons, List.drop_succ_cons, manyL];omega
theorem left_many {L : Int} {ss : List Ty} {i : Nat} {s : Ty} (hs : ss[i]? = some s) (hL : (manyL ss : Int) + 1 <= L) : (many s : Int) <= leftAt L ss i /\ leftAt L ss i <= L := by
  have hi := (List.getElem?_eq_some_iff.1 hs).1;have h1 := manyL_drop ss i;have h2 := manyL_take ss i s hs;have h3 := manyL_drop ss (i + 1);have h4 := manyL_len (ss.drop (i + 1));rw [List.length_drop] at h4;have h5 := manyL_len (ss.take i);rw [List.length_take] at h5;unfold leftAt
  omega
theorem left_zero (L : Int) (ss : List Ty) : leftAt L ss 0 = L - ss.length := by unfold leftAt; simp [manyL]
theorem left_end (L : Int) (ss : List Ty) : leftAt L ss ss.length = L - manyL ss := by unfold leftAt; rw [List.take_length]; omega
theorem left_step {L : Int} {ss : List Ty} {i : Nat} {s : Ty} (hs : ss[i]? = some s) : leftAt L ss i - (many s - 1) = leftAt L ss (i + 1) := by
  have h2 := manyL_take ss i s hs;unfold leftAt
  omega
theorem grown_put {w w' : World} {r : Option Nat} (h : w.grownBy w' r) {g : Nat} (hg : w.heap.size <= g) (o : Nat) (l : List Value) : w.grownBy (w'.setCells g o l) r := by
  have hb : Below w'.heap.size w' w' := Below.refl _ _;refine ⟨?_, ?_, ?_, by rw [size_setCells]; exact h.size, fun b hb hne => ?_⟩
  · rw [World.os_setCells]; exact h.os
  · exact (setCells_below (n := 0) (Below.refl 0 w') (Nat.zero_le g) o l).tape.trans h.tape
  · rw [World.output_setCells]; exact h.output
  · rw [World.heap_setCells_other w' g o l (Nat.lt_of_lt_of_le hb h.size) (by omega)]
    exact h.block b hb hne
theorem listT_any (w0 w : World) (kb : Nat) (A : Option Addr) (n c : Nat) (ss : List Ty) (O : Nat -> Obj) (hn : ss.length = n) (hz : n <= 1000000) (hS : SubsAt w0 A ss) (hw : Below w0.heap.size w0 w) (hk0 : w0.heap.size <= kb) (hkl : kb < w.heap.size) (hO : w.heap[kb]? = some (O 0))
    (IH : ∀ i s, ss[i]? = some s -> ∀ (l : List Value) (wx : World), TyAt w0 l s -> Below w0.heap.size w0 wx -> kb < wx.heap.size -> wx.heap[kb]? = some (O i) ->
      Calls Tryz.prog 212 #[.pointer (some ⟨kb, 0, none⟩), .agg l.toArray] wx fun e w' => ∃ l' : List Value, e = .returned (.agg l'.toArray) /\ TyAt (strike (· < wx.heap.size) w') l' s /\ w'.heap[kb]? = some (O (i + 1)) /\ wx.grownBy w' (some kb)) :
    Calls Tryz.prog 277 #[.slice A n c, .func (.func 212) #[.pointer (some ⟨kb, 0, none⟩)] #[]] w fun e w' => ∃ (A' : Option Addr) (c' : Nat), e = .returned (.slice A' n c') /\ n <= c' /\ RowIn tR (strike (· < w.heap.size) w') A' ss /\ w'.heap[kb]? = some (O n) /\ w.grownBy w' (some kb) := by
  have HN := hZ hn;have HS := hZ hS;have HW := hZ hw;have HIH := hZ IH;have HO := hZ hO;have EQ : ∀ wz : World, (binOp .eql 53 (.slice A n c) (.slice none 0 0)).run Tryz.prog wz = .ok (.bool A.isNone) wz := fun wz => Lib.run_eql_slice_nil wz _ _ _ _ _ _ _ Tryz.underlying53
  cases A with
  | none =>
    have h0 : ss = [] := hS.row.none_nil;have hn0 : n = 0 := by rw [<- hn, h0]; rfl
    have HX := hZ h0;subst hn0;clear hS hn h0 hw IH hO;go_enter Tryz.func277, Tryz.ntmps277
    go_wp2_with fail
    go_ret;exact ⟨_, _, rfl, Nat.le_refl _, fun i s h => by rw [HX.out] at h; simp at h, HO.out, grown_of (Below.refl _ _)⟩
  | some ad =>
    obtain ⟨i0, hi, hz0, hz1, hz2⟩ := info_parts typ_info;obtain ⟨W1, hW1⟩ : ∃ W1, W1 = w.alloc (.cells (madeCells (Value.agg #[.int .i64 0, .string ⟨#[]⟩, .int .i64 0, .string ⟨#[]⟩, .string ⟨#[]⟩, .slice none 0 0, .slice none 0 0]).cells (n * 7)) 55) := ⟨_, rfl⟩;have MS := run_make (P := Tryz.prog) w 53 55 i0 (.agg #[.int .i64 0, .string ⟨#[]⟩, .int .i64 0, .string ⟨#[]⟩, .string ⟨#[]⟩, .slice none 0 0, .slice none 0 0]) Tryz.underlying53 hi hz0 .i64 .i64 (n : Int) (n : Int) (by omega) (by omega) (by rw [hz2]; omega) (by omega);rw [hz1] at MS;simp only [Int.toNat_natCast] at MS;rw [<- hW1] at MS;have START : Hid (Fill tR w.heap.size w.heap.size ss 0 W1) := hZ (by rw [hW1]; exact Fill.start tR (Nat.le_refl _) _ _ ss (by rw [size_madeCells, hn]; rfl));have HB1 : Hid (w.grownBy W1 (some kb) /\ W1.heap[kb]? = some (O 0)) := hZ (by rw [hW1]; exact ⟨grown_of (below_new (Below.refl _ _) _), (Lib.alloc_old w _ kb hkl).trans hO⟩);have EQ' : ∀ wz : World, (binOp .eql 53 (.slice (some ad) n c) (.slice none 0 0)).run Tryz.prog wz = .ok (.bool false) wz := EQ
    clear EQ hW1 hS hn hw IH hO;go_enter Tryz.func277, Tryz.ntmps277
    go_wp2_with fail
    go_loopw [15] (fun s15 wr => ∃ k : Nat, k <= n /\ s15 = .int .i64 k /\ Hid (Fill tR w.heap.size w.heap.size ss k wr) /\ Hid (w.grownBy wr (some kb) /\ wr.heap[kb]? = some (O k))) (fun s15 _ => n - (intOf s15).toNat)
    case atStart => exact ⟨0, by omega, rfl, START, HB1⟩
    case round =>
      obtain ⟨k, hk, rfl, HF, HB⟩ := hrel;obtain ⟨wo, rfl⟩ : ∃ wo : World, wo = wr := ⟨_, rfl⟩;clear MS EQ' START HB1;by_cases hlt : k < n
      · obtain ⟨s, hs⟩ : ∃ s, ss[k]? = some s := ⟨_, List.getElem?_eq_getElem (by rw [HN.out]; exact hlt)⟩
        obtain ⟨g, o, v0, v1, v2, v3, v4, v5, v6, e1, hg, a0, a1, a2, a3, a4, a5, a6, us⟩ := HS.out k s hs;obtain ⟨Bn, cB, Bs, dB, ev, -⟩ := us.parts;simp only [List.cons.injEq, and_true] at ev;obtain ⟨rfl, rfl, rfl, rfl, rfl, rfl, rfl⟩ := ev;obtain rfl := Option.some.inj e1;have hBo : Below w0.heap.size w0 wo := below_grow HW.out HB.out.1 hk0;have q := fun o v (hv : w0.cell? ⟨g, o, none⟩ = some v) => (hBo.cell (p := ⟨g, o, none⟩) hg).trans hv
        have c0 := q _ _ a0;have c1 := q _ _ a1;have c2 := q _ _ a2;have c3 := q _ _ a3;have c4 := q _ _ a4;have c5 := q _ _ a5;have c6 := q _ _ a6;obtain ⟨w8, hw8⟩ : ∃ w8, w8 = wo.alloc (.cells #[.int .i64 s.kind, .string s.pkg, .int .i64 s.major, .string s.mod, .string s.name, .slice Bn s.names.length cB, .slice Bs s.subs.length dB] 55) := ⟨_, rfl⟩;have B8 : Below wo.heap.size wo w8 := by rw [hw8]; exact below_new (Below.refl _ _) _
        have Y8 : w8.heap[wo.heap.size]? = some (.cells #[.int .i64 s.kind, .string s.pkg, .int .i64 s.major, .string s.mod, .string s.name, .slice Bn s.names.length cB, .slice Bs s.subs.length dB] 55 (0, 0)) := by rw [hw8]; exact heap_alloc_new wo _
        have s8 : w8.heap.size = wo.heap.size + 1 := by rw [hw8]; simp
        have hkw : kb < wo.heap.size := Nat.lt_of_lt_of_le hkl HB.out.1.size;have CL := hZ (HIH.out k s hs _ w8 us (below_grow hBo (grown_of B8) hk0) (by omega) ((B8.block _ hkw).trans HB.out.2));have HSS := hZ hs;have HB8 := hZ B8;have HW8 := hZ hw8;have HY8 := hZ Y8;clear hs us hg e1 hBo q a0 a1 a2 a3 a4 a5 a6 B8 hw8;go_upto_region 7 with fail
        rw [<- HW8.out];clear c0 c1 c2 c3 c4 c5 c6;obtain ⟨y0, y1, y2, y3, y4, y5, y6⟩ := cq7 Y8;simp at y0 y1 y2 y3 y4 y5 y6;clear Y8;go_wp2_with fail
        refine CL.out.mono ?_; rintro e w2 ⟨l', rfl, hT2, hO2, hg2⟩
        obtain ⟨Cn, cC, Cs, dC, rfl, -⟩ := hT2.parts;have hlw : w.heap.size < wo.heap.size := HF.out.hg;have hs2 := hg2.size;have F2 : Fill tR w.heap.size w.heap.size ss k w2 := HF.out.keep (by omega) (fun b h1 hb => (hg2.block b (by omega) (fun e => by cases e; omega)).trans (HB8.out.block b hb));have HT := F2.at (m := 7) (by rw [HN.out]; exact hlt) rfl;have F3 : Hid (Fill tR w.heap.size w.heap.size ss (k + 1) (w2.setCells w.heap.size (k * 7) [.int .i64 s.kind, .string s.pkg, .int .i64 s.major, .string s.mod, .string s.name, .slice Cn s.names.length cC, .slice Cs s.subs.length dC])) := hZ (F2.put HSS.out (B := w8.heap.size) hT2 (by omega))
        have B3 : Hid (w.grownBy (w2.setCells w.heap.size (k * 7) [.int .i64 s.kind, .string s.pkg, .int .i64 s.major, .string s.mod, .string s.name, .slice Cn s.names.length cC, .slice Cs s.subs.length dC]) (some kb) /\ (w2.setCells w.heap.size (k * 7) [.int .i64 s.kind, .string s.pkg, .int .i64 s.major, .string s.mod, .string s.name, .slice Cn s.names.length cC, .slice Cs s.subs.length dC]).heap[kb]? = some (O (k + 1))) := hZ
          ⟨grown_put (grown_over HB.out.1 (grown_over (grown_of HB8.out) hg2)) (Nat.le_refl _) _ _, by rw [World.heap_setCells_other _ _ _ _ (by omega) (by omega)]; exact hO2⟩
        clear F2 hg2 hT2 hO2 CL y0 y1 y2 y3 y4 y5 y6 HB8 HW8 HY8;go_upto_region 8 with (first | ((with_reducible refine wpList_putMid 55 w.heap.size (k * 7) #[.int .i64 s.kind, .string s.pkg, .int .i64 s.major, .string s.mod, .string s.name, .slice Cn s.names.length cC, .slice Cs s.subs.length dC] ?_ ?_ ?_ ?_ ?_ ?_); exact HT; exact tySize; exact tyOne; rfl; rfl))
        obtain ⟨w9, hw9⟩ : ∃ w9, w9 = w2.setCells w.heap.size (k * 7) [.int .i64 s.kind, .string s.pkg, .int .i64 s.major, .string s.mod, .string s.name, .slice Cn s.names.length cC, .slice Cs s.subs.length dC] := ⟨_, rfl⟩;rw [<- hw9] at F3 B3;have HW9 := hZ hw9;clear hw9 HT;try rw [<- HW9.out]
        go_wp2_with fail
        go_roundw
        case rel => exact ⟨k + 1, by omega, by go_num, F3, B3⟩
        case measure => simp [intOf]; omega
      · have hkn : k = n := by omega
        have DONE := hZ (HF.out.done (m := w.heap.size) (by rw [HN.out]; omega) (Nat.le_refl _));have HKN := hZ hkn;clear hkn;go_wp2_with fail
        go_ret;exact ⟨_, _, rfl, Nat.le_refl _, DONE.out, by rw [<- HKN.out]; exact HB.out.2, HB.out.1⟩
def ClnOut (w0 w : World) (n : Nat) (ss : List Ty) (e : Ending) (w' : World) : Prop :=
  ∃ (A : Option Addr) (c : Nat), e = .returned (.slice A n c) /\ n <= c /\ Below w.heap.size w w' /\ (0 < n -> ∃ g, A = some ⟨g, 0, none⟩ /\ w.heap.size <= g /\ g < w'.heap.size /\ w'.there g 0 (n * 7) /\
    ∀ i s, ss[i]? = some s -> ∃ l : List Value, TyAt w0 l s /\ ∀ q v, l[q]? = some v -> w'.cell? ⟨g, i * 7 + q, none⟩ = some v)
theorem cln_own {w0 w w' : World} {n : Nat} {ss : List Ty} {v : Value} {C : List (List Value)} (hn : ss.length = n) (h1 : C.length = ss.length) (h2 : ∀ l, l ∈ C -> l.length = 7) (h4 : ∀ (i : Nat) (l : List Value) (x : Ty), C[i]? = some l -> ss[i]? = some x -> TyAt w0 l x)
    (hown : w'.ownsRow w.heap.size 55 7 v n C.flatten) (hb : Below w.heap.size w w') : ClnOut w0 w n ss (.returned v) w' := by
  rcases hown.2 with ⟨rfl, h0⟩ | ⟨g, cap, cur, rfl, hB, hg, hnc, hcm, hcs, htake⟩
  · exact ⟨none, 0, by rw [h0], by omega, hb, fun h => by omega⟩
  · refine ⟨_, cap, rfl, hnc, hb, fun _ => ⟨g, rfl, hB, (Array.getElem?_eq_some_iff.1 hg).1, fun j hj => ⟨?_, Lib.frozen_of_heap hg _⟩, fun i s hs => ?_⟩⟩
    · have : n * 7 <= cap * 7 := Nat.mul_le_mul_right _ hnc
      rw [cZ hg, Nat.zero_add, Array.getElem?_eq_getElem (by omega)]; rfl
    · have hi := (List.getElem?_eq_some_iff.1 hs).1
      have hl : C[i]? = some C[i] := List.getElem?_eq_getElem (by omega);refine ⟨_, h4 i _ s hl hs, fun q v hv => ?_⟩;have hq := (List.getElem?_eq_some_iff.1 hv).1;rw [h2 _ (List.getElem_mem (by omega))] at hq;have hf := flatk_at C h2 i q _ hl hq;rw [cZ hg, <- Array.getElem?_toList];have e2 : (cur.toList.take (n * 7))[i * 7 + q]? = C[i][q]? := by rw [htake, hf]
      rw [List.getElem?_take] at e2;split at e2
      · rw [e2]; exact hv
      · omega
theorem cloneT_any (w0 w : World) (As : Option Addr) (n cs : Nat) (ss : List Ty) (hn : ss.length = n) (hz : n <= 9000) (hS : SubsAt w0 As ss) (hw : Below w0.heap.size w0 w) :
    Calls Tryz.prog 211 #[.slice As n cs] w (ClnOut w0 w n ss) := by
  have EQ : ∀ wz : World, (binOp .eql 53 (.slice As n cs) (.slice none 0 0)).run Tryz.prog wz = .ok (.bool As.isNone) wz := fun wz => Lib.run_eql_slice_nil wz _ _ _ _ _ _ _ Tryz.underlying53
  cases As with
  | none =>
    have h0 : ss = [] := hS.row.none_nil;have hn0 : n = 0 := by rw [<- hn, h0]; rfl
    subst hn0;clear hS hn h0;go_enter Tryz.func211, Tryz.ntmps211
    go_wp2_with fail
    go_ret;exact ⟨none, 0, rfl, Nat.le_refl _, Below.refl _ _, fun h => by omega⟩
  | some ad =>
    have HL : ∃ C : List (List Value), C.length = ss.length /\ (∀ l, l ∈ C -> l.length = 7) /\ (∀ (i : Nat) (l : List Value) (x : Ty), C[i]? = some l -> ss[i]? = some x -> TyAt w0 l x) /\ (∀ (j : Nat) (u : Value), C.flatten[j]? = some u -> w.cell? (ad.add j) = some u) /\ ∀ u ∈ C.flatten, u.oneCell' = true := by
      cases hc : ss with
      | nil => exact ⟨[], rfl, fun l h => (by cases h), fun i l x h => by simp at h, fun j u h => by simp at h, fun u h => by simp at h⟩
      | cons s0 r0 =>
        obtain ⟨g, o, _, _, _, _, _, _, _, e, hg, -⟩ := hS 0 s0 (by rw [hc]; rfl);obtain rfl := Option.some.inj e;obtain ⟨C, k1, k2, k3, k4⟩ := RowIn.lists (R := tR) (by show 0 < 7; omega) hS.row;rw [<- hc];refine ⟨C, k1, k2, k3, fun j u hu => ?_, fun u hu => ?_⟩
        · rw [WideShapes.add_plain]
          exact (hw.cell (p := ⟨g, _, none⟩) hg).trans (k4 j u hu)
        · obtain ⟨l, hl, hu⟩ := List.mem_flatten.1 hu
          obtain ⟨i, hi⟩ := List.mem_iff_getElem?.1 hl;have hil := (List.getElem?_eq_some_iff.1 hi).1;exact ty_one (k3 i l _ hi (List.getElem?_eq_getElem (by omega))) u hu
    obtain ⟨C, h1, h2, h4, hnews, hone⟩ := HL;have hfl : C.flatten.length = n * 7 := by rw [flatC_len C h2, h1, hn]
    have hnews2 : ∀ (j : Nat) (u : Value), C.flatten[j]? = some u -> (w.alloc (.cells #[] 55)).cell? (ad.add j) = some u := fun j u hu => cell_alloc (hnews j u hu)
    have own0 := World.ownsRow_lit (base := w.heap.size) (e := 55) (size := 7) w #[] 0 (Nat.le_refl _) (by decide) rfl;obtain ⟨i1, hi1, hy0, hy1, hy2⟩ := info_parts typ_info;have EQ' : ∀ wz : World, (binOp .eql 53 (.slice (some ad) n cs) (.slice none 0 0)).run Tryz.prog wz = .ok (.bool false) wz := EQ
    have hbase : w.heap.size <= (w.alloc (.cells #[] 55)).heap.size := by simp
    have HH4 := hZ h4;have HH2 := hZ h2;have HH1 := hZ h1;have HN := hZ hn;clear EQ hS hn hw h4 h2 h1 hnews;go_enter Tryz.func211, Tryz.ntmps211
    go_wp2_with (at_builtin; refine wpList_append_own_at _ rfl _ _ 53 rfl w.heap.size 55 i1 _ 7 112 Tryz.underlying53 hi1 hy0 hy1 hy2 rfl (by decide) _ 0 [] rfl own0 ad n cs C.flatten rfl ?c0 hnews2 hone ?c3 ?c4 hbase ?_)
    case c3 => unfold maxLen; omega
    case c4 => omega
    intro v5 w4 hown hgrow _ hat
    have FIN : Hid (ClnOut w0 w n ss (.returned v5) w4) := hZ (by
      have hown2 : w4.ownsRow w.heap.size 55 7 v5 n C.flatten := by first | exact hown | simpa using hown
      refine cln_own HN.out HH1.out HH2.out HH4.out hown2 ⟨hgrow.os, hgrow.tape, hgrow.output, Nat.le_trans hbase hgrow.size, fun b hb => ?_⟩;rw [hgrow.block b (by simp; omega) (by simp [Value.ownBlock]; omega)];exact Lib.alloc_old w _ b hb)
    clear hown hgrow hat hnews2 hone own0 EQ';go_wp2_with fail
    go_ret;exact FIN.out
structure Gr2 (kb eb : Nat) (w w' : World) : Prop where
  os : w'.os = w.os
  tape : w'.tape = w.tape
  output : w'.output = w.output
  size : w.heap.size <= w'.heap.size
  block : ∀ b, b < w.heap.size -> b ≠ kb -> b ≠ eb -> w'.heap[b]? = w.heap[b]?
theorem Gr2.trans {kb eb : Nat} {a b c : World} (h : Gr2 kb eb a b) (h' : Gr2 kb eb b c) : Gr2 kb eb a c :=
  ⟨h'.os.trans h.os, h'.tape.trans h.tape, h'.output.trans h.output, Nat.le_trans h.size h'.size, fun k hk h1 h2 => (h'.block k (Nat.lt_of_lt_of_le hk h.size) h1 h2).trans (h.block k hk h1 h2)⟩
theorem Gr2.of_below {kb eb : Nat} {w w' : World} (h : Below w.heap.size w w') : Gr2 kb eb w w' := ⟨h.os, h.tape, h.output, h.size, fun b hb _ _ => h.block b hb⟩
theorem Gr2.base {kb eb : Nat} {w0 w w' : World} (h : Below w0.heap.size w0 w) (hg : Gr2 kb eb w w') (hk : w0.heap.size <= kb) (he : w0.heap.size <= eb) : Below w0.heap.size w0 w' :=
  ⟨hg.os.trans h.os, hg.tape.trans h.tape, hg.output.trans h.output, Nat.le_trans h.size hg.size, fun b hb => (hg.block b (Nat.lt_of_lt_of_le hb h.size) (by omega) (by omega)).trans (h.block b hb)⟩
theorem Gr2.row {kb eb g : Nat} {w w' : World} (h : Gr2 kb eb w w') (hg : w.heap.size <= g) (vs : Array Value) : Gr2 kb eb w (w'.setRow g vs) :=
  ⟨h.os, h.tape, h.output, by rw [size_setRow]; exact h.size, fun b hb h1 h2 => (setRow_other _ _ _ _ (by omega)).trans (h.block b hb h1 h2)⟩
theorem Gr2.cells {kb eb g : Nat} {w w' : World} (h : Gr2 kb eb w w') (hg : w.heap.size <= g) (o : Nat) (l : List Value) : Gr2 kb eb w (w'.setCells g o l) :=
  ⟨by rw [World.os_setCells]; exact h.os, (setCells_below (n := 0) (Below.refl 0 w') (Nat.zero_le g) o l).tape.trans h.tape, by rw [World.output_setCells]; exact h.output, by rw [size_setCells]; exact h.size, fun b hb h1 h2 => by
    rw [World.heap_setCells_other w' g o l (Nat.lt_of_lt_of_le hb h.size) (by omega)]; exact h.block b hb h1 h2⟩
theorem Gr2.cell {kb eb g i : Nat} {w w' : World} (h : Gr2 kb eb w w') (hg : g = eb \/ w.heap.size <= g) (v : Value) : Gr2 kb eb w (w'.setCell ⟨g, i, none⟩ v) :=
  ⟨h.os, h.tape, h.output, by simp; exact h.size, fun b hb h1 h2 => (Below.heap_setCell _ _ _ _ (by show b ≠ g; omega)).trans (h.block b hb h1 h2)⟩
theorem names_base {w0 w : World} {A : Option Addr} {l : List ByteArray} {S : Nat -> Prop} (h : NamesAt w0 A l) (hb : Below w0.heap.size w0 w) (hS : ∀ b, S b -> w0.heap.size <= b) : NamesAt (strike S w) A l := fun i s hs => by
  obtain ⟨g, o, hA, hg, hc, hz⟩ := h i s hs;exact ⟨g, o, hA, by rw [strike_size]; exact Nat.lt_of_lt_of_le hg hb.size, strike_cell.2 ⟨fun e => by have := hS g e; omega, (hb.cell (p := ⟨g, _, none⟩) hg).trans hc⟩, hz⟩
def XpOut (w0 : World) (kb eb : Nat) (m : Mo) (pkg : ByteArray) (major : Int) (env : List If) (Ai : Option Addr) (ci : Nat) (Ad : Option Addr) (cd : Nat) (Ae : Option Addr) (ce : Nat) (made : Int) (lg : Bool) (d : Int) (u : Ty) (w : World) (e : Ending) (w' : World) : Prop :=
  ∃ (l : List Value) (made' : Int) (lg' : Bool), e = .returned (.agg l.toArray) /\ (∃ v, ShL l v) /\ w'.heap[eb]? = some (.cells #[.string m.name, .slice Ai m.imps.length ci, .slice Ad m.decs.length cd, .string pkg, .int .i64 major, .slice Ae env.length ce, .map (some kb), .int .i64 made', .bool lg'] 229 (0, 0)) /\ PlMap w0 w' kb m pkg major env /\ Gr2 kb eb w w' /\
    lg' = (lg || decide (500 < made + many u) || decide (32 < d + deep u - 1)) /\ (lg' = false -> made' = made + many u /\ TyAt (strike (fun b => w0.heap.size <= b /\ b < w.heap.size) w') l u)
def XpCall (w0 : World) (kb eb : Nat) (m : Mo) (pkg : ByteArray) (major : Int) (env : List If) (Ai : Option Addr) (ci : Nat) (Ad : Option Addr) (cd : Nat) (Ae : Option Addr) (ce : Nat) (t u : Ty) : Prop :=
  ∀ (made : Int) (lg : Bool) (d : Int) (l : List Value) (wx : World), (lg = false -> 0 <= made /\ made <= 500) -> 1 <= d -> d <= 33 -> TyAt w0 l t -> Below w0.heap.size w0 wx -> kb < wx.heap.size -> wx.heap[eb]? = some (.cells #[.string m.name, .slice Ai m.imps.length ci, .slice Ad m.decs.length cd, .string pkg, .int .i64 major, .slice Ae env.length ce, .map (some kb), .int .i64 made, .bool lg] 229 (0, 0)) -> PlMap w0 wx kb m pkg major env ->
    Calls Tryz.prog 177 #[.pointer (some ⟨eb, 0, none⟩), .agg l.toArray, .int .i64 d] wx (XpOut w0 kb eb m pkg major env Ai ci Ad cd Ae ce made lg d u wx)
structure Hf (w0 : World) (lo g n k : Nat) (us ss : List Ty) (lg : Bool) (w : World) : Prop where
 g1 : lo <= g
 g2 : g < w.heap.size
 there : w.there g 0 (n * 7)
 new : lg = false -> ∀ i u, i < k -> us[i]? = some u -> ∃ l : List Value, (∀ q v, l[q]? = some v -> w.cell? ⟨g, i * 7 + q, none⟩ = some v) /\ TyAt (strike (fun b => (w0.heap.size <= b /\ b < lo) \/ b = g) w) l u
 old : ∀ i s, k <= i -> ss[i]? = some s -> ∃ l : List Value, TyAt w0 l s /\ ∀ q v, l[q]? = some v -> w.cell? ⟨g, i * 7 + q, none⟩ = some v
theorem Hf.keep {w0 : World} {lo g n k : Nat} {us ss : List Ty} {lg : Bool} {w w' : World} (h : Hf w0 lo g n k us ss lg w) (hz : w.heap.size <= w'.heap.size) (hb : ∀ b, (b < w0.heap.size \/ lo <= b) -> b < w.heap.size -> w'.heap[b]? = w.heap[b]?) : Hf w0 lo g n k us ss lg w' := by
 have eg := hb g (.inr h.g1) h.g2
 refine ⟨h.g1, Nat.lt_of_lt_of_le h.g2 hz, fun q hq => ?_, fun hl i u hi hu => ?_, fun i s hi hs => ?_⟩
 ·have := h.there q hq
  rw [World.cell?_of_block (w := w) (w' := w') (a := ⟨g, 0 + q, none⟩) eg, World.frozen?_of_block (w := w) (w' := w') (a := ⟨g, 0 + q, none⟩) eg];exact this
 ·obtain ⟨l, hc, hT⟩ := h.new hl i u hi hu
  exact ⟨l, fun q v hv => (World.cell?_of_block (w := w) (w' := w') (a := ⟨g, _, none⟩) eg).trans (hc q v hv), hT.move hz fun b hlt hS => ⟨hS, hb b (by omega) hlt⟩⟩
 ·obtain ⟨l, hT, hc⟩ := h.old i s hi hs
  exact ⟨l, hT, fun q v hv => (World.cell?_of_block (w := w) (w' := w') (a := ⟨g, _, none⟩) eg).trans (hc q v hv)⟩
theorem Hf.at {w0 : World} {lo g n k : Nat} {us ss : List Ty} {lg : Bool} {w : World} (h : Hf w0 lo g n k us ss lg w) (hk : k < n) : w.there g (k * 7) 7 := fun q hq => by
 have := h.there (k * 7 + q) (by omega)
 rw [Nat.zero_add] at this
 exact this
theorem Hf.put {w0 : World} {lo g n k B : Nat} {us ss : List Ty} {lg lg' : Bool} {w : World} {l : List Value} {v : Ty} (h : Hf w0 lo g n k us ss lg w) (hk : k < n) (hv : us[k]? = some v) (hl : l.length = 7) (hlg : lg' = false -> lg = false) (hT : lg' = false -> TyAt (strike (fun b => w0.heap.size <= b /\ b < B) w) l v) (hB : g < B) (hw0 : w0.heap.size <= lo) :
  Hf w0 lo g n (k + 1) us ss lg' (w.setCells g (k * 7) l) := by
 have ot : ∀ b, b < w.heap.size -> b ≠ g -> (w.setCells g (k * 7) l).heap[b]? = w.heap[b]? := fun b hb hne => World.heap_setCells_other w g (k * 7) l hb hne
 have hsz : (w.setCells g (k * 7) l).heap.size = w.heap.size := size_setCells g l _ w
 have hg1 := h.g1
 refine ⟨h.g1, by rw [hsz]; exact h.g2, World.there_setCells h.there _ _ _, fun hl' i u hi hu => ?_, fun i s hi hs => ?_⟩
 ·rcases Nat.lt_or_ge i k with c | c
  ·obtain ⟨l', hc, hT'⟩ := h.new (hlg hl') i u c hu
   have h7 := hT'.len;refine ⟨l', fun q x hx => ?_, hT'.move (by rw [hsz]; exact Nat.le_refl _) fun b hb hS => ⟨hS, ot b hb fun e => hS (.inr e)⟩⟩;have hq := (List.getElem?_eq_some_iff.1 hx).1;rw [World.cell?_setCells_out]
   ·exact hc q x hx
   ·intro _ _
    exact .inl (by show i * 7 + q < k * 7; omega)
  ·obtain rfl : i = k := by omega
   rw [hv] at hu;cases hu
   refine ⟨l, fun q x hx => ?_, (hT hl').move (by rw [hsz]; exact Nat.le_refl _) fun b hb hS => ⟨by omega, ot b hb (by omega)⟩⟩;have hq := (List.getElem?_eq_some_iff.1 hx).1;rw [World.cell?_setCells_in g l (i * 7) w (fun q hq => (h.at hk q (by omega)).1) q hq];rw [<- hx, List.getElem?_eq_getElem hq]
 ·obtain ⟨l', hT', hc⟩ := h.old i s (by omega) hs
  have h7 := hT'.len;refine ⟨l', hT', fun q x hx => ?_⟩;have hq := (List.getElem?_eq_some_iff.1 hx).1;rw [World.cell?_setCells_out]
  ·exact hc q x hx
  ·intro _ _
   exact .inr (by show k * 7 + l.length <= i * 7 + q; omega)
def lgAt (made d : Int) (us : List Ty) (k : Nat) : Bool := decide (500 < made + 1 + manyL (us.take k)) || decide (32 < d + deepL (us.take k))
theorem lg_zero {made d : Int} {us : List Ty} (h1 : made + 1 <= 500) (h2 : d <= 32) : lgAt made d us 0 = false := by
 unfold lgAt; simp [manyL, deepL]; omega
theorem lg_step {made d mk : Int} {us : List Ty} {k : Nat} {v : Ty} {lk : Bool} (hv : us[k]? = some v) (h : lk = lgAt made d us k) (hm : lk = false -> mk = made + 1 + manyL (us.take k)) : (lk || decide (500 < mk + many v) || decide (32 < d + 1 + deep v - 1)) = lgAt made d us (k + 1) := by
 have h1 := manyL_take us k v hv
 have h2 := deepL_take us k v hv
 unfold lgAt at h ⊢
 rw [h1, h2]
 cases lk with
 | true =>
  have h := h.symm;simp only [Bool.or_eq_true, decide_eq_true_eq] at h;simp only [Bool.true_or];symm
  simp only [Bool.or_eq_true, decide_eq_true_eq];rcases h with h | h
  ·exact .inl (by omega)
  ·exact .inr (by omega)
 | false =>
  have h := h.symm;simp only [Bool.or_eq_false_iff, decide_eq_false_iff_not] at h;have hm := hm rfl;subst hm;simp only [Bool.false_or];rw [Bool.eq_iff_iff];simp only [Bool.or_eq_true, decide_eq_true_eq];omega
theorem lg_end {made d : Int} {t : Ty} {us : List Ty} {k : Nat} (hk : us.length <= k) : lgAt made d us k = (decide (500 < made + many (Ty.withSubs t us)) || decide (32 < d + deep (Ty.withSubs t us) - 1)) := by
 unfold lgAt Ty.withSubs many deep
 rw [List.take_of_length_le hk]
 rw [Bool.eq_iff_iff]
 simp only [Bool.or_eq_true, decide_eq_true_eq]
 omega
structure XpI (w0 : World) (kb eb : Nat) (m : Mo) (pkg : ByteArray) (major : Int) (env : List If) (Ai : Option Addr) (ci : Nat) (Ad : Option Addr) (cd : Nat) (Ae : Option Addr) (ce : Nat) (w : World) (t : Ty) (us : List Ty) (made d : Int) (Bn : Option Addr) (cB : Nat) (A' : Option Addr) (n c' k : Nat) (wr : World) (mk : Int) (lk : Bool) : Prop where
 exp : wr.heap[eb]? = some (.cells #[.string m.name, .slice Ai m.imps.length ci, .slice Ad m.decs.length cd, .string pkg, .int .i64 major, .slice Ae env.length ce, .map (some kb), .int .i64 mk, .bool lk] 229 (0, 0))
 map : PlMap w0 wr kb m pkg major env
 grown : Gr2 kb eb w wr
 box : wr.heap[w.heap.size]? = some (.cells #[.int .i64 t.kind, .string t.pkg, .int .i64 t.major, .string t.mod, .string t.name, .slice Bn t.names.length cB, .slice A' n c'] 55 (0, 0))
 res : wr.heap[w.heap.size + 1]? = some (.cells #[.int .i64 0, .string ⟨#[]⟩, .int .i64 0, .string ⟨#[]⟩, .string ⟨#[]⟩, .slice none 0 0, .slice none 0 0] 55 (0, 0))
 lg : lk = lgAt made d us k
 made : lk = false -> mk = made + 1 + manyL (us.take k)
 rows : 0 < n -> ∃ g, A' = some ⟨g, 0, none⟩ /\ Hf w0 (w.heap.size + 2) g n k us t.subs lk wr
theorem xp_node (w0 : World) (kb eb : Nat) (m : Mo) (pkg : ByteArray) (major : Int) (env : List If) (Ai : Option Addr) (ci : Nat) (Ad : Option Addr) (cd : Nat) (Ae : Option Addr) (ce : Nat) (hns : NsAt w0 [.string m.name, .slice Ai m.imps.length ci, .slice Ad m.decs.length cd, .string pkg, .int .i64 major, .slice Ae env.length ce, .map (some kb)] m pkg major env kb) (hk0 : w0.heap.size <= kb) (he0 : w0.heap.size <= eb) (hke : kb ≠ eb) (t : Ty) (us : List Ty) (h8 : t.kind ≠ 8) (hlen : us.length = t.subs.length) (hz9 : t.subs.length <= 9000) (IH : ∀ (i : Nat) (s v : Ty), t.subs[i]? = some s -> us[i]? = some v -> XpCall w0 kb eb m pkg major env Ai ci Ad cd Ae ce s v) : XpCall w0 kb eb m pkg major env Ai ci Ad cd Ae ce t (Ty.withSubs t us) := by
 intro made lg d l w hmade hd1 hd2 hT hw hkl heb hpl
 have hel : eb < w.heap.size := (Array.getElem?_eq_some_iff.1 heb).1
 have HT := hZ hT
 obtain ⟨Bn, cB, Bs, dB, rfl, zp, zm, zn, zln, zls, hNA, hS⟩ := hT.parts
 have HSZ := hZ (show t.pkg.size <= 9223372036854775807 /\ t.mod.size <= 9223372036854775807 /\ t.name.size <= 9223372036854775807 /\ t.names.length <= 9223372036854775807 from ⟨zp, zm, zn, zln⟩)
 have HNA := hZ hNA
 obtain ⟨n, hn⟩ : ∃ n, n = t.subs.length := ⟨_, rfl⟩
 have HN := hZ hn
 obtain ⟨W2, hW2, B2, O0, O1, hl2⟩ := two_boxes w #[.int .i64 t.kind, .string t.pkg, .int .i64 t.major, .string t.mod, .string t.name, .slice Bn t.names.length cB, .slice Bs n dB] #[.int .i64 0, .string ⟨#[]⟩, .int .i64 0, .string ⟨#[]⟩, .string ⟨#[]⟩, .slice none 0 0, .slice none 0 0] 55 55
 have HB2 := hZ B2
 have HW := hZ hW2
 have e2 : W2.heap[eb]? = some (.cells #[.string m.name, .slice Ai m.imps.length ci, .slice Ad m.decs.length cd, .string pkg, .int .i64 major, .slice Ae env.length ce, .map (some kb), .int .i64 made, .bool lg] 229 (0, 0)) := (B2.block _ hel).trans heb
 obtain ⟨mw, hmw⟩ : ∃ mw, mw = IntKind.i64.wrap (made + 1) := ⟨_, rfl⟩
 have hwr : IntKind.i64.wrap (made + 1) = mw := hmw.symm
 have HMW : Hid (lg = false -> mw = made + 1 /\ 0 <= made /\ made <= 500) := hZ (fun h => by
  have := hmade h
  rw [hmw, IntKind.wrap_i64]; omega)
 obtain ⟨W3, hW3⟩ : ∃ W3, W3 = W2.setCell ⟨eb, 7, none⟩ (.int .i64 mw) := ⟨_, rfl⟩
 have e3 : W3.heap[eb]? = some (.cells #[.string m.name, .slice Ai m.imps.length ci, .slice Ad m.decs.length cd, .string pkg, .int .i64 major, .slice Ae env.length ce, .map (some kb), .int .i64 mw, .bool lg] 229 (0, 0)) := by rw [hW3]; exact Joins.block_setCell (i := 7) e2 (.int .i64 mw)
 have HW3 := hZ hW3
 have HE2 := hZ e2
 have HE3 := hZ e3
 have s2 := B2.size
 have G3 : Hid (Gr2 kb eb w W3) := hZ (by rw [hW3]; exact (Gr2.of_below B2).cell (.inl rfl) _)
 have ot3 : ∀ b, b ≠ eb -> W3.heap[b]? = W2.heap[b]? := fun b hb => by rw [hW3]; exact Below.heap_setCell _ _ _ _ hb
 have HP3 : Hid (PlMap w0 W3 kb m pkg major env) := hZ (hpl.kept ((ot3 kb hke).trans (B2.block _ hkl)))
 have HO3 : Hid (W3.heap[w.heap.size]? = some (.cells #[.int .i64 t.kind, .string t.pkg, .int .i64 t.major, .string t.mod, .string t.name, .slice Bn t.names.length cB, .slice Bs n dB] 55 (0, 0))) := hZ ((ot3 _ (by omega)).trans O0)
 have HC3 : Hid (W3.heap[w.heap.size + 1]? = some (.cells #[.int .i64 0, .string ⟨#[]⟩, .int .i64 0, .string ⟨#[]⟩, .string ⟨#[]⟩, .slice none 0 0, .slice none 0 0] 55 (0, 0))) := hZ ((ot3 _ (by omega)).trans O1)
 have HS3 : Hid (W3.heap.size = W2.heap.size /\ w.heap.size + 1 < W2.heap.size) := hZ ⟨by rw [hW3]; simp, hl2⟩
 have HW0 : Hid (Below w0.heap.size w0 w) := hZ hw
 have HKL := hZ (show kb < w.heap.size /\ eb < w.heap.size from ⟨hkl, hel⟩)
 have HSS := hZ hS
 have HIH := hZ IH
 have HLEN := hZ hlen
 have q8 : (t.kind == 8) = false := by simpa using h8
 have y0 := cZ O0 0
 have m7 := cZ e2 7
 have g7 := Lib.frozen_of_heap e2 7
 simp at y0 m7
 rw [<- hn] at zls hz9 ⊢
 clear hW2 hW3 B2 O0 O1 hT hw heb hpl hns hS hNA IH h8 hkl hel hmade e2 e3 hmw ot3 hlen s2 hl2 hn zp zm zn zln
 go_enter Tryz.func177, Tryz.ntmps177
 go_upto_region 1 with fail
 rw [<- HW.out]
 clear HW
 go_upto_region 4 with fail
 rw [<- HW3.out]
 clear y0 q8 m7 g7
 have z7 := cZ HE3.out 7
 have z8 := cZ HE3.out 8
 have f8 := Lib.frozen_of_heap HE3.out 8
 simp at z7 z8
 have mk4 : ∀ L : Bool, ∃ W4, W4 = W3.setCell ⟨eb, 8, none⟩ (.bool L) /\ Hid (W4.heap[eb]? = some (.cells #[.string m.name, .slice Ai m.imps.length ci, .slice Ad m.decs.length cd, .string pkg, .int .i64 major, .slice Ae env.length ce, .map (some kb), .int .i64 mw, .bool L] 229 (0, 0))) /\ Hid (W4.heap[w.heap.size]? = some (.cells #[.int .i64 t.kind, .string t.pkg, .int .i64 t.major, .string t.mod, .string t.name, .slice Bn t.names.length cB, .slice Bs n dB] 55 (0, 0))) /\ Hid (W4.heap[w.heap.size + 1]? = some (.cells #[.int .i64 0, .string ⟨#[]⟩, .int .i64 0, .string ⟨#[]⟩, .string ⟨#[]⟩, .slice none 0 0, .slice none 0 0] 55 (0, 0))) /\ Hid (PlMap w0 W4 kb m pkg major env) /\ Hid (Gr2 kb eb w W4) /\ Hid (W4.heap.size = W2.heap.size) := fun L => by
  obtain ⟨hkl, hel⟩ := HKL.out;exact ⟨_, rfl, hZ (Joins.block_setCell (i := 8) HE3.out (.bool L)), hZ ((Below.heap_setCell _ _ _ _ (by show w.heap.size ≠ eb; omega)).trans HO3.out), hZ ((Below.heap_setCell _ _ _ _ (by show w.heap.size + 1 ≠ eb; omega)).trans HC3.out), hZ (HP3.out.kept (Below.heap_setCell _ _ _ _ hke)), hZ (G3.out.cell (.inl rfl) _), hZ (by simp; exact HS3.out.1)⟩
 have stop : ∀ (L : Bool) (W4 : World), L = true -> (true = (lg || decide (500 < made + many (Ty.withSubs t us)) || decide (32 < d + deep (Ty.withSubs t us) - 1))) -> W4.heap[eb]? = some (.cells #[.string m.name, .slice Ai m.imps.length ci, .slice Ad m.decs.length cd, .string pkg, .int .i64 major, .slice Ae env.length ce, .map (some kb), .int .i64 mw, .bool L] 229 (0, 0)) -> PlMap w0 W4 kb m pkg major env -> Gr2 kb eb w W4 -> Hid (XpOut w0 kb eb m pkg major env Ai ci Ad cd Ae ce made lg d (Ty.withSubs t us) w (.returned (.agg #[.int .i64 0, .string ⟨#[]⟩, .int .i64 0, .string ⟨#[]⟩, .string ⟨#[]⟩, .slice none 0 0, .slice none 0 0])) (W4.setRow (w.heap.size + 1) #[.int .i64 0, .string ⟨#[]⟩, .int .i64 0, .string ⟨#[]⟩, .string ⟨#[]⟩, .slice none 0 0, .slice none 0 0])) := fun L W4 hL hlg he hp hg => hZ (by
  subst hL;obtain ⟨hkl, hel⟩ := HKL.out;exact ⟨[.int .i64 0, .string ⟨#[]⟩, .int .i64 0, .string ⟨#[]⟩, .string ⟨#[]⟩, .slice none 0 0, .slice none 0 0], mw, true, rfl, ⟨zTy, none, 0, none, 0, rfl⟩, (setRow_other _ _ _ _ (by omega)).trans he, hp.kept (setRow_other _ _ _ _ (by omega)), hg.row (by omega) _, hlg, fun h => by cases h⟩)
 have hmp := many_pos (Ty.withSubs t us)
 have hdp := deep_pos (Ty.withSubs t us)
 cases lg with
 | true =>
  obtain ⟨W4, hW4, HE4, -, HC4, HP4, G4, -⟩ := mk4 true;have HW4 := hZ hW4;have FIN := stop true W4 rfl (by simp) HE4.out HP4.out G4.out;clear hW4 mk4 stop hmp hdp;go_upto_region 5 with fail
  rw [<- HW4.out];clear z7 z8 f8 hwr HW4;have y8 := cZ HE4.out 8;simp at y8;have X5 := HC4.out;go_wp2_with (first | (((with_reducible refine wpList_putRow 55 (w.heap.size + 1) #[.int .i64 0, .string ⟨#[]⟩, .int .i64 0, .string ⟨#[]⟩, .string ⟨#[]⟩, .slice none 0 0, .slice none 0 0] _ _ X5 ?_ ?_ ?_ ?_ ?_ ?_); exact tySize; rfl; exact tyOne; iterate 2 (focus (first | (go_simp; done) | rfl)))))
  exact ret_agg1 (fn := Tryz.f177) (vs := [.int .i64 0, .string ⟨#[]⟩, .int .i64 0, .string ⟨#[]⟩, .string ⟨#[]⟩, .slice none 0 0, .slice none 0 0]) (b := w.heap.size + 1) rfl rfl Tryz.underlying55 (by kernel_rfl) (cell7 (setRow_heap W4 (w.heap.size + 1) _ _ _ _ HC4.out)) rfl FIN.out
 | false =>
  obtain ⟨hme, hm1, hm2⟩ := HMW.out rfl;by_cases h5 : 500 < mw
  ·obtain ⟨W4, hW4, HE4, -, HC4, HP4, G4, -⟩ := mk4 true
   have HW4 := hZ hW4
   have FIN := stop true W4 rfl (by
    rw [show decide (500 < made + many (Ty.withSubs t us)) = true from decide_eq_true (by omega)]; simp) HE4.out HP4.out G4.out
   clear hW4 mk4 stop hmp hdp hme;go_upto_region 5 with fail
   rw [<- HW4.out];clear z7 z8 f8 hwr HW4;have y8 := cZ HE4.out 8;simp at y8;have X5 := HC4.out;go_wp2_with (first | (((with_reducible refine wpList_putRow 55 (w.heap.size + 1) #[.int .i64 0, .string ⟨#[]⟩, .int .i64 0, .string ⟨#[]⟩, .string ⟨#[]⟩, .slice none 0 0, .slice none 0 0] _ _ X5 ?_ ?_ ?_ ?_ ?_ ?_); exact tySize; rfl; exact tyOne; iterate 2 (focus (first | (go_simp; done) | rfl)))))
   exact ret_agg1 (fn := Tryz.f177) (vs := [.int .i64 0, .string ⟨#[]⟩, .int .i64 0, .string ⟨#[]⟩, .string ⟨#[]⟩, .slice none 0 0, .slice none 0 0]) (b := w.heap.size + 1) rfl rfl Tryz.underlying55 (by kernel_rfl) (cell7 (setRow_heap W4 (w.heap.size + 1) _ _ _ _ HC4.out)) rfl FIN.out
  ·have h5' : decide (500 < mw) = false := decide_eq_false h5
   by_cases h3 : 32 < d
   ·obtain ⟨W4, hW4, HE4, -, HC4, HP4, G4, -⟩ := mk4 true
    have HW4 := hZ hW4
    have FIN := stop true W4 rfl (by
     rw [show decide (32 < d + deep (Ty.withSubs t us) - 1) = true from decide_eq_true (by omega)]; simp) HE4.out HP4.out G4.out
    clear hW4 mk4 stop hmp hdp hme;go_upto_region 5 with fail
    rw [<- HW4.out];clear z7 z8 f8 hwr HW4;have y8 := cZ HE4.out 8;simp at y8;have X5 := HC4.out;go_wp2_with (first | (((with_reducible refine wpList_putRow 55 (w.heap.size + 1) #[.int .i64 0, .string ⟨#[]⟩, .int .i64 0, .string ⟨#[]⟩, .string ⟨#[]⟩, .slice none 0 0, .slice none 0 0] _ _ X5 ?_ ?_ ?_ ?_ ?_ ?_); exact tySize; rfl; exact tyOne; iterate 2 (focus (first | (go_simp; done) | rfl)))))
    exact ret_agg1 (fn := Tryz.f177) (vs := [.int .i64 0, .string ⟨#[]⟩, .int .i64 0, .string ⟨#[]⟩, .string ⟨#[]⟩, .slice none 0 0, .slice none 0 0]) (b := w.heap.size + 1) rfl rfl Tryz.underlying55 (by kernel_rfl) (cell7 (setRow_heap W4 (w.heap.size + 1) _ _ _ _ HC4.out)) rfl FIN.out
   ·have h3' : decide (32 < d) = false := decide_eq_false h3
    obtain ⟨W4, hW4, HE4, HO4, HC4, HP4, G4, HS4⟩ := mk4 false;have HW4 := hZ hW4;have HME := hZ hme;have H5 := hZ h5;clear hW4 mk4 stop hmp hdp hme;go_upto_region 5 with fail
    rw [<- HW4.out];clear z7 z8 f8 hwr HW4 h5 h5' h3';have x8 := cZ HE4.out 8;have x6 := cZ HO4.out 6;simp at x8 x6;have CN := hZ (cloneT_any w0 W4 Bs n dB t.subs HN.out.symm hz9 HSS.out (Gr2.base HW0.out G4.out hk0 he0));go_wp2_with fail
    refine CN.out.mono ?_; rintro e w5 ⟨A', c', rfl, hc', hb5, hrow⟩
    obtain ⟨hkl, hel⟩ := HKL.out;have hs4 := HS4.out;have hs2 := HS3.out.2;have hs5 := hb5.size;have O5 : w5.heap[w.heap.size]? = some (.cells #[.int .i64 t.kind, .string t.pkg, .int .i64 t.major, .string t.mod, .string t.name, .slice Bn t.names.length cB, .slice Bs n dB] 55 (0, 0)) := (hb5.block _ (by omega)).trans HO4.out;have y6 := cZ O5 6;have g6 := Lib.frozen_of_heap O5 6;simp at y6;obtain ⟨W6, hW6⟩ : ∃ W6, W6 = w5.setCell ⟨w.heap.size, 6, none⟩ (.slice A' n c') := ⟨_, rfl⟩;have ot6 : ∀ b, b ≠ w.heap.size -> W6.heap[b]? = w5.heap[b]? := fun b hb => by rw [hW6]; exact Below.heap_setCell _ _ _ _ hb
    have O6 : W6.heap[w.heap.size]? = some (.cells #[.int .i64 t.kind, .string t.pkg, .int .i64 t.major, .string t.mod, .string t.name, .slice Bn t.names.length cB, .slice A' n c'] 55 (0, 0)) := by rw [hW6]; exact Joins.block_setCell (i := 6) O5 (.slice A' n c')
    have hs6 : W6.heap.size = w5.heap.size := by rw [hW6]; simp
    have START : Hid (XpI w0 kb eb m pkg major env Ai ci Ad cd Ae ce w t us made d Bn cB A' n c' 0 W6 mw false) := hZ (by
     refine ⟨((ot6 _ (by omega)).trans (hb5.block _ (by omega))).trans HE4.out, HP4.out.kept ((ot6 _ (by omega)).trans (hb5.block _ (by omega))), by rw [hW6]; exact (G4.out.trans (Gr2.of_below hb5)).cell (.inr (Nat.le_refl _)) _, O6, ((ot6 _ (by omega)).trans (hb5.block _ (by omega))).trans HC4.out, (lg_zero (by have h1 := HME.out; have h2 := H5.out; omega) (by omega)).symm, fun _ => by rw [HME.out]; simp [manyL], fun h0 => ?_⟩;obtain ⟨g, hA, hg1, hg2, hth, hold⟩ := hrow h0;refine ⟨g, hA, Hf.keep (w := w5) ⟨by omega, hg2, hth, fun _ i u hi => by omega, fun i s _ hs => hold i s hs⟩ (by omega) fun b hb _ => ot6 b (by have := HW0.out.size; omega)⟩)
    have HW6 := hZ hW6;have HO6 := hZ O6;have hd32 : d <= 32 := by omega
    have wrd : IntKind.i64.wrap (d + 1) = d + 1 := by rw [IntKind.wrap_i64]; omega
    have HCC := hZ hc';clear hW6 ot6 O6 O5 hrow hb5 CN x8 x6 HE4 HO4 HC4 HP4 G4 HS4 hs4 hs5 hs6 HE3 HO3 HC3 HP3 G3 HW3 hkl hel hc';go_upto_region 8 with fail
    rw [<- HW6.out];clear y6 g6;have y6 := cZ HO6.out 6;simp at y6;go_wp2_with fail
    clear y6 HW6 HO6;go_loopw [59] (fun s59 wr => ∃ k : Nat, k <= n /\ s59 = .int .i64 k /\ Hid (∃ (mk : Int) (lk : Bool), XpI w0 kb eb m pkg major env Ai ci Ad cd Ae ce w t us made d Bn cB A' n c' k wr mk lk)) (fun s59 _ => n - (intOf s59).toNat)
    case atStart => exact ⟨0, by omega, rfl, hZ ⟨_, _, START.out⟩⟩
    case round =>
     obtain ⟨k, hk, rfl, HI⟩ := hrel;obtain ⟨wo, rfl⟩ : ∃ wo : World, wo = wr := ⟨_, rfl⟩;obtain ⟨mk, lk, I⟩ := HI.out;obtain ⟨hkl, hel⟩ := HKL.out;have hgs := I.grown.size;clear START;by_cases hlt : k < n
     ·obtain ⟨g, rfl, hf⟩ := I.rows (by omega)
      obtain ⟨s, hs⟩ : ∃ s, t.subs[k]? = some s := ⟨_, List.getElem?_eq_getElem (by rw [<- HN.out]; exact hlt)⟩;obtain ⟨v, hv⟩ : ∃ v, us[k]? = some v := ⟨_, List.getElem?_eq_getElem (by rw [HLEN.out, <- HN.out]; exact hlt)⟩;obtain ⟨l0, hT0, hc0⟩ := hf.old k s (Nat.le_refl _) hs;obtain ⟨Cn, cC, Cs, dC, rfl, -⟩ := hT0.parts;have c0 : wo.cell? ⟨g, k * 7, none⟩ = some (.int .i64 s.kind) := hc0 0 _ rfl;have c1 : wo.cell? ⟨g, k * 7 + 1, none⟩ = some (.string s.pkg) := hc0 1 _ rfl;have c2 : wo.cell? ⟨g, k * 7 + 2, none⟩ = some (.int .i64 s.major) := hc0 2 _ rfl;have c3 : wo.cell? ⟨g, k * 7 + 3, none⟩ = some (.string s.mod) := hc0 3 _ rfl;have c4 : wo.cell? ⟨g, k * 7 + 4, none⟩ = some (.string s.name) := hc0 4 _ rfl;have c5 : wo.cell? ⟨g, k * 7 + 5, none⟩ = some (.slice Cn s.names.length cC) := hc0 5 _ rfl;have c6 : wo.cell? ⟨g, k * 7 + 6, none⟩ = some (.slice Cs s.subs.length dC) := hc0 6 _ rfl;obtain ⟨w8, hw8⟩ : ∃ w8, w8 = wo.alloc (.cells #[.int .i64 s.kind, .string s.pkg, .int .i64 s.major, .string s.mod, .string s.name, .slice Cn s.names.length cC, .slice Cs s.subs.length dC] 55) := ⟨_, rfl⟩;have B8 : Below wo.heap.size wo w8 := by rw [hw8]; exact below_new (Below.refl _ _) _
      have Y8 : w8.heap[wo.heap.size]? = some (.cells #[.int .i64 s.kind, .string s.pkg, .int .i64 s.major, .string s.mod, .string s.name, .slice Cn s.names.length cC, .slice Cs s.subs.length dC] 55 (0, 0)) := by rw [hw8]; exact heap_alloc_new wo _
      have s8 : w8.heap.size = wo.heap.size + 1 := by rw [hw8]; simp
      have hwo : w.heap.size + 1 < wo.heap.size := (Array.getElem?_eq_some_iff.1 I.res).1;have X8 : w8.heap[w.heap.size]? = some (.cells #[.int .i64 t.kind, .string t.pkg, .int .i64 t.major, .string t.mod, .string t.name, .slice Bn t.names.length cB, .slice (some ⟨g, 0, none⟩) n c'] 55 (0, 0)) := (B8.block _ (by omega)).trans I.box
      have KEEP : Hid (∀ wx : World, wx.heap[w.heap.size]? = w8.heap[w.heap.size]? -> wx.heap[wo.heap.size]? = w8.heap[wo.heap.size]? -> wx.cell? ⟨w.heap.size, 6, none⟩ = some (.slice (some ⟨g, 0, none⟩) n c') /\ wx.cell? ⟨wo.heap.size, 0, none⟩ = some (.int .i64 s.kind) /\ wx.cell? ⟨wo.heap.size, 1, none⟩ = some (.string s.pkg) /\ wx.cell? ⟨wo.heap.size, 2, none⟩ = some (.int .i64 s.major) /\ wx.cell? ⟨wo.heap.size, 3, none⟩ = some (.string s.mod) /\ wx.cell? ⟨wo.heap.size, 4, none⟩ = some (.string s.name) /\ wx.cell? ⟨wo.heap.size, 5, none⟩ = some (.slice Cn s.names.length cC) /\ wx.cell? ⟨wo.heap.size, 6, none⟩ = some (.slice Cs s.subs.length dC)) := hZ (fun wx h1 h2 => by
       have Z0 := h1.trans X8;have Z1 := h2.trans Y8;exact ⟨cZ Z0 6, cZ Z1 0, cZ Z1 1, cZ Z1 2, cZ Z1 3, cZ Z1 4, cZ Z1 5, cZ Z1 6⟩)
      have BW : Below w0.heap.size w0 w8 := Gr2.base (Gr2.base HW0.out I.grown hk0 he0) (Gr2.of_below (kb := kb) (eb := eb) B8) hk0 he0;have hlgk := I.lg;have hmdk := I.made
      have CL := hZ (HIH.out k s v hs hv mk lk (d + 1) _ w8.drew (fun h => by
       have h2 := hmdk h;rw [h] at hlgk;have h3 := hlgk.symm;unfold lgAt at h3
       simp only [Bool.or_eq_false_iff, decide_eq_false_iff_not] at h3;omega) (by omega) (by omega) hT0 (below_over BW (Below.drew (Below.refl _ _))) (by show kb < w8.heap.size; omega) ((B8.block _ (by omega)).trans I.exp) (I.map.kept (B8.block _ (by omega))))
      have HHF := hZ hf;have HII := hZ I;have HB8 := hZ B8;have HW8 := hZ hw8;have HV := hZ hv;have hk0' : (0 : Int) <= k := by omega
      have hk1 : (k : Int) < n := by omega
      clear hs hT0 hc0 hw8 B8 Y8 X8 BW hlgk hmdk hf I hv;go_upto_region 11 with fail
      rw [<- HW8.out];clear c0 c1 c2 c3 c4 c5 c6;have hH0 := KEEP.out w8.drew rfl rfl;refine AnyX.start (fun wx => wx.cell? ⟨w.heap.size, 6, none⟩ = some (.slice (some ⟨g, 0, none⟩) n c') /\ wx.cell? ⟨wo.heap.size, 0, none⟩ = some (.int .i64 s.kind) /\ wx.cell? ⟨wo.heap.size, 1, none⟩ = some (.string s.pkg) /\ wx.cell? ⟨wo.heap.size, 2, none⟩ = some (.int .i64 s.major) /\ wx.cell? ⟨wo.heap.size, 3, none⟩ = some (.string s.mod) /\ wx.cell? ⟨wo.heap.size, 4, none⟩ = some (.string s.name) /\ wx.cell? ⟨wo.heap.size, 5, none⟩ = some (.slice Cn s.names.length cC) /\ wx.cell? ⟨wo.heap.size, 6, none⟩ = some (.slice Cs s.subs.length dC)) (fun _ => false) (by kernel_rfl) ?_;refine AnyX.mv (i := 0) (v := ?_) rfl (fun _ _ _ h => h) (Or.inl ⟨by rfl, ?_⟩) ?_;rotate_left
      ·(intro wS _; go_simp; try with_reducible rfl)
      simp only [getElem_toArray, getElem_cons_succ, getElem_cons_zero];simp only [Act.put, setIfInBounds_toArray, set_cons_zero, set_cons_succ];refine AnyX.tk (i := 1) (v := ?_) rfl (fun _ _ _ h => h) hH0 (Or.inl ⟨by rfl, ?_⟩) ?_;rotate_left
      ·(intro wS hS; (try obtain ⟨b6, x0, x1, x2, x3, x4, x5, x6⟩ := hS); go_simp; try with_reducible rfl)
      simp only [getElem_toArray, getElem_cons_succ, getElem_cons_zero];simp only [Act.put, setIfInBounds_toArray, set_cons_zero, set_cons_succ];refine AnyX.mv (i := 2) (v := ?_) rfl (fun _ _ _ h => h) (Or.inl ⟨by rfl, ?_⟩) ?_;rotate_left
      ·(intro wS _; go_simp; try with_reducible rfl)
      simp only [getElem_toArray, getElem_cons_succ, getElem_cons_zero];simp only [Act.put, setIfInBounds_toArray, set_cons_zero, set_cons_succ];refine AnyX.mv (i := 3) (v := ?_) rfl (fun _ _ _ h => h) (Or.inl ⟨by rfl, ?_⟩) ?_;rotate_left
      ·(intro wS _; go_simp; try with_reducible rfl)
      simp only [getElem_toArray, getElem_cons_succ, getElem_cons_zero];simp only [Act.put, setIfInBounds_toArray, set_cons_zero, set_cons_succ];refine AnyX.tk (i := 4) (v := ?_) rfl (fun _ _ _ h => h) hH0 (Or.inl ⟨by rfl, ?_⟩) ?_;rotate_left
      ·(intro wS hS; (try obtain ⟨b6, x0, x1, x2, x3, x4, x5, x6⟩ := hS); go_simp; try with_reducible rfl)
      simp only [getElem_toArray, getElem_cons_succ, getElem_cons_zero];simp only [Act.put, setIfInBounds_toArray, set_cons_zero, set_cons_succ];refine AnyX.mv (i := 5) (v := ?_) rfl (fun _ _ _ h => h) (Or.inl ⟨by rfl, ?_⟩) ?_;rotate_left
      ·(intro wS _; go_simp; try with_reducible rfl)
      simp only [getElem_toArray, getElem_cons_succ, getElem_cons_zero];simp only [Act.put, setIfInBounds_toArray, set_cons_zero, set_cons_succ];refine AnyX.mv (i := 6) (v := ?_) rfl (fun _ _ _ h => h) (Or.inl ⟨by rfl, ?_⟩) ?_;rotate_left
      ·(intro wS _; go_simp; try with_reducible rfl)
      simp only [getElem_toArray, getElem_cons_succ, getElem_cons_zero];simp only [Act.put, setIfInBounds_toArray, set_cons_zero, set_cons_succ];refine AnyX.go 7 (by kernel_rfl) rfl rfl (fun K hK => ?_);simp only [getElem_toArray, getElem_cons_succ, getElem_cons_zero];go_simp
      refine CL.out.mono ?_;rintro e w9 ⟨l', made', lg', rfl, ⟨v', hsh⟩, he9, hp9, hg9, hlg, hty⟩;obtain ⟨Vn, cV, Vs, dV, rfl⟩ := hsh;have hgI := HHF.out.g2;have hgI1 := HHF.out.g1;have hs9 : w8.heap.size <= w9.heap.size := hg9.size;have b1 : w9.heap[w.heap.size]? = w8.heap[w.heap.size]? := hg9.block _ (by show w.heap.size < w8.heap.size; omega) (by omega) (by omega);have b2 : w9.heap[wo.heap.size]? = w8.heap[wo.heap.size]? := hg9.block _ (by show wo.heap.size < w8.heap.size; omega) (by omega) (by omega);have hH9 := KEEP.out w9 b1 b2;have F9 : Hf w0 (w.heap.size + 2) g n k us t.subs lk w9 := HHF.out.keep (by omega) fun b hb hlt => (hg9.block b (by show b < w8.heap.size; omega) (by omega) (by omega)).trans (HB8.out.block b hlt)
      have HT9 := F9.at hlt;obtain ⟨w10, hw10⟩ : ∃ w10, w10 = w9.setCells g (k * 7) [.int .i64 v'.kind, .string v'.pkg, .int .i64 v'.major, .string v'.mod, .string v'.name, .slice Vn v'.names.length cV, .slice Vs v'.subs.length dV] := ⟨_, rfl⟩;have ot : ∀ b, b < w9.heap.size -> b ≠ g -> w10.heap[b]? = w9.heap[b]? := fun b hb hne => by rw [hw10]; exact World.heap_setCells_other w9 g _ _ hb hne
      have NEXT : Hid (∃ (mk : Int) (lk : Bool), XpI w0 kb eb m pkg major env Ai ci Ad cd Ae ce w t us made d Bn cB (some ⟨g, 0, none⟩) n c' (k + 1) w10 mk lk) := hZ (by
       refine ⟨made', lg', (ot _ (by omega) (by omega)).trans he9, hp9.kept (ot _ (by omega) (by omega)), by rw [hw10]; exact ((HII.out.grown.trans (Gr2.of_below HB8.out)).trans ((Gr2.of_below (Below.drew (Below.refl _ _))).trans hg9)).cells (by omega) _ _, ((ot _ (by omega) (by omega)).trans b1).trans ((HB8.out.block _ (by omega)).trans HII.out.box), ((ot _ (by omega) (by omega)).trans (hg9.block _ (by show w.heap.size + 1 < w8.heap.size; omega) (by omega) (by omega))).trans ((HB8.out.block _ (by omega)).trans HII.out.res), ?_, fun h => ?_, fun _ => ⟨g, rfl, ?_⟩⟩
       ·rw [hlg]; exact lg_step HV.out HII.out.lg HII.out.made
       ·have h1 := (hty h).1
        rw [h] at hlg;have h2 := hlg.symm;simp only [Bool.or_eq_false_iff] at h2;have h3 := HII.out.made h2.1.1;have h4 := manyL_take us k v HV.out;rw [h1, h3, h4]; omega
       ·rw [hw10]
        refine F9.put hlt HV.out rfl (fun h => ?_) (fun h => (hty h).2) (by show g < w8.heap.size; omega) (by have := HW0.out.size; omega);rw [h] at hlg;have h2 := hlg.symm;simp only [Bool.or_eq_false_iff] at h2;exact h2.1.1)
      have hH10 := KEEP.out w10 ((ot _ (by omega) (by omega)).trans b1) ((ot _ (by omega) (by omega)).trans b2);have HW10 := hZ hw10;clear CL hg9 hlg hty hp9 he9 F9 ot b1 b2 hw10;simp only [];refine hK.out _ _ (fun hoff _ => hH9) ?_;clear hK;(try simp only [Act.put, setIfInBounds_toArray, set_cons_zero, set_cons_succ]);refine AnyX.mv (i := 8) (v := ?_) rfl (fun _ _ _ h => h) (Or.inl ⟨by rfl, ?_⟩) ?_;rotate_left
      ·(intro wS _; go_simp; try with_reducible rfl)
      simp only [getElem_toArray, getElem_cons_succ, getElem_cons_zero];simp only [Act.put, setIfInBounds_toArray, set_cons_zero, set_cons_succ];refine AnyX.go 9 (by kernel_rfl) rfl rfl (fun K hK => ?_);simp only [getElem_toArray, getElem_cons_succ, getElem_cons_zero];refine wp_store_mid 55 (.tmp 72) (.tmp 71) rfl g (k * 7) #[.int .i64 v'.kind, .string v'.pkg, .int .i64 v'.major, .string v'.mod, .string v'.name, .slice Vn v'.names.length cV, .slice Vs v'.subs.length dV] rfl rfl HT9 tySize tyOne ?_;rw [<- HW10.out];refine hK.out _ _ (fun hoff _ => hH10) ?_;clear hK;(try simp only [Act.put, setIfInBounds_toArray, set_cons_zero, set_cons_succ]);refine AnyX.done (by kernel_rfl) ?_ _;clear HT9 hH0 hH9 hH10;go_wp2_with fail
      go_roundw
      case rel => exact ⟨k + 1, by omega, by go_num, NEXT⟩
      case measure => simp [intOf]; omega
     ·have hkn : k = n := by omega
      have X0 := I.box;have hwo : w.heap.size + 1 < wo.heap.size := (Array.getElem?_eq_some_iff.1 I.res).1
      have FIN : Hid (XpOut w0 kb eb m pkg major env Ai ci Ad cd Ae ce made false d (Ty.withSubs t us) w (.returned (.agg #[.int .i64 t.kind, .string t.pkg, .int .i64 t.major, .string t.mod, .string t.name, .slice Bn t.names.length cB, .slice A' n c'])) (wo.setRow (w.heap.size + 1) #[.int .i64 t.kind, .string t.pkg, .int .i64 t.major, .string t.mod, .string t.name, .slice Bn t.names.length cB, .slice A' n c'])) := hZ (by
       have eu : (Ty.withSubs t us).subs.length = n := by show us.length = n; rw [HLEN.out, HN.out]
       refine ⟨[.int .i64 t.kind, .string t.pkg, .int .i64 t.major, .string t.mod, .string t.name, .slice Bn t.names.length cB, .slice A' n c'], mk, lk, rfl, ⟨Ty.withSubs t us, Bn, cB, A', c', ?_⟩, (setRow_other _ _ _ _ (by omega)).trans I.exp, I.map.kept (setRow_other _ _ _ _ (by omega)), I.grown.row (by omega) _, ?_, fun h => ⟨?_, ?_⟩⟩
       ·rw [eu]; rfl
       ·rw [I.lg, lg_end (t := t) (by rw [HLEN.out, <- HN.out]; omega)]; simp
       ·have h1 := I.made h
        rw [List.take_of_length_le (by rw [HLEN.out, <- HN.out]; omega)] at h1;have h2 : many (Ty.withSubs t us) = 1 + manyL us := by unfold Ty.withSubs; rw [many]
        rw [h1, h2]; omega
       ·obtain ⟨z1, z2, z3, z4⟩ := HSZ.out
        have hw0 := HW0.out.size
        have T := ty_made (w := strike (fun b => w0.heap.size <= b /\ b < w.heap.size) (wo.setRow (w.heap.size + 1) #[.int .i64 t.kind, .string t.pkg, .int .i64 t.major, .string t.mod, .string t.name, .slice Bn t.names.length cB, .slice A' n c'])) (t := Ty.withSubs t us) (An := Bn) (As := A') (cn := cB) (cs := c') z1 z2 z3 z4 (by rw [eu]; omega) (by rw [eu]; exact HCC.out)
         (names_base (w := wo.setRow (w.heap.size + 1) #[.int .i64 t.kind, .string t.pkg, .int .i64 t.major, .string t.mod, .string t.name, .slice Bn t.names.length cB, .slice A' n c']) HNA.out (Gr2.base HW0.out (I.grown.row (by omega) _) hk0 he0) (fun b hb => hb.1))
         (fun i x hx => by
          have hx' : us[i]? = some x := hx
          have hi := (List.getElem?_eq_some_iff.1 hx').1;rw [HLEN.out, <- HN.out] at hi;obtain ⟨g, hA, hf⟩ := I.rows (by omega);obtain ⟨l, hc, hT⟩ := hf.new h i x (by omega) hx';have hg1 := hf.g1;refine ⟨g, 0, l, hA, by rw [strike_size]; simp; exact hf.g2, fun q y hy => strike_cell.2 ⟨by omega, ?_⟩, hT.move (by simp) fun b hb hS => ⟨by omega, setRow_other _ _ _ _ (by omega)⟩⟩;rw [Nat.zero_add];exact (World.cell?_of_block (w := wo) (a := ⟨g, _, none⟩) (setRow_other _ _ _ _ (show g ≠ w.heap.size + 1 by omega))).trans (hc q y hy))
        rw [eu] at T;exact T)
      have X5 := I.res;have HX5 := hZ X5;obtain ⟨x0, x1, x2, x3, x4, x5, x6⟩ := cq7 X0;simp at x0 x1 x2 x3 x4 x5 x6;clear I HI X0 hkn;go_wp2_with (first | (((with_reducible refine wpList_putRow 55 (w.heap.size + 1) #[.int .i64 t.kind, .string t.pkg, .int .i64 t.major, .string t.mod, .string t.name, .slice Bn t.names.length cB, .slice A' n c'] _ _ X5 ?_ ?_ ?_ ?_ ?_ ?_); exact tySize; rfl; exact tyOne; iterate 2 (focus (first | (go_simp; done) | rfl)))))
      exact ret_agg1 (fn := Tryz.f177) (vs := [.int .i64 t.kind, .string t.pkg, .int .i64 t.major, .string t.mod, .string t.name, .slice Bn t.names.length cB, .slice A' n c']) (b := w.heap.size + 1) rfl rfl Tryz.underlying55 (by kernel_rfl) (cell7 (setRow_heap wo (w.heap.size + 1) _ _ _ _ HX5.out)) rfl FIN.out
end Go.Proofs.YteecgiebimdbhaaGreatDoor
