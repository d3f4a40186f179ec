/-
  Several texts in one.
-/
import Derived.Test.YteecgiebimdbhaaGreatDoorK20
open List (getElem_toArray getElem_cons_succ getElem_cons_zero set_cons_zero set_cons_succ setIfInBounds_toArray)
set_option maxRecDepth 100000
set_option maxHeartbeats 8000000
namespace Go.Proofs.YteecgiebimdbhaaGreatDoor
open Go Go.RowKit Go.Shelf
open Go.Sort Go.Maps
open M
abbrev cpO (L : Int) (mv : Value) : Obj := .cells #[.int .i64 L, mv] 259 (0, 0)
mutual
def fitT : Ty -> Prop
  | .mk _ p _ d n ns ss => (p.size <= 281474976710656 /\ d.size <= 281474976710656 /\ n.size <= 281474976710656 /\ ns.length <= 200 /\ ∀ s ∈ ns, s.size <= 281474976710656) /\ fitL ss
def fitL : List Ty -> Prop
  | [] => True
  | t :: r => fitT t /\ fitL r
end
theorem fitL_mem : ∀ l : List Ty, fitL l ↔ ∀ t ∈ l, fitT t
  | [] => by simp [fitL]
  | t :: r => by simp [fitL, fitL_mem r]
theorem fitT_own {t : Ty} (h : fitT t) : (t.pkg.size <= 281474976710656 /\ t.mod.size <= 281474976710656 /\ t.name.size <= 281474976710656 /\ t.names.length <= 200 /\ ∀ s ∈ t.names, s.size <= 281474976710656) /\ ∀ s ∈ t.subs, fitT s := by
  cases t with
  | mk k p m d n ns ss =>
    unfold fitT at h
    exact ⟨h.1, (fitL_mem ss).1 h.2⟩
def leftAt (L : Int) (ss : List Ty) (i : Nat) : Int := L - ss.length - manyL (ss.take i) + i
theorem manyL_drop : ∀ (l : List Ty) (i : Nat), manyL l = manyL (l.take i) + manyL (l.drop i)
  | [], i => by simp [manyL]
  | a :: r, 0 => by simp [manyL]
  | a :: r, i + 1 => by
    have := manyL_drop r i
    simp only [List.take_succ_cons, List.drop_succ_cons, manyL];omega
theorem left_many {L : Int} {ss : List Ty} {i : Nat} {s : Ty} (hs : ss[i]? = some s) (hL : (manyL ss : Int) + 1 <= L) : (many s : Int) <= leftAt L ss i /\ leftAt L ss i <= L := by
  have hi := (List.getElem?_eq_some_iff.1 hs).1;have h1 := manyL_drop ss i;have h2 := manyL_take ss i s hs;have h3 := manyL_drop ss (i + 1);have h4 := manyL_len (ss.drop (i + 1));rw [List.length_drop] at h4;have h5 := manyL_len (ss.take i);rw [List.length_take] at h5;unfold leftAt
  omega
theorem left_zero (L : Int) (ss : List Ty) : leftAt L ss 0 = L - ss.length := by unfold leftAt; simp [manyL]
theorem left_end (L : Int) (ss : List Ty) : leftAt L ss ss.length = L - manyL ss := by unfold leftAt; rw [List.take_length]; omega
theorem left_step {L : Int} {ss : List Ty} {i : Nat} {s : Ty} (hs : ss[i]? = some s) : leftAt L ss i - (many s - 1) = leftAt L ss (i + 1) := by
  have h2 := manyL_take ss i s hs;unfold leftAt
  omega
theorem grown_put {w w' : World} {r : Option Nat} (h : w.grownBy w' r) {g : Nat} (hg : w.heap.size <= g) (o : Nat) (l : List Value) : w.grownBy (w'.setCells g o l) r := by
  have hb : Below w'.heap.size w' w' := Below.refl _ _;refine ⟨?_, ?_, ?_, by rw [size_setCells]; exact h.size, fun b hb hne => ?_⟩
  · rw [World.os_setCells]; exact h.os
  · exact (setCells_below (n := 0) (Below.refl 0 w') (Nat.zero_le g) o l).tape.trans h.tape
  · rw [World.output_setCells]; exact h.output
  · rw [World.heap_setCells_other w' g o l (Nat.lt_of_lt_of_le hb h.size) (by omega)]
    exact h.block b hb hne
theorem listT_any (w0 w : World) (kb : Nat) (A : Option Addr) (n c : Nat) (ss : List Ty) (O : Nat -> Obj) (hn : ss.length = n) (hz : n <= 1000000) (hS : SubsAt w0 A ss) (hw : Below w0.heap.size w0 w) (hk0 : w0.heap.size <= kb) (hkl : kb < w.heap.size) (hO : w.heap[kb]? = some (O 0))
    (IH : ∀ i s, ss[i]? = some s -> ∀ (l : List Value) (wx : World), TyAt w0 l s -> Below w0.heap.size w0 wx -> kb < wx.heap.size -> wx.heap[kb]? = some (O i) ->
      Calls Tryz.prog 212 #[.pointer (some ⟨kb, 0, none⟩), .agg l.toArray] wx fun e w' => ∃ l' : List Value, e = .returned (.agg l'.toArray) /\ TyAt (strike (· < wx.heap.size) w') l' s /\ w'.heap[kb]? = some (O (i + 1)) /\ wx.grownBy w' (some kb)) :
    Calls Tryz.prog 277 #[.slice A n c, .func (.func 212) #[.pointer (some ⟨kb, 0, none⟩)] #[]] w fun e w' => ∃ (A' : Option Addr) (c' : Nat), e = .returned (.slice A' n c') /\ n <= c' /\ RowIn tR (strike (· < w.heap.size) w') A' ss /\ w'.heap[kb]? = some (O n) /\ w.grownBy w' (some kb) := by
  have HN := hZ hn;have HS := hZ hS;have HW := hZ hw;have HIH := hZ IH;have HO := hZ hO;have EQ : ∀ wz : World, (binOp .eql 53 (.slice A n c) (.slice none 0 0)).run Tryz.prog wz = .ok (.bool A.isNone) wz := fun wz => Lib.run_eql_slice_nil wz _ _ _ _ _ _ _ Tryz.underlying53
  cases A with
  | none =>
    have h0 : ss = [] := hS.row.none_nil;have hn0 : n = 0 := by rw [<- hn, h0]; rfl
    have HX := hZ h0;subst hn0;clear hS hn h0 hw IH hO;go_enter Tryz.func277, Tryz.ntmps277
    go_wp2_with fail
    go_ret;exact ⟨_, _, rfl, Nat.le_refl _, fun i s h => by rw [HX.out] at h; simp at h, HO.out, grown_of (Below.refl _ _)⟩
  | some ad =>
    obtain ⟨i0, hi, hz0, hz1, hz2⟩ := info_parts typ_info;obtain ⟨W1, hW1⟩ : ∃ W1, W1 = w.alloc (.cells (madeCells (Value.agg #[.int .i64 0, .string ⟨#[]⟩, .int .i64 0, .string ⟨#[]⟩, .string ⟨#[]⟩, .slice none 0 0, .slice none 0 0]).cells (n * 7)) 55) := ⟨_, rfl⟩;have MS := run_make (P := Tryz.prog) w 53 55 i0 (.agg #[.int .i64 0, .string ⟨#[]⟩, .int .i64 0, .string ⟨#[]⟩, .string ⟨#[]⟩, .slice none 0 0, .slice none 0 0]) Tryz.underlying53 hi hz0 .i64 .i64 (n : Int) (n : Int) (by omega) (by omega) (by rw [hz2]; omega) (by omega);rw [hz1] at MS;simp only [Int.toNat_natCast] at MS;rw [<- hW1] at MS;have START : Hid (Fill tR w.heap.size w.heap.size ss 0 W1) := hZ (by rw [hW1]; exact Fill.start tR (Nat.le_refl _) _ _ ss (by rw [size_madeCells, hn]; rfl));have HB1 : Hid (w.grownBy W1 (some kb) /\ W1.heap[kb]? = some (O 0)) := hZ (by rw [hW1]; exact ⟨grown_of (below_new (Below.refl _ _) _), (Lib.alloc_old w _ kb hkl).trans hO⟩);have EQ' : ∀ wz : World, (binOp .eql 53 (.slice (some ad) n c) (.slice none 0 0)).run Tryz.prog wz = .ok (.bool false) wz := EQ
    clear EQ hW1 hS hn hw IH hO;go_enter Tryz.func277, Tryz.ntmps277
    go_wp2_with fail
    go_loopw [15] (fun s15 wr => ∃ k : Nat, k <= n /\ s15 = .int .i64 k /\ Hid (Fill tR w.heap.size w.heap.size ss k wr) /\ Hid (w.grownBy wr (some kb) /\ wr.heap[kb]? = some (O k))) (fun s15 _ => n - (intOf s15).toNat)
    case atStart => exact ⟨0, by omega, rfl, START, HB1⟩
    case round =>
      obtain ⟨k, hk, rfl, HF, HB⟩ := hrel;obtain ⟨wo, rfl⟩ : ∃ wo : World, wo = wr := ⟨_, rfl⟩;clear MS EQ' START HB1;by_cases hlt : k < n
      · obtain ⟨s, hs⟩ : ∃ s, ss[k]? = some s := ⟨_, List.getElem?_eq_getElem (by rw [HN.out]; exact hlt)⟩
        obtain ⟨g, o, v0, v1, v2, v3, v4, v5, v6, e1, hg, a0, a1, a2, a3, a4, a5, a6, us⟩ := HS.out k s hs;obtain ⟨Bn, cB, Bs, dB, ev, -⟩ := us.parts;simp only [List.cons.injEq, and_true] at ev;obtain ⟨rfl, rfl, rfl, rfl, rfl, rfl, rfl⟩ := ev;obtain rfl := Option.some.inj e1;have hBo : Below w0.heap.size w0 wo := below_grow HW.out HB.out.1 hk0;have q := fun o v (hv : w0.cell? ⟨g, o, none⟩ = some v) => (hBo.cell (p := ⟨g, o, none⟩) hg).trans hv
        have c0 := q _ _ a0;have c1 := q _ _ a1;have c2 := q _ _ a2;have c3 := q _ _ a3;have c4 := q _ _ a4;have c5 := q _ _ a5;have c6 := q _ _ a6;obtain ⟨w8, hw8⟩ : ∃ w8, w8 = wo.alloc (.cells #[.int .i64 s.kind, .string s.pkg, .int .i64 s.major, .string s.mod, .string s.name, .slice Bn s.names.length cB, .slice Bs s.subs.length dB] 55) := ⟨_, rfl⟩;have B8 : Below wo.heap.size wo w8 := by rw [hw8]; exact below_new (Below.refl _ _) _
        have Y8 : w8.heap[wo.heap.size]? = some (.cells #[.int .i64 s.kind, .string s.pkg, .int .i64 s.major, .string s.mod, .string s.name, .slice Bn s.names.length cB, .slice Bs s.subs.length dB] 55 (0, 0)) := by rw [hw8]; exact heap_alloc_new wo _
        have s8 : w8.heap.size = wo.heap.size + 1 := by rw [hw8]; simp
        have hkw : kb < wo.heap.size := Nat.lt_of_lt_of_le hkl HB.out.1.size;have CL := hZ (HIH.out k s hs _ w8 us (below_grow hBo (grown_of B8) hk0) (by omega) ((B8.block _ hkw).trans HB.out.2));have HSS := hZ hs;have HB8 := hZ B8;have HW8 := hZ hw8;have HY8 := hZ Y8;clear hs us hg e1 hBo q a0 a1 a2 a3 a4 a5 a6 B8 hw8;go_upto_region 7 with fail
        rw [<- HW8.out];clear c0 c1 c2 c3 c4 c5 c6;obtain ⟨y0, y1, y2, y3, y4, y5, y6⟩ := cq7 Y8;simp at y0 y1 y2 y3 y4 y5 y6;clear Y8;go_wp2_with fail
        refine CL.out.mono ?_; rintro e w2 ⟨l', rfl, hT2, hO2, hg2⟩
        obtain ⟨Cn, cC, Cs, dC, rfl, -⟩ := hT2.parts;have hlw : w.heap.size < wo.heap.size := HF.out.hg;have hs2 := hg2.size;have F2 : Fill tR w.heap.size w.heap.size ss k w2 := HF.out.keep (by omega) (fun b h1 hb => (hg2.block b (by omega) (fun e => by cases e; omega)).trans (HB8.out.block b hb));have HT := F2.at (m := 7) (by rw [HN.out]; exact hlt) rfl;have F3 : Hid (Fill tR w.heap.size w.heap.size ss (k + 1) (w2.setCells w.heap.size (k * 7) [.int .i64 s.kind, .string s.pkg, .int .i64 s.major, .string s.mod, .string s.name, .slice Cn s.names.length cC, .slice Cs s.subs.length dC])) := hZ (F2.put HSS.out (B := w8.heap.size) hT2 (by omega))
        have B3 : Hid (w.grownBy (w2.setCells w.heap.size (k * 7) [.int .i64 s.kind, .string s.pkg, .int .i64 s.major, .string s.mod, .string s.name, .slice Cn s.names.length cC, .slice Cs s.subs.length dC]) (some kb) /\ (w2.setCells w.heap.size (k * 7) [.int .i64 s.kind, .string s.pkg, .int .i64 s.major, .string s.mod, .string s.name, .slice Cn s.names.length cC, .slice Cs s.subs.length dC]).heap[kb]? = some (O (k + 1))) := hZ
          ⟨grown_put (grown_over HB.out.1 (grown_over (grown_of HB8.out) hg2)) (Nat.le_refl _) _ _, by rw [World.heap_setCells_other _ _ _ _ (by omega) (by omega)]; exact hO2⟩
        clear F2 hg2 hT2 hO2 CL y0 y1 y2 y3 y4 y5 y6 HB8 HW8 HY8;go_upto_region 8 with (first | ((with_reducible refine wpList_putMid 55 w.heap.size (k * 7) #[.int .i64 s.kind, .string s.pkg, .int .i64 s.major, .string s.mod, .string s.name, .slice Cn s.names.length cC, .slice Cs s.subs.length dC] ?_ ?_ ?_ ?_ ?_ ?_); exact HT; exact tySize; exact tyOne; rfl; rfl))
        obtain ⟨w9, hw9⟩ : ∃ w9, w9 = w2.setCells w.heap.size (k * 7) [.int .i64 s.kind, .string s.pkg, .int .i64 s.major, .string s.mod, .string s.name, .slice Cn s.names.length cC, .slice Cs s.subs.length dC] := ⟨_, rfl⟩;rw [<- hw9] at F3 B3;have HW9 := hZ hw9;clear hw9 HT;try rw [<- HW9.out]
        go_wp2_with fail
        go_roundw
        case rel => exact ⟨k + 1, by omega, by go_num, F3, B3⟩
        case measure => simp [intOf]; omega
      · have hkn : k = n := by omega
        have DONE := hZ (HF.out.done (m := w.heap.size) (by rw [HN.out]; omega) (Nat.le_refl _));have HKN := hZ hkn;clear hkn;go_wp2_with fail
        go_ret;exact ⟨_, _, rfl, Nat.le_refl _, DONE.out, by rw [<- HKN.out]; exact HB.out.2, HB.out.1⟩
def ClnOut (w0 w : World) (n : Nat) (ss : List Ty) (e : Ending) (w' : World) : Prop :=
  ∃ (A : Option Addr) (c : Nat), e = .returned (.slice A n c) /\ n <= c /\ Below w.heap.size w w' /\ (0 < n -> ∃ g, A = some ⟨g, 0, none⟩ /\ w.heap.size <= g /\ g < w'.heap.size /\ w'.there g 0 (n * 7) /\
    ∀ i s, ss[i]? = some s -> ∃ l : List Value, TyAt w0 l s /\ ∀ q v, l[q]? = some v -> w'.cell? ⟨g, i * 7 + q, none⟩ = some v)
theorem cln_own {w0 w w' : World} {n : Nat} {ss : List Ty} {v : Value} {C : List (List Value)} (hn : ss.length = n) (h1 : C.length = ss.length) (h2 : ∀ l, l ∈ C -> l.length = 7) (h4 : ∀ (i : Nat) (l : List Value) (x : Ty), C[i]? = some l -> ss[i]? = some x -> TyAt w0 l x)
    (hown : w'.ownsRow w.heap.size 55 7 v n C.flatten) (hb : Below w.heap.size w w') : ClnOut w0 w n ss (.returned v) w' := by
  rcases hown.2 with ⟨rfl, h0⟩ | ⟨g, cap, cur, rfl, hB, hg, hnc, hcm, hcs, htake⟩
  · exact ⟨none, 0, by rw [h0], by omega, hb, fun h => by omega⟩
  · refine ⟨_, cap, rfl, hnc, hb, fun _ => ⟨g, rfl, hB, (Array.getElem?_eq_some_iff.1 hg).1, fun j hj => ⟨?_, Lib.frozen_of_heap hg _⟩, fun i s hs => ?_⟩⟩
    · have : n * 7 <= cap * 7 := Nat.mul_le_mul_right _ hnc
      rw [cZ hg, Nat.zero_add, Array.getElem?_eq_getElem (by omega)]; rfl
    · have hi := (List.getElem?_eq_some_iff.1 hs).1
      have hl : C[i]? = some C[i] := List.getElem?_eq_getElem (by omega);refine ⟨_, h4 i _ s hl hs, fun q v hv => ?_⟩;have hq := (List.getElem?_eq_some_iff.1 hv).1;rw [h2 _ (List.getElem_mem (by omega))] at hq;have hf := flatk_at C h2 i q _ hl hq;rw [cZ hg, <- Array.getElem?_toList];have e2 : (cur.toList.take (n * 7))[i * 7 + q]? = C[i][q]? := by rw [htake, hf]
      rw [List.getElem?_take] at e2;split at e2
      · rw [e2]; exact hv
      · omega
theorem cloneT_any (w0 w : World) (As : Option Addr) (n cs : Nat) (ss : List Ty) (hn : ss.length = n) (hz : n <= 9000) (hS : SubsAt w0 As ss) (hw : Below w0.heap.size w0 w) :
    Calls Tryz.prog 211 #[.slice As n cs] w (ClnOut w0 w n ss) := by
  have EQ : ∀ wz : World, (binOp .eql 53 (.slice As n cs) (.slice none 0 0)).run Tryz.prog wz = .ok (.bool As.isNone) wz := fun wz => Lib.run_eql_slice_nil wz _ _ _ _ _ _ _ Tryz.underlying53
  cases As with
  | none =>
    have h0 : ss = [] := hS.row.none_nil;have hn0 : n = 0 := by rw [<- hn, h0]; rfl
    subst hn0;clear hS hn h0;go_enter Tryz.func211, Tryz.ntmps211
    go_wp2_with fail
    go_ret;exact ⟨none, 0, rfl, Nat.le_refl _, Below.refl _ _, fun h => by omega⟩
  | some ad =>
    have HL : ∃ C : List (List Value), C.length = ss.length /\ (∀ l, l ∈ C -> l.length = 7) /\ (∀ (i : Nat) (l : List Value) (x : Ty), C[i]? = some l -> ss[i]? = some x -> TyAt w0 l x) /\ (∀ (j : Nat) (u : Value), C.flatten[j]? = some u -> w.cell? (ad.add j) = some u) /\ ∀ u ∈ C.flatten, u.oneCell' = true := by
      cases hc : ss with
      | nil => exact ⟨[], rfl, fun l h => (by cases h), fun i l x h => by simp at h, fun j u h => by simp at h, fun u h => by simp at h⟩
      | cons s0 r0 =>
        obtain ⟨g, o, _, _, _, _, _, _, _, e, hg, -⟩ := hS 0 s0 (by rw [hc]; rfl);obtain rfl := Option.some.inj e;obtain ⟨C, k1, k2, k3, k4⟩ := RowIn.lists (R := tR) (by show 0 < 7; omega) hS.row;rw [<- hc];refine ⟨C, k1, k2, k3, fun j u hu => ?_, fun u hu => ?_⟩
        · rw [WideShapes.add_plain]
          exact (hw.cell (p := ⟨g, _, none⟩) hg).trans (k4 j u hu)
        · obtain ⟨l, hl, hu⟩ := List.mem_flatten.1 hu
          obtain ⟨i, hi⟩ := List.mem_iff_getElem?.1 hl;have hil := (List.getElem?_eq_some_iff.1 hi).1;exact ty_one (k3 i l _ hi (List.getElem?_eq_getElem (by omega))) u hu
    obtain ⟨C, h1, h2, h4, hnews, hone⟩ := HL;have hfl : C.flatten.length = n * 7 := by rw [flatC_len C h2, h1, hn]
    have hnews2 : ∀ (j : Nat) (u : Value), C.flatten[j]? = some u -> (w.alloc (.cells #[] 55)).cell? (ad.add j) = some u := fun j u hu => cell_alloc (hnews j u hu)
    have own0 := World.ownsRow_lit (base := w.heap.size) (e := 55) (size := 7) w #[] 0 (Nat.le_refl _) (by decide) rfl;obtain ⟨i1, hi1, hy0, hy1, hy2⟩ := info_parts typ_info;have EQ' : ∀ wz : World, (binOp .eql 53 (.slice (some ad) n cs) (.slice none 0 0)).run Tryz.prog wz = .ok (.bool false) wz := EQ
    have hbase : w.heap.size <= (w.alloc (.cells #[] 55)).heap.size := by simp
    have HH4 := hZ h4;have HH2 := hZ h2;have HH1 := hZ h1;have HN := hZ hn;clear EQ hS hn hw h4 h2 h1 hnews;go_enter Tryz.func211, Tryz.ntmps211
    go_wp2_with (at_builtin; refine wpList_append_own_at _ rfl _ _ 53 rfl w.heap.size 55 i1 _ 7 112 Tryz.underlying53 hi1 hy0 hy1 hy2 rfl (by decide) _ 0 [] rfl own0 ad n cs C.flatten rfl ?c0 hnews2 hone ?c3 ?c4 hbase ?_)
    case c3 => unfold maxLen; omega
    case c4 => omega
    intro v5 w4 hown hgrow _ hat
    have FIN : Hid (ClnOut w0 w n ss (.returned v5) w4) := hZ (by
      have hown2 : w4.ownsRow w.heap.size 55 7 v5 n C.flatten := by first | exact hown | simpa using hown
      refine cln_own HN.out HH1.out HH2.out HH4.out hown2 ⟨hgrow.os, hgrow.tape, hgrow.output, Nat.le_trans hbase hgrow.size, fun b hb => ?_⟩;rw [hgrow.block b (by simp; omega) (by simp [Value.ownBlock]; omega)];exact Lib.alloc_old w _ b hb)
    clear hown hgrow hat hnews2 hone own0 EQ';go_wp2_with fail
    go_ret;exact FIN.out
structure Gr2 (kb eb : Nat) (w w' : World) : Prop where
  os : w'.os = w.os
  tape : w'.tape = w.tape
  output : w'.output = w.output
  size : w.heap.size <= w'.heap.size
  block : ∀ b, b < w.heap.size -> b ≠ kb -> b ≠ eb -> w'.heap[b]? = w.heap[b]?
theorem Gr2.trans {kb eb : Nat} {a b c : World} (h : Gr2 kb eb a b) (h' : Gr2 kb eb b c) : Gr2 kb eb a c :=
  ⟨h'.os.trans h.os, h'.tape.trans h.tape, h'.output.trans h.output, Nat.le_trans h.size h'.size, fun k hk h1 h2 => (h'.block k (Nat.lt_of_lt_of_le hk h.size) h1 h2).trans (h.block k hk h1 h2)⟩
theorem Gr2.of_below {kb eb : Nat} {w w' : World} (h : Below w.heap.size w w') : Gr2 kb eb w w' := ⟨h.os, h.tape, h.output, h.size, fun b hb _ _ => h.block b hb⟩
theorem Gr2.of_grown {kb eb : Nat} {w w' : World} (h : w.grownBy w' (some kb)) : Gr2 kb eb w w' := ⟨h.os, h.tape, h.output, h.size, fun b hb h1 _ => h.block b hb (fun e => h1 (Option.some.inj e))⟩
theorem Gr2.base {kb eb : Nat} {w0 w w' : World} (h : Below w0.heap.size w0 w) (hg : Gr2 kb eb w w') (hk : w0.heap.size <= kb) (he : w0.heap.size <= eb) : Below w0.heap.size w0 w' :=
  ⟨hg.os.trans h.os, hg.tape.trans h.tape, hg.output.trans h.output, Nat.le_trans h.size hg.size, fun b hb => (hg.block b (Nat.lt_of_lt_of_le hb h.size) (by omega) (by omega)).trans (h.block b hb)⟩
theorem Gr2.row {kb eb g : Nat} {w w' : World} (h : Gr2 kb eb w w') (hg : w.heap.size <= g) (vs : Array Value) : Gr2 kb eb w (w'.setRow g vs) :=
  ⟨h.os, h.tape, h.output, by rw [size_setRow]; exact h.size, fun b hb h1 h2 => (setRow_other _ _ _ _ (by omega)).trans (h.block b hb h1 h2)⟩
theorem Gr2.cells {kb eb g : Nat} {w w' : World} (h : Gr2 kb eb w w') (hg : w.heap.size <= g) (o : Nat) (l : List Value) : Gr2 kb eb w (w'.setCells g o l) :=
  ⟨by rw [World.os_setCells]; exact h.os, (setCells_below (n := 0) (Below.refl 0 w') (Nat.zero_le g) o l).tape.trans h.tape, by rw [World.output_setCells]; exact h.output, by rw [size_setCells]; exact h.size, fun b hb h1 h2 => by
    rw [World.heap_setCells_other w' g o l (Nat.lt_of_lt_of_le hb h.size) (by omega)]; exact h.block b hb h1 h2⟩
theorem Gr2.cell {kb eb g i : Nat} {w w' : World} (h : Gr2 kb eb w w') (hg : g = eb \/ w.heap.size <= g) (v : Value) : Gr2 kb eb w (w'.setCell ⟨g, i, none⟩ v) :=
  ⟨h.os, h.tape, h.output, by simp; exact h.size, fun b hb h1 h2 => (Below.heap_setCell _ _ _ _ (by show b ≠ g; omega)).trans (h.block b hb h1 h2)⟩
theorem names_base {w0 w : World} {A : Option Addr} {l : List ByteArray} {S : Nat -> Prop} (h : NamesAt w0 A l) (hb : Below w0.heap.size w0 w) (hS : ∀ b, S b -> w0.heap.size <= b) : NamesAt (strike S w) A l := fun i s hs => by
  obtain ⟨g, o, hA, hg, hc, hz⟩ := h i s hs;exact ⟨g, o, hA, by rw [strike_size]; exact Nat.lt_of_lt_of_le hg hb.size, strike_cell.2 ⟨fun e => by have := hS g e; omega, (hb.cell (p := ⟨g, _, none⟩) hg).trans hc⟩, hz⟩
def XpOut (w0 : World) (kb eb : Nat) (m : Mo) (pkg : ByteArray) (major : Int) (env : List If) (Ai : Option Addr) (ci : Nat) (Ad : Option Addr) (cd : Nat) (Ae : Option Addr) (ce : Nat) (made : Int) (lg : Bool) (d : Int) (u : Ty) (w : World) (e : Ending) (w' : World) : Prop :=
  ∃ (l : List Value) (made' : Int) (lg' : Bool), e = .returned (.agg l.toArray) /\ (∃ v, ShL l v) /\ w'.heap[eb]? = some (.cells #[.string m.name, .slice Ai m.imps.length ci, .slice Ad m.decs.length cd, .string pkg, .int .i64 major, .slice Ae env.length ce, .map (some kb), .int .i64 made', .bool lg'] 229 (0, 0)) /\ PlMap w0 w' kb m pkg major env /\ Gr2 kb eb w w' /\
    lg' = (lg || decide (500 < made + many u) || decide (32 < d + deep u - 1)) /\ (lg' = false -> made' = made + many u /\ TyAt (strike (fun b => w0.heap.size <= b /\ b < w.heap.size) w') l u)
def XpCall (w0 : World) (kb eb : Nat) (m : Mo) (pkg : ByteArray) (major : Int) (env : List If) (Ai : Option Addr) (ci : Nat) (Ad : Option Addr) (cd : Nat) (Ae : Option Addr) (ce : Nat) (t u : Ty) : Prop :=
  ∀ (made : Int) (lg : Bool) (d : Int) (l : List Value) (wx : World), (lg = false -> 0 <= made /\ made <= 500) -> 1 <= d -> d <= 33 -> TyAt w0 l t -> Below w0.heap.size w0 wx -> kb < wx.heap.size -> wx.heap[eb]? = some (.cells #[.string m.name, .slice Ai m.imps.length ci, .slice Ad m.decs.length cd, .string pkg, .int .i64 major, .slice Ae env.length ce, .map (some kb), .int .i64 made, .bool lg] 229 (0, 0)) -> PlMap w0 wx kb m pkg major env ->
    Calls Tryz.prog 177 #[.pointer (some ⟨eb, 0, none⟩), .agg l.toArray, .int .i64 d] wx (XpOut w0 kb eb m pkg major env Ai ci Ad cd Ae ce made lg d u wx)
theorem xp_local (w0 : World) (kb eb : Nat) (m : Mo) (pkg : ByteArray) (major : Int) (env : List If) (Ai : Option Addr) (ci : Nat) (Ad : Option Addr) (cd : Nat) (Ae : Option Addr) (ce : Nat) (hns : NsAt w0 [.string m.name, .slice Ai m.imps.length ci, .slice Ad m.decs.length cd, .string pkg, .int .i64 major, .slice Ae env.length ce, .map (some kb)] m pkg major env kb) (hk0 : w0.heap.size <= kb) (he0 : w0.heap.size <= eb) (hke : kb ≠ eb) (t s u : Ty) (h8 : t.kind = 8) (hs : (lookM m pkg major env t.mod t.name).1 = s) (IH : XpCall w0 kb eb m pkg major env Ai ci Ad cd Ae ce s u) : XpCall w0 kb eb m pkg major env Ai ci Ad cd Ae ce t u := by
  intro made lg d l w hmade hd1 hd2 hT hw hkl heb hpl;have hel : eb < w.heap.size := (Array.getElem?_eq_some_iff.1 heb).1;have HT := hZ hT;obtain ⟨Bn, cB, Bs, dB, rfl, -⟩ := hT.parts;obtain ⟨W2, hW2, B2, O0, O1, hl2⟩ := two_boxes w #[.int .i64 t.kind, .string t.pkg, .int .i64 t.major, .string t.mod, .string t.name, .slice Bn t.names.length cB, .slice Bs t.subs.length dB] #[.int .i64 0, .string ⟨#[]⟩, .int .i64 0, .string ⟨#[]⟩, .string ⟨#[]⟩, .slice none 0 0, .slice none 0 0] 55 55;have HB2 := hZ B2;have HO0 := hZ O0;have HO1 := hZ O1;have HW := hZ hW2;have HE2 : Hid (W2.heap[eb]? = some (.cells #[.string m.name, .slice Ai m.imps.length ci, .slice Ad m.decs.length cd, .string pkg, .int .i64 major, .slice Ae env.length ce, .map (some kb), .int .i64 made, .bool lg] 229 (0, 0))) := hZ ((B2.block _ hel).trans heb);have HP2 : Hid (PlMap w0 W2 kb m pkg major env) := hZ (hpl.kept (B2.block _ hkl));have HW0 : Hid (Below w0.heap.size w0 W2) := hZ (below_over hw B2);obtain ⟨D, hD⟩ : ∃ D, D = lookM m pkg major env t.mod t.name := ⟨_, rfl⟩;rw [<- hD] at hs;have HD := hZ hs
  have CM : Hid (Calls Tryz.prog 208 #[.agg #[.string m.name, .slice Ai m.imps.length ci, .slice Ad m.decs.length cd, .string pkg, .int .i64 major, .slice Ae env.length ce, .map (some kb)], .agg #[.int .i64 t.kind, .string t.pkg, .int .i64 t.major, .string t.mod, .string t.name, .slice Bn t.names.length cB, .slice Bs t.subs.length dB]] W2.drew (MnsOut w0 W2.drew kb m pkg major env D)) := hZ (by
    rw [hD];exact meansN_any m pkg major env kb t _ w0 W2.drew hns hk0 (fun b hlt => HW0.out.block b hlt) (below_over HW0.out (Below.drew (Below.refl _ _))) (HP2.out.kept rfl) _ (HT.out.keep (below_over HW0.out (Below.drew (Below.refl _ _)))))
  have KEEP : Hid (∀ wx : World, wx.heap[w.heap.size]? = W2.heap[w.heap.size]? -> (∃ md lx, wx.heap[eb]? = some (.cells #[.string m.name, .slice Ai m.imps.length ci, .slice Ad m.decs.length cd, .string pkg, .int .i64 major, .slice Ae env.length ce, .map (some kb), .int .i64 md, .bool lx] 229 (0, 0))) -> (wx.cell? ⟨w.heap.size, 0, none⟩ = some (.int .i64 t.kind) /\ wx.cell? ⟨w.heap.size, 1, none⟩ = some (.string t.pkg) /\ wx.cell? ⟨w.heap.size, 2, none⟩ = some (.int .i64 t.major) /\ wx.cell? ⟨w.heap.size, 3, none⟩ = some (.string t.mod) /\ wx.cell? ⟨w.heap.size, 4, none⟩ = some (.string t.name) /\ wx.cell? ⟨w.heap.size, 5, none⟩ = some (.slice Bn t.names.length cB) /\ wx.cell? ⟨w.heap.size, 6, none⟩ = some (.slice Bs t.subs.length dB)) /\
      wx.cell? ⟨eb, 0, none⟩ = some (.string m.name) /\ wx.cell? ⟨eb, 1, none⟩ = some (.slice Ai m.imps.length ci) /\ wx.cell? ⟨eb, 2, none⟩ = some (.slice Ad m.decs.length cd) /\ wx.cell? ⟨eb, 3, none⟩ = some (.string pkg) /\ wx.cell? ⟨eb, 4, none⟩ = some (.int .i64 major) /\ wx.cell? ⟨eb, 5, none⟩ = some (.slice Ae env.length ce) /\ wx.cell? ⟨eb, 6, none⟩ = some (.map (some kb))) := hZ (fun wx hb he => by
    have X0 := hb.trans HO0.out;obtain ⟨md, lx, X1⟩ := he;exact ⟨⟨cZ X0 0, cZ X0 1, cZ X0 2, cZ X0 3, cZ X0 4, cZ X0 5, cZ X0 6⟩, cZ X1 0, cZ X1 1, cZ X1 2, cZ X1 3, cZ X1 4, cZ X1 5, cZ X1 6⟩)
  have HIH := hZ IH;have q8 : (t.kind == 8) = true := by rw [h8]; rfl
  have y0 := cZ O0 0;simp at y0;have HKL := hZ (show kb < w.heap.size /\ eb < w.heap.size from ⟨hkl, hel⟩);have HMD := hZ hmade;clear hW2 B2 O0 O1 hT hw heb hpl hns hs hD IH h8 hkl hel hmade;go_enter Tryz.func177, Tryz.ntmps177
  go_upto_region 1 with fail
  rw [<- HW.out];clear HW;go_upto_region 2 with fail
  clear y0 q8;have hH0 := KEEP.out W2.drew rfl ⟨_, _, HE2.out⟩
  refine AnyX.start (fun wx => (wx.cell? ⟨w.heap.size, 0, none⟩ = some (.int .i64 t.kind) /\ wx.cell? ⟨w.heap.size, 1, none⟩ = some (.string t.pkg) /\ wx.cell? ⟨w.heap.size, 2, none⟩ = some (.int .i64 t.major) /\ wx.cell? ⟨w.heap.size, 3, none⟩ = some (.string t.mod) /\ wx.cell? ⟨w.heap.size, 4, none⟩ = some (.string t.name) /\ wx.cell? ⟨w.heap.size, 5, none⟩ = some (.slice Bn t.names.length cB) /\ wx.cell? ⟨w.heap.size, 6, none⟩ = some (.slice Bs t.subs.length dB)) /\
      wx.cell? ⟨eb, 0, none⟩ = some (.string m.name) /\ wx.cell? ⟨eb, 1, none⟩ = some (.slice Ai m.imps.length ci) /\ wx.cell? ⟨eb, 2, none⟩ = some (.slice Ad m.decs.length cd) /\ wx.cell? ⟨eb, 3, none⟩ = some (.string pkg) /\ wx.cell? ⟨eb, 4, none⟩ = some (.int .i64 major) /\ wx.cell? ⟨eb, 5, none⟩ = some (.slice Ae env.length ce) /\ wx.cell? ⟨eb, 6, none⟩ = some (.map (some kb))) (fun _ => false) (by kernel_rfl) ?_
  refine AnyX.mv (i := 0) (v := ?_) rfl (fun _ _ _ h => h) (Or.inl ⟨by rfl, ?_⟩) ?_;rotate_left
  · (intro wS _; go_simp; try with_reducible rfl)
  simp only [getElem_toArray, getElem_cons_succ, getElem_cons_zero];simp only [Act.put, setIfInBounds_toArray, set_cons_zero, set_cons_succ];refine AnyX.mv (i := 1) (v := ?_) rfl (fun _ _ _ h => h) (Or.inl ⟨by rfl, ?_⟩) ?_;rotate_left
  · (intro wS _; go_simp; try with_reducible rfl)
  simp only [getElem_toArray, getElem_cons_succ, getElem_cons_zero];simp only [Act.put, setIfInBounds_toArray, set_cons_zero, set_cons_succ];refine AnyX.mv (i := 2) (v := ?_) rfl (fun _ _ _ h => h) (Or.inl ⟨by rfl, ?_⟩) ?_;rotate_left
  · (intro wS _; go_simp; try with_reducible rfl)
  simp only [getElem_toArray, getElem_cons_succ, getElem_cons_zero];simp only [Act.put, setIfInBounds_toArray, set_cons_zero, set_cons_succ];refine AnyX.mv (i := 3) (v := ?_) rfl (fun _ _ _ h => h) (Or.inl ⟨by rfl, ?_⟩) ?_;rotate_left
  · (intro wS _; go_simp; try with_reducible rfl)
  simp only [getElem_toArray, getElem_cons_succ, getElem_cons_zero];simp only [Act.put, setIfInBounds_toArray, set_cons_zero, set_cons_succ];refine AnyX.tk (i := 4) (v := ?_) rfl (fun _ _ _ h => h) hH0 (Or.inl ⟨by rfl, ?_⟩) ?_;rotate_left
  · (intro wS hS; (try obtain ⟨⟨x0, x1, x2, x3, x4, x5, x6⟩, n0, n1, n2, n3, n4, n5, n6⟩ := hS); go_simp; try with_reducible rfl)
  simp only [getElem_toArray, getElem_cons_succ, getElem_cons_zero];simp only [Act.put, setIfInBounds_toArray, set_cons_zero, set_cons_succ];refine AnyX.tk (i := 5) (v := ?_) rfl (fun _ _ _ h => h) hH0 (Or.inl ⟨by rfl, ?_⟩) ?_;rotate_left
  · (intro wS hS; (try obtain ⟨⟨x0, x1, x2, x3, x4, x5, x6⟩, n0, n1, n2, n3, n4, n5, n6⟩ := hS); go_simp; try with_reducible rfl)
  simp only [getElem_toArray, getElem_cons_succ, getElem_cons_zero];simp only [Act.put, setIfInBounds_toArray, set_cons_zero, set_cons_succ];refine AnyX.mv (i := 8) (v := ?_) rfl (fun _ _ _ h => h) (Or.inl ⟨by rfl, ?_⟩) ?_;rotate_left
  · (intro wS _; go_simp; try with_reducible rfl)
  simp only [getElem_toArray, getElem_cons_succ, getElem_cons_zero];simp only [Act.put, setIfInBounds_toArray, set_cons_zero, set_cons_succ];refine AnyX.go 6 (by kernel_rfl) rfl rfl (fun K hK => ?_);simp only [getElem_toArray, getElem_cons_succ, getElem_cons_zero];go_simp
  refine CM.out.mono ?_;rintro e w5 ⟨l7, rfl, hL, hm5, hg5⟩;obtain ⟨Dn, dn, Ds, ds, rfl, -⟩ := (hL w0 (Below.refl _ _)).parts;have hfd : ∀ wz : World, (Instr.field 252 (.agg #[.int .i64 D.1.kind, .string D.1.pkg, .int .i64 D.1.major, .string D.1.mod, .string D.1.name, .slice Dn D.1.names.length dn, .slice Ds D.1.subs.length ds, .int .i64 D.2]) 0).run Tryz.prog wz = .ok (.agg #[.int .i64 D.1.kind, .string D.1.pkg, .int .i64 D.1.major, .string D.1.mod, .string D.1.name, .slice Dn D.1.names.length dn, .slice Ds D.1.subs.length ds]) wz := fun _ => by kernel_rfl
  obtain ⟨hkl, hel⟩ := HKL.out;have hs5 : W2.heap.size <= w5.heap.size := hg5.size;have b5 : w5.heap[w.heap.size]? = W2.heap[w.heap.size]? := hg5.block _ (by show w.heap.size < W2.heap.size; omega) (fun e => by cases e; omega);have c5 : w5.heap[w.heap.size + 1]? = some (.cells #[.int .i64 0, .string ⟨#[]⟩, .int .i64 0, .string ⟨#[]⟩, .string ⟨#[]⟩, .slice none 0 0, .slice none 0 0] 55 (0, 0)) := (hg5.block _ (by show w.heap.size + 1 < W2.heap.size; omega) (fun e => absurd (Option.some.inj e) (by omega))).trans HO1.out;have e5 : w5.heap[eb]? = some (.cells #[.string m.name, .slice Ai m.imps.length ci, .slice Ad m.decs.length cd, .string pkg, .int .i64 major, .slice Ae env.length ce, .map (some kb), .int .i64 made, .bool lg] 229 (0, 0)) := (hg5.block _ (by show eb < W2.heap.size; omega) (fun e => absurd (Option.some.inj e) (by omega))).trans HE2.out;have G5 : Hid (Gr2 kb eb w w5) := hZ ((Gr2.of_below HB2.out).trans ((Gr2.of_below (Below.drew (Below.refl _ _))).trans (Gr2.of_grown hg5)));have B5 : Below w0.heap.size w0 w5 := below_grow (below_over HW0.out (Below.drew (Below.refl _ _))) hg5 hk0;have hlc := hL w0 (Below.refl _ _);rw [HD.out] at hlc;have CI := hZ (HIH.out made lg d [.int .i64 D.1.kind, .string D.1.pkg, .int .i64 D.1.major, .string D.1.mod, .string D.1.name, .slice Dn D.1.names.length dn, .slice Ds D.1.subs.length ds] w5 HMD.out hd1 hd2 (by rw [HD.out]; exact hlc) B5 (by omega) e5 hm5);have HE5 := hZ e5;have HC5 := hZ c5;have HB5 := hZ b5;have HS5 := hZ hs5;simp only [];refine hK.out _ _ (fun hoff _ => KEEP.out w5 b5 ⟨_, _, e5⟩) ?_;clear hK;(try simp only [Act.put, setIfInBounds_toArray, set_cons_zero, set_cons_succ]);clear hL hm5 hg5 e5 c5 b5 B5 hlc;refine AnyX.move (i := 7) (v := .agg #[.int .i64 D.1.kind, .string D.1.pkg, .int .i64 D.1.major, .string D.1.mod, .string D.1.name, .slice Dn D.1.names.length dn, .slice Ds D.1.subs.length ds]) rfl (by kernel_rfl) (by kernel_rfl) (by kernel_rfl) (by kernel_rfl) (fun _ _ _ h => h) (Or.inl ⟨by rfl, ?_⟩) ?_
  · (intro wS _; go_simp; try simp only [hfd, Result.andThen])
  simp only [getElem_toArray, getElem_cons_succ, getElem_cons_zero];simp only [Act.put, setIfInBounds_toArray, set_cons_zero, set_cons_succ];clear hfd;refine AnyX.go 9 (by kernel_rfl) rfl rfl (fun K hK => ?_);simp only [getElem_toArray, getElem_cons_succ, getElem_cons_zero];go_simp
  refine CI.out.mono ?_;rintro e w6 ⟨l', made', lg', rfl, ⟨v, hsh⟩, he6, hp6, hg6, hlg, hty⟩;obtain ⟨Vn, cV, Vs, dV, rfl⟩ := hsh;have hs6 := hg6.size;have b6 : w6.heap[w.heap.size]? = W2.heap[w.heap.size]? := (hg6.block _ (by omega) (by omega) (by omega)).trans HB5.out;have X6 : w6.heap[w.heap.size + 1]? = some (.cells #[.int .i64 0, .string ⟨#[]⟩, .int .i64 0, .string ⟨#[]⟩, .string ⟨#[]⟩, .slice none 0 0, .slice none 0 0] 55 (0, 0)) := (hg6.block _ (by omega) (by omega) (by omega)).trans HC5.out;have HX6 := hZ X6;have hH6 := KEEP.out w6 b6 ⟨_, _, he6⟩;have hH7 := KEEP.out (w6.setRow (w.heap.size + 1) #[.int .i64 v.kind, .string v.pkg, .int .i64 v.major, .string v.mod, .string v.name, .slice Vn v.names.length cV, .slice Vs v.subs.length dV]) ((setRow_other _ _ _ _ (by omega)).trans b6) ⟨_, _, (setRow_other _ _ _ _ (by omega)).trans he6⟩
  have FIN : Hid (XpOut w0 kb eb m pkg major env Ai ci Ad cd Ae ce made lg d u w (.returned (.agg #[.int .i64 v.kind, .string v.pkg, .int .i64 v.major, .string v.mod, .string v.name, .slice Vn v.names.length cV, .slice Vs v.subs.length dV])) (w6.setRow (w.heap.size + 1) #[.int .i64 v.kind, .string v.pkg, .int .i64 v.major, .string v.mod, .string v.name, .slice Vn v.names.length cV, .slice Vs v.subs.length dV])) := hZ (by
    refine ⟨[.int .i64 v.kind, .string v.pkg, .int .i64 v.major, .string v.mod, .string v.name, .slice Vn v.names.length cV, .slice Vs v.subs.length dV], made', lg', rfl, ⟨v, Vn, cV, Vs, dV, rfl⟩, (setRow_other _ _ _ _ (by omega)).trans he6, hp6.kept (setRow_other _ _ _ _ (by omega)), (G5.out.trans hg6).row (by omega) _, hlg, fun h => ⟨(hty h).1, ?_⟩⟩;have := HB2.out.size
    refine (hty h).2.move (by simp) fun b hb hS => ⟨by omega, setRow_other _ _ _ _ (by omega)⟩)
  clear CI hg6 hlg hty hp6;simp only [];refine hK.out _ _ (fun hoff _ => hH6) ?_;clear hK;(try simp only [Act.put, setIfInBounds_toArray, set_cons_zero, set_cons_succ]);refine AnyX.go 10 (by kernel_rfl) rfl rfl (fun K hK => ?_);simp only [getElem_toArray, getElem_cons_succ, getElem_cons_zero];refine wp_store_row 55 (.tmp 6) (.tmp 21) rfl (w.heap.size + 1) #[.int .i64 v.kind, .string v.pkg, .int .i64 v.major, .string v.mod, .string v.name, .slice Vn v.names.length cV, .slice Vs v.subs.length dV] rfl rfl _ _ X6 tySize rfl tyOne ?_;refine hK.out _ _ (fun hoff _ => hH7) ?_;clear hK;(try simp only [Act.put, setIfInBounds_toArray, set_cons_zero, set_cons_succ]);refine AnyX.done (by kernel_rfl) ?_ _;go_wp2_with fail
  exact ret_agg1 (fn := Tryz.f177) (vs := [.int .i64 v.kind, .string v.pkg, .int .i64 v.major, .string v.mod, .string v.name, .slice Vn v.names.length cV, .slice Vs v.subs.length dV]) (b := w.heap.size + 1) rfl rfl Tryz.underlying55 (by kernel_rfl) (cell7 (setRow_heap w6 (w.heap.size + 1) _ _ _ _ HX6.out)) rfl FIN.out
end Go.Proofs.YteecgiebimdbhaaGreatDoor
