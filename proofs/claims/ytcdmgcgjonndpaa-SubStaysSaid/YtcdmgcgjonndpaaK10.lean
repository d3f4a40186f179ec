/-
  
-/
import Derived.Test.YtcdmgcgjonndpaaK09
namespace Go.Proofs.Ytcdmgcgjonndpaa
open Go Go.RowKit Go.Shelf
open Go.Sort
open M
def frz (w : World) (b : Nat) : Prop := ¬ ∃ c T, w.heap[b]? = some (.cells c T (0, 0))
theorem frz_same {w w' : World} {b : Nat} (h : w'.heap[b]? = w.heap[b]?) (hn : ¬ frz w b) : ¬ frz w' b := fun hf => hn (fun ⟨c, T, hc⟩ => hf ⟨c, T, h.trans hc⟩)
noncomputable def strikeH (S : Nat → Prop) (w : World) : World := strike (fun b => S b ∨ frz w b) w
theorem strikeH_size (S : Nat → Prop) (w : World) : (strikeH S w).heap.size = w.heap.size := strike_size _ _
theorem TyAt.moveH {S S' : Nat → Prop} {w w' : World} {l : List Value} {t : Ty} (h : TyAt (strikeH S w) l t) (hz : w.heap.size ≤ w'.heap.size) (hb : ∀ b, b < w.heap.size → ¬ S b → ¬ S' b ∧ w'.heap[b]? = w.heap[b]?) : TyAt (strikeH S' w') l t :=
 TyAt.move (S := fun b => S b ∨ frz w b) h hz fun b hlt hS => by
  obtain ⟨h1, h2⟩ := hb b hlt (fun e => hS (.inl e))
  exact ⟨fun e => e.elim h1 (frz_same h2 (fun e => hS (.inr e))), h2⟩
theorem RowIn.moveH {α : Type} {R : Reads α} {S S' : Nat → Prop} {w w' : World} {A : Option Addr} {xs : List α} (h : RowIn R (strikeH S w) A xs) (hz : w.heap.size ≤ w'.heap.size) (hb : ∀ b, b < w.heap.size → ¬ S b → ¬ S' b ∧ w'.heap[b]? = w.heap[b]?) : RowIn R (strikeH S' w') A xs :=
 RowIn.move (S := fun b => S b ∨ frz w b) h hz fun b hlt hS => by
  obtain ⟨h1, h2⟩ := hb b hlt (fun e => hS (.inl e))
  exact ⟨fun e => e.elim h1 (frz_same h2 (fun e => hS (.inr e))), h2⟩
theorem names_keepH {S : Nat → Prop} {w w' : World} {A : Option Addr} {l : List ByteArray} (h : NamesAt (strikeH S w) A l) (hz : w.heap.size ≤ w'.heap.size) {S' : Nat → Prop} (hb : ∀ b, b < w.heap.size → ¬ S b → ¬ S' b ∧ w'.heap[b]? = w.heap[b]?) : NamesAt (strikeH S' w') A l :=
 (RowIn.moveH (R := stR) h.row hz hb).names
theorem frz_setCells {g : Nat} : ∀ (l : List Value) (o : Nat) (w : World), ¬ frz w g → ¬ frz (w.setCells g o l) g
 | [], _, _, h => h
 | v :: r, o, w, h => by
  refine frz_setCells r (o + 1) _ ?_
  intro hf
  refine h ?_
  rintro ⟨c, T, hc⟩
  exact hf ⟨_, T, Joins.block_setCell (i := o) hc v⟩
structure FillH {α : Type} (R : Reads α) (lo g : Nat) (xs : List α) (j : Nat) (w : World) : Prop where
 hlo : lo ≤ g
 hg : g < w.heap.size
 hot : ¬ frz w g
 there : w.there g 0 (xs.length * R.k)
 rows : ∀ i x, i < j → xs[i]? = some x → ∃ l : List Value, (∀ q v, l[q]? = some v → w.cell? ⟨g, i * R.k + q, none⟩ = some v) ∧ R.E (strikeH (fun b => b < lo ∨ b = g) w) l x
theorem Reads.moveH {α : Type} (R : Reads α) {S S' : Nat → Prop} {w w' : World} {l : List Value} {x : α} (h : R.E (strikeH S w) l x) (hz : w.heap.size ≤ w'.heap.size) (hb : ∀ b, b < w.heap.size → ¬ S b → ¬ S' b ∧ w'.heap[b]? = w.heap[b]?) : R.E (strikeH S' w') l x :=
 R.move (fun b => S b ∨ frz w b) (fun b => S' b ∨ frz w' b) w w' l x h hz fun b hlt hS => by
  obtain ⟨h1, h2⟩ := hb b hlt (fun e => hS (.inl e))
  exact ⟨fun e => e.elim h1 (frz_same h2 (fun e => hS (.inr e))), h2⟩
theorem FillH.start {α : Type} (R : Reads α) {lo : Nat} {w : World} (hlo : lo ≤ w.heap.size) (cells : Array Value) (T : TypeId) (xs : List α) (hs : cells.size = xs.length * R.k) : FillH R lo w.heap.size xs 0 (w.alloc (.cells cells T)) := by
 have h := Fill.start R hlo cells T xs hs
 exact ⟨h.hlo, h.hg, fun hf => hf ⟨_, _, heap_alloc_new w _⟩, h.there, fun i x hi => by omega⟩
theorem FillH.keep {α : Type} {R : Reads α} {lo g j : Nat} {xs : List α} {w w' : World} (h : FillH R lo g xs j w) (hz : w.heap.size ≤ w'.heap.size) (hb : ∀ b, lo ≤ b → b < w.heap.size → w'.heap[b]? = w.heap[b]?) : FillH R lo g xs j w' := by
 have eg := hb g h.hlo h.hg
 refine ⟨h.hlo, Nat.lt_of_lt_of_le h.hg hz, frz_same eg h.hot, fun q hq => ?_, fun i x hi hx => ?_⟩
 ·have := h.there q hq
  rw [World.cell?_of_block (w := w) (w' := w') (a := ⟨g, 0 + q, none⟩) eg]
  refine ⟨this.1, ?_⟩
  have e2 : w'.frozen? ⟨g, 0 + q, none⟩ = w.frozen? ⟨g, 0 + q, none⟩ := by simp only [World.frozen?]; rw [eg]
  rw [e2]; exact this.2
 ·obtain ⟨l, hc, hE⟩ := h.rows i x hi hx
  exact ⟨l, fun q v hv => (World.cell?_of_block (w := w) (w' := w') (a := ⟨g, _, none⟩) eg).trans (hc q v hv), R.moveH hE hz fun b hlt hS => ⟨hS, hb b (by
   rcases Nat.lt_or_ge b lo with c | c
   ·exact absurd (.inl c) hS
   ·exact c) hlt⟩⟩
theorem FillH.at {α : Type} {R : Reads α} {lo g j m : Nat} {xs : List α} {w : World} (h : FillH R lo g xs j w) (hj : j < xs.length) (hm : m = R.k) : w.there g (j * R.k) m := fun q hq => by
 have h1 : (j + 1) * R.k ≤ xs.length * R.k := Nat.mul_le_mul_right _ hj
 rw [Nat.succ_mul] at h1
 have := h.there (j * R.k + q) (by omega)
 rw [Nat.zero_add] at this
 exact this
theorem FillH.put {α : Type} {R : Reads α} {lo g j B : Nat} {xs : List α} {w : World} {l : List Value} {x : α} (h : FillH R lo g xs j w) (hx : xs[j]? = some x) (hE : R.E (strikeH (· < B) w) l x) (hB : g < B) : FillH R lo g xs (j + 1) (w.setCells g (j * R.k) l) := by
 have hlen := R.len _ _ _ hE
 have hj := (List.getElem?_eq_some_iff.1 hx).1
 have hat := h.at hj hlen
 have ot : ∀ b, b < w.heap.size → b ≠ g → (w.setCells g (j * R.k) l).heap[b]? = w.heap[b]? := fun b hb hne => World.heap_setCells_other w g (j * R.k) l hb hne
 have hsz : (w.setCells g (j * R.k) l).heap.size = w.heap.size := size_setCells g l _ w
 refine ⟨h.hlo, by rw [hsz]; exact h.hg, frz_setCells l _ w h.hot, World.there_setCells h.there _ _ _, fun i y hi hy => ?_⟩
 rcases Nat.lt_or_ge i j with c | c
 ·obtain ⟨l', hc, hE'⟩ := h.rows i y c hy
  have hl' := R.len _ _ _ hE'
  refine ⟨l', fun q v hv => ?_, R.moveH hE' (by rw [hsz]; exact Nat.le_refl _) fun b hb hS => ⟨hS, ot b hb fun e => hS (.inr e)⟩⟩
  have hq := (List.getElem?_eq_some_iff.1 hv).1
  rw [World.cell?_setCells_out]
  ·exact hc q v hv
  ·intro _ _
   have h1 : (i + 1) * R.k ≤ j * R.k := Nat.mul_le_mul_right _ c
   rw [Nat.succ_mul] at h1
   exact .inl (by show i * R.k + q < j * R.k; omega)
 ·obtain rfl : i = j := by omega
  rw [hx] at hy
  cases hy
  refine ⟨l, fun q v hv => ?_, R.moveH hE (by rw [hsz]; exact Nat.le_refl _) fun b hb hS => ⟨?_, ot b hb (by omega)⟩⟩
  ·have hq := (List.getElem?_eq_some_iff.1 hv).1
   rw [World.cell?_setCells_in g l (i * R.k) w (fun q hq => (hat q hq).1) q hq]
   rw [← hv, List.getElem?_eq_getElem hq]
  ·have := h.hlo
   omega
theorem FillH.done {α : Type} {R : Reads α} {lo g j m : Nat} {xs : List α} {w : World} (h : FillH R lo g xs j w) (hj : xs.length ≤ j) (hm : m ≤ lo) : RowIn R (strikeH (· < m) w) (some ⟨g, 0, none⟩) xs := fun i x hx => by
 have hi := (List.getElem?_eq_some_iff.1 hx).1
 obtain ⟨l, hc, hE⟩ := h.rows i x (by omega) hx
 have := h.hlo
 refine ⟨g, 0, l, rfl, by rw [strikeH_size]; exact h.hg, fun q v hv => strike_cell.2 ⟨fun e => e.elim (fun e => by omega) h.hot, ?_⟩, R.moveH hE (Nat.le_refl _) fun b _ hS => ⟨fun e => hS (.inl (by omega)), rfl⟩⟩
 rw [Nat.zero_add]; exact hc q v hv
set_option maxRecDepth 100000 in
set_option maxHeartbeats 4000000 in
theorem listS_anyH (w0 w : World) (A : Option Addr) (n c : Nat) (xs : List ByteArray) (hn : xs.length = n) (hz : n ≤ 1000000) (hS : NamesAt w0 A xs) (hw : Below w0.heap.size w0 w) (hsz : ∀ s ∈ xs, s.size ≤ 281474976710656) :
  Calls Try.prog 63 #[.slice A n c, .func (.func 62) #[] #[]] w fun e w' => ∃ (A' : Option Addr) (c' : Nat), e = .returned (.slice A' n c') ∧ NamesAt (strikeH (· < w.heap.size) w') A' xs ∧ Below w.heap.size w w' := by
 have HN := Lib.hid hn
 have HS := Lib.hid hS
 have HW := Lib.hid hw
 have HSZ := Lib.hid hsz
 have EQ : ∀ wz : World, (binOp .eql 22 (.slice A n c) (.slice none 0 0)).run Try.prog wz = .ok (.bool A.isNone) wz := fun wz => Lib.run_eql_slice_nil wz _ _ _ _ _ _ _ Try.underlying22
 cases A with
 | none =>
  have h0 : xs = [] := hS.row.none_nil
  have hn0 : n = 0 := by rw [← hn, h0]; rfl
  have HX := Lib.hid h0
  subst hn0
  clear hS hn h0 hw hsz
  go_enter Try.func63, Try.ntmps63
  go_wp2_with fail
  go_ret
  exact ⟨_, _, rfl, fun i s h => by rw [HX.out] at h; simp at h, Below.refl _ _⟩
 | some ad =>
  obtain ⟨i0, hi, hz0, hz1, hz2⟩ := info_parts str_info
  obtain ⟨W1, hW1⟩ : ∃ W1, W1 = w.alloc (.cells (madeCells (Value.string ⟨#[]⟩).cells (n * 1)) 9) := ⟨_, rfl⟩
  have MS := run_make (P := Try.prog) w 22 9 i0 (.string ⟨#[]⟩) Try.underlying22 hi hz0 .i64 .i64 (n : Int) (n : Int) (by omega) (by omega) (by rw [hz2]; omega) (by omega)
  rw [hz1] at MS
  simp only [Int.toNat_natCast] at MS
  rw [← hW1] at MS
  have START : Hid (FillH stR w.heap.size w.heap.size xs 0 W1) := Lib.hid (by rw [hW1]; exact FillH.start stR (Nat.le_refl _) _ _ xs (by rw [size_madeCells, hn]; rfl))
  have HB1 : Hid (Below w.heap.size w W1) := Lib.hid (by rw [hW1]; exact below_new (Below.refl _ _) _)
  have EQ' : ∀ wz : World, (binOp .eql 22 (.slice (some ad) n c) (.slice none 0 0)).run Try.prog wz = .ok (.bool false) wz := EQ
  clear EQ hW1 hS hn hw hsz
  go_enter Try.func63, Try.ntmps63
  go_wp2_with fail
  go_loopw [15] (fun s15 wr => ∃ k : Nat, k ≤ n ∧ s15 = .int .i64 k ∧ Hid (FillH stR w.heap.size w.heap.size xs k wr) ∧ Hid (Below w.heap.size w wr)) (fun s15 _ => n - (intOf s15).toNat)
  case atStart => exact ⟨0, by omega, rfl, START, HB1⟩
  case round =>
   obtain ⟨k, hk, rfl, HF, HB⟩ := hrel
   obtain ⟨wo, rfl⟩ : ∃ wo : World, wo = wr := ⟨_, rfl⟩
   clear MS EQ' START HB1
   by_cases hlt : k < n
   ·obtain ⟨s, hs⟩ : ∃ s, xs[k]? = some s := ⟨_, List.getElem?_eq_getElem (by rw [HN.out]; exact hlt)⟩
    obtain ⟨g, o, e1, hg, hc, -⟩ := HS.out k s hs
    obtain rfl := Option.some.inj e1
    have hc' := ((below_over HW.out HB.out).cell (p := ⟨g, _, none⟩) hg).trans hc
    have CL := Lib.hid (cln_any s wo (HSZ.out s (List.mem_of_getElem? hs)))
    have HSS := Lib.hid hs
    clear hs hc hg e1
    go_upto_region 7 with fail
    clear hc'
    go_wp2_with fail
    refine CL.out.mono ?_; rintro e w2 ⟨rfl, hb2⟩
    have hlw : w.heap.size < wo.heap.size := HF.out.hg
    have F2 := HF.out.keep hb2.size (fun b _ hb => hb2.block b hb)
    have HT := F2.at (m := 1) (by rw [HN.out]; exact hlt) rfl
    have t0 := (HT 0 (by omega)).1
    have f0 := (HT 0 (by omega)).2
    rw [show k * stR.k + 0 = k by show k * 1 + 0 = k; omega] at t0 f0
    obtain ⟨u0, t0⟩ := Option.isSome_iff_exists.1 t0
    have F3 : Hid (FillH stR w.heap.size w.heap.size xs (k + 1) (w2.setCell ⟨w.heap.size, k, none⟩ (.string s))) := Lib.hid (by
     have := F2.put HSS.out (l := [.string s]) (B := wo.heap.size) ⟨rfl, by have := HSZ.out s (List.mem_of_getElem? HSS.out); omega⟩ hlw
     rw [show k * stR.k = k by show k * 1 = k; omega] at this
     exact this)
    have B3 : Hid (Below w.heap.size w (w2.setCell ⟨w.heap.size, k, none⟩ (.string s))) := Lib.hid (below_put (below_over HB.out hb2) (Nat.le_refl _) _)
    clear F2 HT hb2 CL
    go_wp2_with fail
    go_roundw
    case rel => exact ⟨k + 1, by omega, by go_num, F3, B3⟩
    case measure => simp [intOf]; omega
   ·have hkn : k = n := by omega
    have DONE := Lib.hid (HF.out.done (m := w.heap.size) (by rw [HN.out]; omega) (Nat.le_refl _))
    clear hkn
    go_wp2_with fail
    go_ret
    exact ⟨_, _, rfl, DONE.out.names, HB.out⟩
set_option maxRecDepth 100000 in
set_option maxHeartbeats 8000000 in
theorem listT_anyH (w0 w : World) (kb : Nat) (A : Option Addr) (n c : Nat) (ss : List Ty) (O : Nat → Obj) (hn : ss.length = n) (hz : n ≤ 1000000) (hS : SubsAt w0 A ss) (hw : Below w0.heap.size w0 w) (hk0 : w0.heap.size ≤ kb) (hkl : kb < w.heap.size) (hO : w.heap[kb]? = some (O 0))
  (IH : ∀ i s, ss[i]? = some s → ∀ (l : List Value) (wx : World), TyAt w0 l s → Below w0.heap.size w0 wx → kb < wx.heap.size → wx.heap[kb]? = some (O i) →
   Calls Try.prog 49 #[.pointer (some ⟨kb, 0, none⟩), .agg l.toArray] wx fun e w' => ∃ l' : List Value, e = .returned (.agg l'.toArray) ∧ TyAt (strikeH (· < wx.heap.size) w') l' s ∧ w'.heap[kb]? = some (O (i + 1)) ∧ wx.grownBy w' (some kb)) :
  Calls Try.prog 74 #[.slice A n c, .func (.func 49) #[.pointer (some ⟨kb, 0, none⟩)] #[]] w fun e w' => ∃ (A' : Option Addr) (c' : Nat), e = .returned (.slice A' n c') ∧ n ≤ c' ∧ RowIn tR (strikeH (· < w.heap.size) w') A' ss ∧ w'.heap[kb]? = some (O n) ∧ w.grownBy w' (some kb) := by
 have HN := Lib.hid hn
 have HS := Lib.hid hS
 have HW := Lib.hid hw
 have HIH := Lib.hid IH
 have HO := Lib.hid hO
 have EQ : ∀ wz : World, (binOp .eql 23 (.slice A n c) (.slice none 0 0)).run Try.prog wz = .ok (.bool A.isNone) wz := fun wz => Lib.run_eql_slice_nil wz _ _ _ _ _ _ _ Try.underlying23
 cases A with
 | none =>
  have h0 : ss = [] := hS.row.none_nil
  have hn0 : n = 0 := by rw [← hn, h0]; rfl
  have HX := Lib.hid h0
  subst hn0
  clear hS hn h0 hw IH hO
  go_enter Try.func74, Try.ntmps74
  go_wp2_with fail
  go_ret
  exact ⟨_, _, rfl, Nat.le_refl _, fun i s h => by rw [HX.out] at h; simp at h, HO.out, grown_of (Below.refl _ _)⟩
 | some ad =>
  obtain ⟨i0, hi, hz0, hz1, hz2⟩ := info_parts typ_info
  obtain ⟨W1, hW1⟩ : ∃ W1, W1 = w.alloc (.cells (madeCells (Value.agg #[.int .i64 0, .string ⟨#[]⟩, .int .i64 0, .string ⟨#[]⟩, .string ⟨#[]⟩, .slice none 0 0, .slice none 0 0]).cells (n * 7)) 25) := ⟨_, rfl⟩
  have MS := run_make (P := Try.prog) w 23 25 i0 (.agg #[.int .i64 0, .string ⟨#[]⟩, .int .i64 0, .string ⟨#[]⟩, .string ⟨#[]⟩, .slice none 0 0, .slice none 0 0]) Try.underlying23 hi hz0 .i64 .i64 (n : Int) (n : Int) (by omega) (by omega) (by rw [hz2]; omega) (by omega)
  rw [hz1] at MS
  simp only [Int.toNat_natCast] at MS
  rw [← hW1] at MS
  have START : Hid (FillH tR w.heap.size w.heap.size ss 0 W1) := Lib.hid (by rw [hW1]; exact FillH.start tR (Nat.le_refl _) _ _ ss (by rw [size_madeCells, hn]; rfl))
  have HB1 : Hid (w.grownBy W1 (some kb) ∧ W1.heap[kb]? = some (O 0)) := Lib.hid (by rw [hW1]; exact ⟨grown_of (below_new (Below.refl _ _) _), (Lib.alloc_old w _ kb hkl).trans hO⟩)
  have EQ' : ∀ wz : World, (binOp .eql 23 (.slice (some ad) n c) (.slice none 0 0)).run Try.prog wz = .ok (.bool false) wz := EQ
  clear EQ hW1 hS hn hw IH hO
  go_enter Try.func74, Try.ntmps74
  go_wp2_with fail
  go_loopw [15] (fun s15 wr => ∃ k : Nat, k ≤ n ∧ s15 = .int .i64 k ∧ Hid (FillH tR w.heap.size w.heap.size ss k wr) ∧ Hid (w.grownBy wr (some kb) ∧ wr.heap[kb]? = some (O k))) (fun s15 _ => n - (intOf s15).toNat)
  case atStart => exact ⟨0, by omega, rfl, START, HB1⟩
  case round =>
   obtain ⟨k, hk, rfl, HF, HB⟩ := hrel
   obtain ⟨wo, rfl⟩ : ∃ wo : World, wo = wr := ⟨_, rfl⟩
   clear MS EQ' START HB1
   by_cases hlt : k < n
   ·obtain ⟨s, hs⟩ : ∃ s, ss[k]? = some s := ⟨_, List.getElem?_eq_getElem (by rw [HN.out]; exact hlt)⟩
    obtain ⟨g, o, v0, v1, v2, v3, v4, v5, v6, e1, hg, a0, a1, a2, a3, a4, a5, a6, us⟩ := HS.out k s hs
    obtain ⟨Bn, cB, Bs, dB, ev, -⟩ := us.parts
    simp only [List.cons.injEq, and_true] at ev
    obtain ⟨rfl, rfl, rfl, rfl, rfl, rfl, rfl⟩ := ev
    obtain rfl := Option.some.inj e1
    have hBo : Below w0.heap.size w0 wo := below_grow HW.out HB.out.1 hk0
    have q := fun o v (hv : w0.cell? ⟨g, o, none⟩ = some v) => (hBo.cell (p := ⟨g, o, none⟩) hg).trans hv
    have c0 := q _ _ a0
    have c1 := q _ _ a1
    have c2 := q _ _ a2
    have c3 := q _ _ a3
    have c4 := q _ _ a4
    have c5 := q _ _ a5
    have c6 := q _ _ a6
    obtain ⟨w8, hw8⟩ : ∃ w8, w8 = wo.alloc (.cells #[.int .i64 s.kind, .string s.pkg, .int .i64 s.major, .string s.mod, .string s.name, .slice Bn s.names.length cB, .slice Bs s.subs.length dB] 25) := ⟨_, rfl⟩
    have B8 : Below wo.heap.size wo w8 := by rw [hw8]; exact below_new (Below.refl _ _) _
    have Y8 : w8.heap[wo.heap.size]? = some (.cells #[.int .i64 s.kind, .string s.pkg, .int .i64 s.major, .string s.mod, .string s.name, .slice Bn s.names.length cB, .slice Bs s.subs.length dB] 25 (0, 0)) := by rw [hw8]; exact heap_alloc_new wo _
    have s8 : w8.heap.size = wo.heap.size + 1 := by rw [hw8]; simp
    have hkw : kb < wo.heap.size := Nat.lt_of_lt_of_le hkl HB.out.1.size
    have CL := Lib.hid (HIH.out k s hs _ w8 us (below_grow hBo (grown_of B8) hk0) (by omega) ((B8.block _ hkw).trans HB.out.2))
    have HSS := Lib.hid hs
    have HB8 := Lib.hid B8
    have HW8 := Lib.hid hw8
    have HY8 := Lib.hid Y8
    clear hs us hg e1 hBo q a0 a1 a2 a3 a4 a5 a6 B8 hw8
    go_upto_region 7 with fail
    rw [← HW8.out]
    clear c0 c1 c2 c3 c4 c5 c6
    have y0 := Lib.cell_of_heap Y8 0
    have y1 := Lib.cell_of_heap Y8 1
    have y2 := Lib.cell_of_heap Y8 2
    have y3 := Lib.cell_of_heap Y8 3
    have y4 := Lib.cell_of_heap Y8 4
    have y5 := Lib.cell_of_heap Y8 5
    have y6 := Lib.cell_of_heap Y8 6
    simp at y0 y1 y2 y3 y4 y5 y6
    clear Y8
    go_wp2_with fail
    refine CL.out.mono ?_; rintro e w2 ⟨l', rfl, hT2, hO2, hg2⟩
    obtain ⟨Cn, cC, Cs, dC, rfl, -⟩ := hT2.parts
    have hlw : w.heap.size < wo.heap.size := HF.out.hg
    have hs2 := hg2.size
    have F2 : FillH tR w.heap.size w.heap.size ss k w2 := HF.out.keep (by omega) (fun b h1 hb => (hg2.block b (by omega) (fun e => by cases e; omega)).trans (HB8.out.block b hb))
    have HT := F2.at (m := 7) (by rw [HN.out]; exact hlt) rfl
    have F3 : Hid (FillH tR w.heap.size w.heap.size ss (k + 1) (w2.setCells w.heap.size (k * 7) [.int .i64 s.kind, .string s.pkg, .int .i64 s.major, .string s.mod, .string s.name, .slice Cn s.names.length cC, .slice Cs s.subs.length dC])) := Lib.hid (F2.put HSS.out (B := w8.heap.size) hT2 (by omega))
    have B3 : Hid (w.grownBy (w2.setCells w.heap.size (k * 7) [.int .i64 s.kind, .string s.pkg, .int .i64 s.major, .string s.mod, .string s.name, .slice Cn s.names.length cC, .slice Cs s.subs.length dC]) (some kb) ∧ (w2.setCells w.heap.size (k * 7) [.int .i64 s.kind, .string s.pkg, .int .i64 s.major, .string s.mod, .string s.name, .slice Cn s.names.length cC, .slice Cs s.subs.length dC]).heap[kb]? = some (O (k + 1))) := Lib.hid
     ⟨grown_put (grown_over HB.out.1 (grown_over (grown_of HB8.out) hg2)) (Nat.le_refl _) _ _, by rw [World.heap_setCells_other _ _ _ _ (by omega) (by omega)]; exact hO2⟩
    clear F2 hg2 hT2 hO2 CL y0 y1 y2 y3 y4 y5 y6 HB8 HW8 HY8
    go_upto_region 8 with (first | ((with_reducible refine wpList_putMid 25 w.heap.size (k * 7) #[.int .i64 s.kind, .string s.pkg, .int .i64 s.major, .string s.mod, .string s.name, .slice Cn s.names.length cC, .slice Cs s.subs.length dC] ?_ ?_ ?_ ?_ ?_ ?_); exact HT; exact tySize; exact tyOne; rfl; rfl))
    obtain ⟨w9, hw9⟩ : ∃ w9, w9 = w2.setCells w.heap.size (k * 7) [.int .i64 s.kind, .string s.pkg, .int .i64 s.major, .string s.mod, .string s.name, .slice Cn s.names.length cC, .slice Cs s.subs.length dC] := ⟨_, rfl⟩
    rw [← hw9] at F3 B3
    have HW9 := Lib.hid hw9
    clear hw9 HT
    try rw [← HW9.out]
    go_wp2_with fail
    go_roundw
    case rel => exact ⟨k + 1, by omega, by go_num, F3, B3⟩
    case measure => simp [intOf]; omega
   ·have hkn : k = n := by omega
    have DONE := Lib.hid (HF.out.done (m := w.heap.size) (by rw [HN.out]; omega) (Nat.le_refl _))
    have HKN := Lib.hid hkn
    clear hkn
    go_wp2_with fail
    go_ret
    exact ⟨_, _, rfl, Nat.le_refl _, DONE.out, by rw [← HKN.out]; exact HB.out.2, HB.out.1⟩
def CyOutH (kb : Nat) (mv : Value) (L : Int) (t : Ty) (w : World) (e : Ending) (w' : World) : Prop :=
 ∃ l : List Value, e = .returned (.agg l.toArray) ∧ TyAt (strikeH (· < w.heap.size) w') l t ∧ w'.heap[kb]? = some (cpO (L - (many t - 1)) mv) ∧ w.grownBy w' (some kb)
def CyAtH (w0 : World) (kb : Nat) (mv : Value) (t : Ty) : Prop :=
 ∀ (L : Int) (l : List Value) (wx : World), (many t : Int) ≤ L → L ≤ 65536 → TyAt w0 l t → Below w0.heap.size w0 wx → kb < wx.heap.size → wx.heap[kb]? = some (cpO L mv) →
  Calls Try.prog 49 #[.pointer (some ⟨kb, 0, none⟩), .agg l.toArray] wx (CyOutH kb mv L t wx)
set_option maxRecDepth 100000 in
set_option maxHeartbeats 8000000 in
theorem subsC_anyH (w0 w : World) (kb : Nat) (mv : Value) (L : Int) (A : Option Addr) (n c : Nat) (ss : List Ty) (hn : ss.length = n) (hz : n ≤ 1000000) (hS : SubsAt w0 A ss) (hw : Below w0.heap.size w0 w) (hk0 : w0.heap.size ≤ kb) (hkl : kb < w.heap.size) (hkb : w.heap[kb]? = some (cpO L mv))
  (hL : (manyL ss : Int) + 1 ≤ L) (hL2 : L ≤ 65536) (IH : ∀ s, s ∈ ss → CyAtH w0 kb mv s) :
  Calls Try.prog 64 #[.pointer (some ⟨kb, 0, none⟩), .slice A n c] w fun e w' => ∃ (A' : Option Addr) (c' : Nat), e = .returned (.slice A' n c') ∧ n ≤ c' ∧ RowIn tR (strikeH (· < w.heap.size) w') A' ss ∧ w'.heap[kb]? = some (cpO (L - manyL ss) mv) ∧ w.grownBy w' (some kb) := by
 obtain ⟨w1, hw1⟩ : ∃ w1, w1 = w.setCell ⟨kb, 0, none⟩ (.int .i64 (L - (n : Int))) := ⟨_, rfl⟩
 have hml := manyL_len ss
 have hL0 : 0 < L := by omega
 have HG1 : Hid (w.grownBy w1 (some kb)) := Lib.hid (by
  rw [hw1]
  exact ⟨rfl, rfl, rfl, by simp, fun b _ hne => Below.heap_setCell _ _ _ _ (fun e => hne (by rw [e]))⟩)
 have HK1 : Hid (w1.heap[kb]? = some (cpO (leftAt L ss 0) mv)) := Lib.hid (by
  have := Joins.block_setCell (i := 0) hkb (.int .i64 (L - (n : Int)))
  rw [hw1, this, left_zero, hn]
  rfl)
 have s1 : w1.heap.size = w.heap.size := by rw [hw1]; simp
 have CL := Lib.hid (listT_anyH w0 w1 kb A n c ss (fun i => cpO (leftAt L ss i) mv) hn hz hS (below_grow hw HG1.out hk0) hk0 (by omega) HK1.out (fun i s hs l wx hT hb hk hO => by
  have hl := left_many hs hL
  refine (IH s (List.mem_of_getElem? hs) _ l wx hl.1 (by omega) hT hb hk hO).mono ?_
  rintro e w' ⟨l', rfl, h1, h2, h3⟩
  exact ⟨l', rfl, h1, by rw [h2, left_step hs], h3⟩))
 have x0 := Lib.cell_of_heap hkb 0
 have f0 := Lib.frozen_of_heap hkb 0
 simp at x0
 have wr1 : IntKind.i64.wrap (L - (n : Int)) = L - (n : Int) := by rw [IntKind.wrap_i64]; omega
 have HW1 := Lib.hid hw1
 have HEND : Hid (leftAt L ss n = L - manyL ss) := Lib.hid (by rw [← hn]; exact left_end L ss)
 have HS1 := Lib.hid s1
 clear hS hw hk0 hkl hkb hL IH hml hw1 s1 hn
 go_enter Try.func64, Try.ntmps64
 go_upto_region 3 with fail
 rw [← HW1.out]
 clear x0 f0 wr1
 go_wp2_with fail
 refine CL.out.mono ?_; rintro e w2 ⟨A', c', rfl, hc', hR, hO, hg⟩
 have FIN : Hid (n ≤ c' ∧ RowIn tR (strikeH (· < w.heap.size) w2) A' ss ∧ w2.heap[kb]? = some (cpO (L - manyL ss) mv) ∧ w.grownBy w2 (some kb)) := Lib.hid ⟨hc', by rw [← HS1.out]; exact hR, by rw [hO, HEND.out], grown_over HG1.out hg⟩
 clear hc' hR hO hg CL
 go_wp2_with fail
 go_ret
 exact ⟨_, _, rfl, FIN.out⟩
set_option maxRecDepth 100000 in
set_option maxHeartbeats 8000000 in
theorem copyC_anyH (w0 : World) (kb : Nat) (mv : Value) (hk0 : w0.heap.size ≤ kb) (N : Nat) : ∀ (t : Ty), many t ≤ N → fitT t → CyAtH w0 kb mv t := by
 induction N with
 | zero => intro t h; have := many_pos t; omega
 | succ N ih =>
  intro t hN hF L l w hL hL2 hT hw hkl hkb
  obtain ⟨⟨zp, zm, zn, znl, zns⟩, hfs⟩ := fitT_own hF
  obtain ⟨An, cn, As, cs, rfl, -, -, -, -, -, hNA, hS⟩ := hT.parts
  have hme := manyL_eq t
  have hml := manyL_len t.subs
  obtain ⟨W2, hW2, B2, O0, O1, hl2⟩ := two_boxes w #[.int .i64 t.kind, .string t.pkg, .int .i64 t.major, .string t.mod, .string t.name, .slice An t.names.length cn, .slice As t.subs.length cs] #[.int .i64 0, .string ⟨#[]⟩, .int .i64 0, .string ⟨#[]⟩, .string ⟨#[]⟩, .slice none 0 0, .slice none 0 0] 25 25
  have HB2 := Lib.hid B2
  have HO0 := Lib.hid O0
  have HO1 := Lib.hid O1
  have HW := Lib.hid hW2
  have HK2 : Hid (W2.heap[kb]? = some (cpO L mv)) := Lib.hid ((B2.block _ hkl).trans hkb)
  have HW0 := Lib.hid hw
  have KEEP : Hid (∀ wx : World, wx.heap[w.heap.size]? = W2.heap[w.heap.size]? → wx.cell? ⟨w.heap.size, 0, none⟩ = some (.int .i64 t.kind) ∧ wx.cell? ⟨w.heap.size, 1, none⟩ = some (.string t.pkg) ∧ wx.cell? ⟨w.heap.size, 2, none⟩ = some (.int .i64 t.major) ∧ wx.cell? ⟨w.heap.size, 3, none⟩ = some (.string t.mod) ∧ wx.cell? ⟨w.heap.size, 4, none⟩ = some (.string t.name) ∧ wx.cell? ⟨w.heap.size, 5, none⟩ = some (.slice An t.names.length cn) ∧ wx.cell? ⟨w.heap.size, 6, none⟩ = some (.slice As t.subs.length cs)) := Lib.hid (fun wx hb => by
   have X0 := hb.trans HO0.out
   exact ⟨Lib.cell_of_heap X0 0, Lib.cell_of_heap X0 1, Lib.cell_of_heap X0 2, Lib.cell_of_heap X0 3, Lib.cell_of_heap X0 4, Lib.cell_of_heap X0 5, Lib.cell_of_heap X0 6⟩)
  have C0 := Lib.hid (fun (wx : World) => cln_any t.pkg wx zp)
  have C1 := Lib.hid (fun (wx : World) => cln_any t.mod wx zm)
  have C2 := Lib.hid (fun (wx : World) => cln_any t.name wx zn)
  have C3 := Lib.hid (fun (wx : World) (hb : Below w.heap.size w wx) => listS_anyH w0 wx An t.names.length cn t.names rfl (by omega) hNA (below_over hw hb) zns)
  have C4 := Lib.hid (fun (wx : World) (hb : Below w.heap.size w wx) => subsC_anyH w0 wx kb mv L As t.subs.length cs t.subs rfl (by omega) hS (below_over hw hb) hk0 (Nat.lt_of_lt_of_le hkl hb.size) ((hb.block _ hkl).trans hkb) (by omega) hL2 (fun s hs => ih s (by have := manyL_mem _ _ hs; omega) (hfs s hs)))
  have HME : Hid ((many t : Int) - 1 = manyL t.subs) := Lib.hid (by omega)
  have HSZ : Hid (t.pkg.size ≤ 9223372036854775807 ∧ t.mod.size ≤ 9223372036854775807 ∧ t.name.size ≤ 9223372036854775807 ∧ t.names.length ≤ 9223372036854775807 ∧ t.subs.length ≤ 9223372036854775807) := Lib.hid ⟨by omega, by omega, by omega, by omega, by omega⟩
  have HKL := Lib.hid hkl
  clear hW2 B2 O0 O1 hkb hw hT hNA hS hfs hF zns hL hL2 hN hme hml zp zm zn znl hkl
  go_enter Try.func49, Try.ntmps49
  go_upto_region 1 with fail
  rw [← HW.out]
  clear HW
  have hH0 := KEEP.out W2.drew rfl
  refine AnyX.start (fun wx => wx.cell? ⟨w.heap.size, 0, none⟩ = some (.int .i64 t.kind) ∧ wx.cell? ⟨w.heap.size, 1, none⟩ = some (.string t.pkg) ∧ wx.cell? ⟨w.heap.size, 2, none⟩ = some (.int .i64 t.major) ∧ wx.cell? ⟨w.heap.size, 3, none⟩ = some (.string t.mod) ∧ wx.cell? ⟨w.heap.size, 4, none⟩ = some (.string t.name) ∧ wx.cell? ⟨w.heap.size, 5, none⟩ = some (.slice An t.names.length cn) ∧ wx.cell? ⟨w.heap.size, 6, none⟩ = some (.slice As t.subs.length cs)) (fun _ => false) (by kernel_rfl) ?_
  refine AnyX.move (i := 0) (v := ?_) rfl (by kernel_rfl) (by kernel_rfl) (by kernel_rfl) (by kernel_rfl) (fun _ _ _ h => h) (Or.inl ⟨by rfl, ?_⟩) ?_
  rotate_left
  ·(intro wS _; go_simp; try with_reducible rfl)
  simp only [List.getElem_toArray, List.getElem_cons_succ, List.getElem_cons_zero]
  simp only [Act.put, List.setIfInBounds_toArray]
  simp only [List.set_cons_zero, List.set_cons_succ]
  refine AnyX.take (i := 1) (v := ?_) rfl (by kernel_rfl) (by kernel_rfl) (by kernel_rfl) (by kernel_rfl) (by kernel_rfl) (fun _ _ _ h => h) hH0 (Or.inl ⟨by rfl, ?_⟩) ?_
  rotate_left
  ·(intro wS hS; (try obtain ⟨x0, x1, x2, x3, x4, x5, x6⟩ := hS); go_simp; try with_reducible rfl)
  simp only [List.getElem_toArray, List.getElem_cons_succ, List.getElem_cons_zero]
  simp only [Act.put, List.setIfInBounds_toArray]
  simp only [List.set_cons_zero, List.set_cons_succ]
  refine AnyX.move (i := 2) (v := ?_) rfl (by kernel_rfl) (by kernel_rfl) (by kernel_rfl) (by kernel_rfl) (fun _ _ _ h => h) (Or.inl ⟨by rfl, ?_⟩) ?_
  rotate_left
  ·(intro wS _; go_simp; try with_reducible rfl)
  simp only [List.getElem_toArray, List.getElem_cons_succ, List.getElem_cons_zero]
  simp only [Act.put, List.setIfInBounds_toArray]
  simp only [List.set_cons_zero, List.set_cons_succ]
  refine AnyX.take (i := 3) (v := ?_) rfl (by kernel_rfl) (by kernel_rfl) (by kernel_rfl) (by kernel_rfl) (by kernel_rfl) (fun _ _ _ h => h) hH0 (Or.inl ⟨by rfl, ?_⟩) ?_
  rotate_left
  ·(intro wS hS; (try obtain ⟨x0, x1, x2, x3, x4, x5, x6⟩ := hS); go_simp; try with_reducible rfl)
  simp only [List.getElem_toArray, List.getElem_cons_succ, List.getElem_cons_zero]
  simp only [Act.put, List.setIfInBounds_toArray]
  simp only [List.set_cons_zero, List.set_cons_succ]
  refine AnyX.move (i := 5) (v := ?_) rfl (by kernel_rfl) (by kernel_rfl) (by kernel_rfl) (by kernel_rfl) (fun _ _ _ h => h) (Or.inl ⟨by rfl, ?_⟩) ?_
  rotate_left
  ·(intro wS _; go_simp; try with_reducible rfl)
  simp only [List.getElem_toArray, List.getElem_cons_succ, List.getElem_cons_zero]
  simp only [Act.put, List.setIfInBounds_toArray]
  simp only [List.set_cons_zero, List.set_cons_succ]
  refine AnyX.take (i := 6) (v := ?_) rfl (by kernel_rfl) (by kernel_rfl) (by kernel_rfl) (by kernel_rfl) (by kernel_rfl) (fun _ _ _ h => h) hH0 (Or.inl ⟨by rfl, ?_⟩) ?_
  rotate_left
  ·(intro wS hS; (try obtain ⟨x0, x1, x2, x3, x4, x5, x6⟩ := hS); go_simp; try with_reducible rfl)
  simp only [List.getElem_toArray, List.getElem_cons_succ, List.getElem_cons_zero]
  simp only [Act.put, List.setIfInBounds_toArray]
  simp only [List.set_cons_zero, List.set_cons_succ]
  refine AnyX.move (i := 7) (v := ?_) rfl (by kernel_rfl) (by kernel_rfl) (by kernel_rfl) (by kernel_rfl) (fun _ _ _ h => h) (Or.inl ⟨by rfl, ?_⟩) ?_
  rotate_left
  ·(intro wS _; go_simp; try with_reducible rfl)
  simp only [List.getElem_toArray, List.getElem_cons_succ, List.getElem_cons_zero]
  simp only [Act.put, List.setIfInBounds_toArray]
  simp only [List.set_cons_zero, List.set_cons_succ]
  refine AnyX.take (i := 8) (v := ?_) rfl (by kernel_rfl) (by kernel_rfl) (by kernel_rfl) (by kernel_rfl) (by kernel_rfl) (fun _ _ _ h => h) hH0 (Or.inl ⟨by rfl, ?_⟩) ?_
  rotate_left
  ·(intro wS hS; (try obtain ⟨x0, x1, x2, x3, x4, x5, x6⟩ := hS); go_simp; try with_reducible rfl)
  simp only [List.getElem_toArray, List.getElem_cons_succ, List.getElem_cons_zero]
  simp only [Act.put, List.setIfInBounds_toArray]
  simp only [List.set_cons_zero, List.set_cons_succ]
  refine AnyX.move (i := 10) (v := ?_) rfl (by kernel_rfl) (by kernel_rfl) (by kernel_rfl) (by kernel_rfl) (fun _ _ _ h => h) (Or.inl ⟨by rfl, ?_⟩) ?_
  rotate_left
  ·(intro wS _; go_simp; try with_reducible rfl)
  simp only [List.getElem_toArray, List.getElem_cons_succ, List.getElem_cons_zero]
  simp only [Act.put, List.setIfInBounds_toArray]
  simp only [List.set_cons_zero, List.set_cons_succ]
  refine AnyX.take (i := 11) (v := ?_) rfl (by kernel_rfl) (by kernel_rfl) (by kernel_rfl) (by kernel_rfl) (by kernel_rfl) (fun _ _ _ h => h) hH0 (Or.inl ⟨by rfl, ?_⟩) ?_
  rotate_left
  ·(intro wS hS; (try obtain ⟨x0, x1, x2, x3, x4, x5, x6⟩ := hS); go_simp; try with_reducible rfl)
  simp only [List.getElem_toArray, List.getElem_cons_succ, List.getElem_cons_zero]
  simp only [Act.put, List.setIfInBounds_toArray]
  simp only [List.set_cons_zero, List.set_cons_succ]
  refine AnyX.move (i := 13) (v := ?_) rfl (by kernel_rfl) (by kernel_rfl) (by kernel_rfl) (by kernel_rfl) (fun _ _ _ h => h) (Or.inl ⟨by rfl, ?_⟩) ?_
  rotate_left
  ·(intro wS _; go_simp; try with_reducible rfl)
  simp only [List.getElem_toArray, List.getElem_cons_succ, List.getElem_cons_zero]
  simp only [Act.put, List.setIfInBounds_toArray]
  simp only [List.set_cons_zero, List.set_cons_succ]
  refine AnyX.take (i := 14) (v := ?_) rfl (by kernel_rfl) (by kernel_rfl) (by kernel_rfl) (by kernel_rfl) (by kernel_rfl) (fun _ _ _ h => h) hH0 (Or.inl ⟨by rfl, ?_⟩) ?_
  rotate_left
  ·(intro wS hS; (try obtain ⟨x0, x1, x2, x3, x4, x5, x6⟩ := hS); go_simp; try with_reducible rfl)
  simp only [List.getElem_toArray, List.getElem_cons_succ, List.getElem_cons_zero]
  simp only [Act.put, List.setIfInBounds_toArray]
  simp only [List.set_cons_zero, List.set_cons_succ]
  refine AnyX.move (i := 16) (v := ?_) rfl (by kernel_rfl) (by kernel_rfl) (by kernel_rfl) (by kernel_rfl) (fun _ _ _ h => h) (Or.inl ⟨by rfl, ?_⟩) ?_
  rotate_left
  ·(intro wS _; go_simp; try with_reducible rfl)
  simp only [List.getElem_toArray, List.getElem_cons_succ, List.getElem_cons_zero]
  simp only [Act.put, List.setIfInBounds_toArray]
  simp only [List.set_cons_zero, List.set_cons_succ]
  refine AnyX.move (i := 17) (v := ?_) rfl (by kernel_rfl) (by kernel_rfl) (by kernel_rfl) (by kernel_rfl) (fun _ _ _ h => h) (Or.inl ⟨by rfl, ?_⟩) ?_
  rotate_left
  ·(intro wS _; go_simp; try with_reducible rfl)
  simp only [List.getElem_toArray, List.getElem_cons_succ, List.getElem_cons_zero]
  simp only [Act.put, List.setIfInBounds_toArray]
  simp only [List.set_cons_zero, List.set_cons_succ]
  refine AnyX.take (i := 18) (v := ?_) rfl (by kernel_rfl) (by kernel_rfl) (by kernel_rfl) (by kernel_rfl) (by kernel_rfl) (fun _ _ _ h => h) hH0 (Or.inl ⟨by rfl, ?_⟩) ?_
  rotate_left
  ·(intro wS hS; (try obtain ⟨x0, x1, x2, x3, x4, x5, x6⟩ := hS); go_simp; try with_reducible rfl)
  simp only [List.getElem_toArray, List.getElem_cons_succ, List.getElem_cons_zero]
  simp only [Act.put, List.setIfInBounds_toArray]
  simp only [List.set_cons_zero, List.set_cons_succ]
  refine AnyX.go 4 (by kernel_rfl) rfl rfl (fun K hK => ?_)
  simp only [List.getElem_toArray, List.getElem_cons_succ, List.getElem_cons_zero]
  go_simp
  refine (C0.out W2.drew).mono ?_; rintro e w3 ⟨rfl, hb3⟩
  have HB3 : Hid (Below W2.heap.size W2 w3) := Lib.hid (Below.trans (Below.drew (Below.refl _ _)) hb3)
  have hH3 := KEEP.out w3 (HB3.out.block _ (by omega))
  clear hb3
  simp only []
  refine hK.out _ _ (fun hoff _ => hH3) ?_
  clear hK
  try simp only [Act.put, List.setIfInBounds_toArray]
  try simp only [List.set_cons_zero, List.set_cons_succ]
  refine AnyX.go 9 (by kernel_rfl) rfl rfl (fun K hK => ?_)
  simp only [List.getElem_toArray, List.getElem_cons_succ, List.getElem_cons_zero]
  go_simp
  refine (C1.out w3).mono ?_; rintro e w4 ⟨rfl, hb4⟩
  have HB4 : Hid (Below W2.heap.size W2 w4) := Lib.hid (below_over HB3.out hb4)
  have hH4 := KEEP.out w4 (HB4.out.block _ (by omega))
  clear hb4
  simp only []
  refine hK.out _ _ (fun hoff _ => hH4) ?_
  clear hK
  try simp only [Act.put, List.setIfInBounds_toArray]
  try simp only [List.set_cons_zero, List.set_cons_succ]
  refine AnyX.go 12 (by kernel_rfl) rfl rfl (fun K hK => ?_)
  simp only [List.getElem_toArray, List.getElem_cons_succ, List.getElem_cons_zero]
  go_simp
  refine (C2.out w4).mono ?_; rintro e w5 ⟨rfl, hb5⟩
  have HB5 : Hid (Below W2.heap.size W2 w5) := Lib.hid (below_over HB4.out hb5)
  have hH5 := KEEP.out w5 (HB5.out.block _ (by omega))
  clear hb5
  simp only []
  refine hK.out _ _ (fun hoff _ => hH5) ?_
  clear hK
  try simp only [Act.put, List.setIfInBounds_toArray]
  try simp only [List.set_cons_zero, List.set_cons_succ]
  refine AnyX.go 15 (by kernel_rfl) rfl rfl (fun K hK => ?_)
  simp only [List.getElem_toArray, List.getElem_cons_succ, List.getElem_cons_zero]
  go_simp
  refine (C3.out w5 (below_over HB2.out HB5.out)).mono ?_; rintro e w6 ⟨A5, c5, rfl, hN6, hb6⟩
  have HB6 : Hid (Below W2.heap.size W2 w6) := Lib.hid (below_over HB5.out hb6)
  have HN6 := Lib.hid hN6
  have hH6 := KEEP.out w6 (HB6.out.block _ (by omega))
  clear hb6 hN6
  simp only []
  refine hK.out _ _ (fun hoff _ => hH6) ?_
  clear hK
  try simp only [Act.put, List.setIfInBounds_toArray]
  try simp only [List.set_cons_zero, List.set_cons_succ]
  refine AnyX.go 19 (by kernel_rfl) rfl rfl (fun K hK => ?_)
  simp only [List.getElem_toArray, List.getElem_cons_succ, List.getElem_cons_zero]
  go_simp
  refine (C4.out w6 (below_over HB2.out HB6.out)).mono ?_; rintro e w7 ⟨A6, c6, rfl, hc6, hR7, hk7, hg7⟩
  have s2 := HB5.out.size
  have s6 := HB6.out.size
  have s7 := hg7.size
  have hkl := HKL.out
  have b1 : w7.heap[w.heap.size]? = W2.heap[w.heap.size]? := (hg7.block _ (by omega) (fun e => by cases e; omega)).trans (HB6.out.block _ (by omega))
  have X7 : w7.heap[w.heap.size + 1]? = some (.cells #[.int .i64 0, .string ⟨#[]⟩, .int .i64 0, .string ⟨#[]⟩, .string ⟨#[]⟩, .slice none 0 0, .slice none 0 0] 25 (0, 0)) := ((hg7.block _ (by omega) (fun e => by cases e; omega)).trans (HB6.out.block _ hl2)).trans HO1.out
  have hH7 := KEEP.out w7 b1
  have HB17 := Lib.hid b1
  have HX7 := Lib.hid X7
  have T7 : Hid (TyAt (strikeH (· < W2.heap.size) w7) [.int .i64 t.kind, .string t.pkg, .int .i64 t.major, .string t.mod, .string t.name, .slice A5 t.names.length c5, .slice A6 t.subs.length c6] t) := Lib.hid (by
   obtain ⟨z1, z2, z3, z4, z5⟩ := HSZ.out
   refine ty_made z1 z2 z3 z4 z5 hc6 ?_ ?_
   ·exact names_keepH HN6.out hg7.size fun b hb hS => ⟨by omega, hg7.block b hb (fun e => by cases e; omega)⟩
   ·exact hR7.moveH (Nat.le_refl _) fun b hb hS => ⟨by omega, rfl⟩)
  have FIN : Hid (CyOutH kb mv L t w (.returned (.agg #[.int .i64 t.kind, .string t.pkg, .int .i64 t.major, .string t.mod, .string t.name, .slice A5 t.names.length c5, .slice A6 t.subs.length c6])) (w7.setRow (w.heap.size + 1) #[.int .i64 t.kind, .string t.pkg, .int .i64 t.major, .string t.mod, .string t.name, .slice A5 t.names.length c5, .slice A6 t.subs.length c6])) := Lib.hid (by
   refine ⟨[.int .i64 t.kind, .string t.pkg, .int .i64 t.major, .string t.mod, .string t.name, .slice A5 t.names.length c5, .slice A6 t.subs.length c6], rfl, T7.out.moveH (by simp) fun b hb hS => ⟨by omega, setRow_other _ _ _ _ (by omega)⟩, ?_, ?_⟩
   ·rw [setRow_other _ _ _ _ (by omega), hk7, HME.out]
   ·exact row_grown (grown_over (grown_of (below_over HB2.out HB6.out)) hg7) (by omega) _)
  clear hc6 hR7 hk7 hg7 b1 C0 C1 C2 C3 C4 s2 s6 s7 hkl
  simp only []
  refine hK.out _ _ (fun hoff _ => hH7) ?_
  clear hK
  try simp only [Act.put, List.setIfInBounds_toArray]
  try simp only [List.set_cons_zero, List.set_cons_succ]
  refine AnyX.move (i := 20) (v := ?_) rfl (by kernel_rfl) (by kernel_rfl) (by kernel_rfl) (by kernel_rfl) (fun _ _ _ h => h) (Or.inl ⟨by rfl, ?_⟩) ?_
  rotate_left
  ·(intro wS _; go_simp; try with_reducible rfl)
  simp only [List.getElem_toArray, List.getElem_cons_succ, List.getElem_cons_zero]
  simp only [Act.put, List.setIfInBounds_toArray]
  simp only [List.set_cons_zero, List.set_cons_succ]
  refine AnyX.go 21 (by kernel_rfl) rfl rfl (fun K hK => ?_)
  simp only [List.getElem_toArray, List.getElem_cons_succ, List.getElem_cons_zero]
  refine wp_store_row 25 (.tmp 4) (.tmp 25) rfl (w.heap.size + 1) #[.int .i64 t.kind, .string t.pkg, .int .i64 t.major, .string t.mod, .string t.name, .slice A5 t.names.length c5, .slice A6 t.subs.length c6] rfl rfl _ _ X7 tySize rfl tyOne ?_
  refine hK.out _ _ (fun hoff _ => KEEP.out _ ((setRow_other _ _ _ _ (by omega)).trans HB17.out)) ?_
  clear hK
  try simp only [Act.put, List.setIfInBounds_toArray]
  try simp only [List.set_cons_zero, List.set_cons_succ]
  refine AnyX.done (by kernel_rfl) ?_ _
  go_wp2_with fail
  exact ret_agg1 (fn := Try.f49) (vs := [.int .i64 t.kind, .string t.pkg, .int .i64 t.major, .string t.mod, .string t.name, .slice A5 t.names.length c5, .slice A6 t.subs.length c6]) (b := w.heap.size + 1) rfl rfl Try.underlying25 (by kernel_rfl) (cell7 (setRow_heap w7 (w.heap.size + 1) _ _ _ _ HX7.out)) rfl FIN.out
def FrOutH (t : Ty) (w : World) (e : Ending) (w' : World) : Prop :=
 ∃ l : List Value, e = .returned (.agg l.toArray) ∧ TyAt (strikeH (· < w.heap.size) w') l t ∧ Below w.heap.size w w'
set_option maxRecDepth 100000 in
set_option maxHeartbeats 8000000 in
theorem fresh_anyH (t : Ty) (hM : many t ≤ 65536) (hF : fitT t) (l : List Value) (w : World) (hT : TyAt w l t) :
  Calls Try.prog 40 #[.agg l.toArray] w (FrOutH t w) := by
 have HT := Lib.hid hT
 obtain ⟨An, cn, As, cs, rfl, -, -, -, -, -, -, -⟩ := hT.parts
 obtain ⟨W2, hW2, B2, O0, O1, hl2⟩ := two_boxes w #[.int .i64 t.kind, .string t.pkg, .int .i64 t.major, .string t.mod, .string t.name, .slice An t.names.length cn, .slice As t.subs.length cs] #[.int .i64 0, .string ⟨#[]⟩, .int .i64 0, .string ⟨#[]⟩, .string ⟨#[]⟩, .slice none 0 0, .slice none 0 0] 25 25
 have s2 : W2.heap.size = w.heap.size + 1 + 1 := by rw [hW2]; simp
 obtain ⟨W3, hW3⟩ : ∃ W3, W3 = W2.alloc (.map #[] 0) := ⟨_, rfl⟩
 have B3 : Below W2.heap.size W2 W3 := by rw [hW3]; exact below_new (Below.refl _ _) _
 have s3 : W3.heap.size = w.heap.size + 1 + 1 + 1 := by rw [hW3]; simp [s2]
 obtain ⟨W4, hW4⟩ : ∃ W4, W4 = W3.alloc (.cells #[.int .i64 65536, .map (some (w.heap.size + 1 + 1))] 47) := ⟨_, rfl⟩
 have B4 : Below W3.heap.size W3 W4 := by rw [hW4]; exact below_new (Below.refl _ _) _
 have s4 : W4.heap.size = w.heap.size + 1 + 1 + 1 + 1 := by rw [hW4]; simp [s3]
 have K4 : W4.heap[w.heap.size + 1 + 1 + 1]? = some (cpO 65536 (.map (some (w.heap.size + 1 + 1)))) := by rw [hW4, ← s3]; exact heap_alloc_new W3 _
 have HB4 : Hid (Below w.heap.size w W4) := Lib.hid (below_over (below_over B2 B3) B4)
 have X4 : W4.heap[w.heap.size]? = some (.cells #[.int .i64 t.kind, .string t.pkg, .int .i64 t.major, .string t.mod, .string t.name, .slice An t.names.length cn, .slice As t.subs.length cs] 25 (0, 0)) := (B4.block _ (by omega)).trans ((B3.block _ (by omega)).trans O0)
 have HR4 : Hid (W4.heap[w.heap.size + 1]? = some (.cells #[.int .i64 0, .string ⟨#[]⟩, .int .i64 0, .string ⟨#[]⟩, .string ⟨#[]⟩, .slice none 0 0, .slice none 0 0] 25 (0, 0))) := Lib.hid ((B4.block _ (by omega)).trans ((B3.block _ (by omega)).trans O1))
 have HW2 := Lib.hid hW2
 have HW3 := Lib.hid hW3
 have HW4 := Lib.hid hW4
 have CL := Lib.hid (copyC_anyH w (w.heap.size + 1 + 1 + 1) (.map (some (w.heap.size + 1 + 1))) (by omega) (many t) t (Nat.le_refl _) hF 65536 _ W4 (by omega) (by omega) HT.out HB4.out (by omega) K4)
 have HX4 := Lib.hid X4
 have HS4 := Lib.hid s4
 clear hW2 hW3 hW4 B2 B3 B4 O0 O1 X4 K4 hT hF hM s4 hl2
 go_enter Try.func40, Try.ntmps40
 go_upto_region 1 with fail
 rw [← HW2.out]
 have hmm := @run_makeMap Try.prog
 go_upto_region 2 with fail
 clear hmm
 simp only [s2, s3, ← HW3.out, ← HW4.out]
 have X4 := HX4.out
 have x0 := Lib.cell_of_heap X4 0
 have x1 := Lib.cell_of_heap X4 1
 have x2 := Lib.cell_of_heap X4 2
 have x3 := Lib.cell_of_heap X4 3
 have x4 := Lib.cell_of_heap X4 4
 have x5 := Lib.cell_of_heap X4 5
 have x6 := Lib.cell_of_heap X4 6
 simp at x0 x1 x2 x3 x4 x5 x6
 clear X4
 go_wp2_with fail
 refine CL.out.mono ?_; rintro e w5 ⟨l', rfl, hT5, -, hg5⟩
 obtain ⟨Cn, cC, Cs, dC, rfl, -⟩ := hT5.parts
 have s4 := HS4.out
 have X5 : w5.heap[w.heap.size + 1]? = some (.cells #[.int .i64 0, .string ⟨#[]⟩, .int .i64 0, .string ⟨#[]⟩, .string ⟨#[]⟩, .slice none 0 0, .slice none 0 0] 25 (0, 0)) := (hg5.block _ (by omega) (fun e => absurd (Option.some.inj e) (by omega))).trans HR4.out
 have HX5 := Lib.hid X5
 have FIN : Hid (FrOutH t w (.returned (.agg #[.int .i64 t.kind, .string t.pkg, .int .i64 t.major, .string t.mod, .string t.name, .slice Cn t.names.length cC, .slice Cs t.subs.length dC])) (w5.setRow (w.heap.size + 1) #[.int .i64 t.kind, .string t.pkg, .int .i64 t.major, .string t.mod, .string t.name, .slice Cn t.names.length cC, .slice Cs t.subs.length dC])) := Lib.hid
  ⟨[.int .i64 t.kind, .string t.pkg, .int .i64 t.major, .string t.mod, .string t.name, .slice Cn t.names.length cC, .slice Cs t.subs.length dC], rfl, hT5.moveH (by simp) fun b hb hS => ⟨by omega, setRow_other _ _ _ _ (by omega)⟩, setRow_below ⟨hg5.os.trans HB4.out.os, hg5.tape.trans HB4.out.tape, hg5.output.trans HB4.out.output, Nat.le_trans HB4.out.size hg5.size, fun b hb => (hg5.block b (by omega) (fun e => absurd (Option.some.inj e) (by omega))).trans (HB4.out.block b hb)⟩ (by omega) _⟩
 clear hT5 hg5 CL x0 x1 x2 x3 x4 x5 x6 s4
 go_wp2_with (first | (((with_reducible refine wpList_putRow 25 (w.heap.size + 1) #[.int .i64 t.kind, .string t.pkg, .int .i64 t.major, .string t.mod, .string t.name, .slice Cn t.names.length cC, .slice Cs t.subs.length dC] _ _ X5 ?_ ?_ ?_ ?_ ?_ ?_); exact tySize; rfl; exact tyOne; (focus (first | (go_simp; done) | rfl)); (focus (first | (go_simp; done) | rfl)))))
 exact ret_agg1 (fn := Try.f40) (vs := [.int .i64 t.kind, .string t.pkg, .int .i64 t.major, .string t.mod, .string t.name, .slice Cn t.names.length cC, .slice Cs t.subs.length dC]) (b := w.heap.size + 1) rfl rfl Try.underlying25 (by kernel_rfl) (cell7 (setRow_heap w5 (w.heap.size + 1) _ _ _ _ HX5.out)) rfl FIN.out
end Go.Proofs.Ytcdmgcgjonndpaa
