/-
  Several texts in one.
-/
import Derived.Test.YteecgiebimdbhaaGreatDoorK16
import Derived.Lib.SliceRun
import Derived.Deep.Upon
set_option maxRecDepth 100000
set_option maxHeartbeats 8000000
namespace Go.Proofs.YteecgiebimdbhaaGreatDoor
open Go Go.RowKit Go.Shelf
open Go.Sort Go.Maps
open M
def tR : Reads Ty := ⟨7, 55, TyAt, fun _ _ _ _ _ _ h hz hb => h.move hz hb, fun _ _ _ _ h hb => h.keep hb, fun _ _ _ _ h => h.free, fun _ _ _ h => h.len⟩
def stE (_ : World) (l : List Value) (s : ByteArray) : Prop := l = [.string s] /\ s.size <= 9223372036854775807
def stR : Reads ByteArray := ⟨1, 9, stE, fun _ _ _ _ _ _ h _ _ => h, fun _ _ _ _ h _ => h, fun _ _ _ _ h => h, fun _ l x h => by rw [h.1]; rfl⟩
theorem SubsAt.row {w : World} {A : Option Addr} {l : List Ty} (h : SubsAt w A l) : RowIn tR w A l := fun i t ht => by
  obtain ⟨g, o, v0, v1, v2, v3, v4, v5, v6, hA, hg, h0, h1, h2, h3, h4, h5, h6, hT⟩ := h i t ht;refine ⟨g, o, [v0, v1, v2, v3, v4, v5, v6], hA, hg, fun j v hv => ?_, hT⟩;have hj := (List.getElem?_eq_some_iff.1 hv).1;simp at hj;match j, hv with
  | 0, hv => simp at hv; subst hv; exact h0
  | 1, hv => simp at hv; subst hv; exact h1
  | 2, hv => simp at hv; subst hv; exact h2
  | 3, hv => simp at hv; subst hv; exact h3
  | 4, hv => simp at hv; subst hv; exact h4
  | 5, hv => simp at hv; subst hv; exact h5
  | 6, hv => simp at hv; subst hv; exact h6
  | j + 7, _ => omega
theorem NamesAt.row {w : World} {A : Option Addr} {l : List ByteArray} (h : NamesAt w A l) : RowIn stR w A l := fun i s hs => by
  obtain ⟨g, o, hA, hg, hc, hz⟩ := h i s hs;refine ⟨g, o, [.string s], hA, hg, fun j v hv => ?_, rfl, hz⟩;cases j with
  | zero =>
    simp at hv; subst hv
    show w.cell? ⟨g, o + i * 1 + 0, none⟩ = _
    rw [show o + i * 1 + 0 = o + i by omega]; exact hc
  | succ j => simp at hv
theorem RowIn.names {w : World} {A : Option Addr} {l : List ByteArray} (h : RowIn stR w A l) : NamesAt w A l := fun i s hs => by
  obtain ⟨g, o, l, hA, hg, hc, rfl, hz⟩ := h i s hs;refine ⟨g, o, hA, hg, ?_, hz⟩;have := hc 0 _ rfl
  rw [show o + i * stR.k + 0 = o + i by show o + i * 1 + 0 = o + i; omega] at this;exact this
theorem RowIn.none_nil {α : Type} {R : Reads α} {w : World} {xs : List α} (h : RowIn R w none xs) : xs = [] := by
  cases xs with
  | nil => rfl
  | cons x r => obtain ⟨g, o, l, e, -⟩ := h 0 x rfl; cases e
theorem ty_made {w : World} {t : Ty} {An As : Option Addr} {cn cs : Nat} (hp : t.pkg.size <= 9223372036854775807) (hm : t.mod.size <= 9223372036854775807) (hn : t.name.size <= 9223372036854775807) (hln : t.names.length <= 9223372036854775807) (hls : t.subs.length <= 9223372036854775807) (hcs : t.subs.length <= cs)
    (hN : NamesAt w An t.names) (hS : RowIn tR w As t.subs) : TyAt w [.int .i64 t.kind, .string t.pkg, .int .i64 t.major, .string t.mod, .string t.name, .slice An t.names.length cn, .slice As t.subs.length cs] t := by
  have hall : ∀ i : Nat, ∃ l : List Value, l.length = 7 /\ ∀ s, t.subs[i]? = some s -> TyAt w l s /\ ∃ g o, As = some ⟨g, o, none⟩ /\ g < w.heap.size /\ ∀ j v, l[j]? = some v -> w.cell? ⟨g, o + i * 7 + j, none⟩ = some v := fun i => by
    cases hs : t.subs[i]? with
    | none => exact ⟨[.int .i64 0, .string ⟨#[]⟩, .int .i64 0, .string ⟨#[]⟩, .string ⟨#[]⟩, .slice none 0 0, .slice none 0 0], rfl, fun s h => by cases h⟩
    | some s =>
      obtain ⟨g, o, l, hA, hg, hc, hE⟩ := hS i s hs;refine ⟨l, hE.len, fun s' h => ?_⟩;cases h
      exact ⟨hE, g, o, hA, hg, hc⟩
  obtain ⟨C, hC⟩ := Classical.axiomOfChoice hall;have hd : t = .mk t.kind t.pkg t.major t.mod t.name t.names t.subs := by cases t; rfl
  rw [show TyAt w [.int .i64 t.kind, .string t.pkg, .int .i64 t.major, .string t.mod, .string t.name, .slice An t.names.length cn, .slice As t.subs.length cs] t = TyAt w [.int .i64 t.kind, .string t.pkg, .int .i64 t.major, .string t.mod, .string t.name, .slice An t.names.length cn, .slice As t.subs.length cs] (.mk t.kind t.pkg t.major t.mod t.name t.names t.subs) by rw [<- hd]];exact .mk t.kind t.pkg t.major t.mod t.name t.names t.subs An cn As cs C hp hm hn hln hls hcs hN (fun i => (hC i).1) (fun i s hs => ((hC i).2 s hs).2) (fun i s hs => ((hC i).2 s hs).1)
structure Fill {α : Type} (R : Reads α) (lo g : Nat) (xs : List α) (j : Nat) (w : World) : Prop where
  hlo : lo <= g
  hg : g < w.heap.size
  there : w.there g 0 (xs.length * R.k)
  rows : ∀ i x, i < j -> xs[i]? = some x -> ∃ l : List Value, (∀ q v, l[q]? = some v -> w.cell? ⟨g, i * R.k + q, none⟩ = some v) /\ R.E (strike (fun b => b < lo \/ b = g) w) l x
theorem Fill.start {α : Type} (R : Reads α) {lo : Nat} {w : World} (hlo : lo <= w.heap.size) (cells : Array Value) (T : TypeId) (xs : List α) (hs : cells.size = xs.length * R.k) : Fill R lo w.heap.size xs 0 (w.alloc (.cells cells T)) := by
  have hb : (w.alloc (.cells cells T)).heap[w.heap.size]? = some (.cells cells T (0, 0)) := heap_alloc_new w _;refine ⟨hlo, by simp, fun j hj => ⟨?_, ?_⟩, fun i x hi => by omega⟩
  · rw [cZ hb, Nat.zero_add, Array.getElem?_eq_getElem (by omega)]; rfl
  · exact Lib.frozen_of_heap hb _
theorem Fill.keep {α : Type} {R : Reads α} {lo g j : Nat} {xs : List α} {w w' : World} (h : Fill R lo g xs j w) (hz : w.heap.size <= w'.heap.size) (hb : ∀ b, lo <= b -> b < w.heap.size -> w'.heap[b]? = w.heap[b]?) : Fill R lo g xs j w' := by
  have eg := hb g h.hlo h.hg;refine ⟨h.hlo, Nat.lt_of_lt_of_le h.hg hz, fun q hq => ?_, fun i x hi hx => ?_⟩
  · have := h.there q hq
    rw [World.cell?_of_block (w := w) (w' := w') (a := ⟨g, 0 + q, none⟩) eg];refine ⟨this.1, ?_⟩;have e2 : w'.frozen? ⟨g, 0 + q, none⟩ = w.frozen? ⟨g, 0 + q, none⟩ := by simp only [World.frozen?]; rw [eg]
    rw [e2]; exact this.2
  · obtain ⟨l, hc, hE⟩ := h.rows i x hi hx
    exact ⟨l, fun q v hv => (World.cell?_of_block (w := w) (w' := w') (a := ⟨g, _, none⟩) eg).trans (hc q v hv), R.move _ _ _ _ _ _ hE hz fun b hlt hS => ⟨hS, hb b (by
      rcases Nat.lt_or_ge b lo with c | c
      · exact absurd (.inl c) hS
      · exact c) hlt⟩⟩
theorem Fill.at {α : Type} {R : Reads α} {lo g j m : Nat} {xs : List α} {w : World} (h : Fill R lo g xs j w) (hj : j < xs.length) (hm : m = R.k) : w.there g (j * R.k) m := fun q hq => by
  have h1 : (j + 1) * R.k <= xs.length * R.k := Nat.mul_le_mul_right _ hj;rw [Nat.succ_mul] at h1;have := h.there (j * R.k + q) (by omega)
  rw [Nat.zero_add] at this;exact this
theorem Fill.put {α : Type} {R : Reads α} {lo g j B : Nat} {xs : List α} {w : World} {l : List Value} {x : α} (h : Fill R lo g xs j w) (hx : xs[j]? = some x) (hE : R.E (strike (· < B) w) l x) (hB : g < B) : Fill R lo g xs (j + 1) (w.setCells g (j * R.k) l) := by
  have hlen := R.len _ _ _ hE;have hj := (List.getElem?_eq_some_iff.1 hx).1;have hat := h.at hj hlen;have ot : ∀ b, b < w.heap.size -> b ≠ g -> (w.setCells g (j * R.k) l).heap[b]? = w.heap[b]? := fun b hb hne => World.heap_setCells_other w g (j * R.k) l hb hne
  have hsz : (w.setCells g (j * R.k) l).heap.size = w.heap.size := size_setCells g l _ w;refine ⟨h.hlo, by rw [hsz]; exact h.hg, World.there_setCells h.there _ _ _, fun i y hi hy => ?_⟩;rcases Nat.lt_or_ge i j with c | c
  · obtain ⟨l', hc, hE'⟩ := h.rows i y c hy
    have hl' := R.len _ _ _ hE'
    refine ⟨l', fun q v hv => ?_, R.move _ _ _ _ _ _ hE' (by rw [hsz]; exact Nat.le_refl _) fun b hb hS => ⟨hS, ot b hb fun e => hS (.inr e)⟩⟩;have hq := (List.getElem?_eq_some_iff.1 hv).1;rw [World.cell?_setCells_out]
    · exact hc q v hv
    · intro _ _
      have h1 : (i + 1) * R.k <= j * R.k := Nat.mul_le_mul_right _ c;rw [Nat.succ_mul] at h1;exact .inl (by show i * R.k + q < j * R.k; omega)
  · obtain rfl : i = j := by omega
    rw [hx] at hy;cases hy
    refine ⟨l, fun q v hv => ?_, R.move _ _ _ _ _ _ hE (by rw [hsz]; exact Nat.le_refl _) fun b hb hS => ⟨?_, ot b hb (by omega)⟩⟩
    · have hq := (List.getElem?_eq_some_iff.1 hv).1
      rw [World.cell?_setCells_in g l (i * R.k) w (fun q hq => (hat q hq).1) q hq];rw [<- hv, List.getElem?_eq_getElem hq]
    · have := h.hlo
      omega
theorem Fill.done {α : Type} {R : Reads α} {lo g j m : Nat} {xs : List α} {w : World} (h : Fill R lo g xs j w) (hj : xs.length <= j) (hm : m <= lo) : RowIn R (strike (· < m) w) (some ⟨g, 0, none⟩) xs := fun i x hx => by
  have hi := (List.getElem?_eq_some_iff.1 hx).1;obtain ⟨l, hc, hE⟩ := h.rows i x (by omega) hx;have := h.hlo
  refine ⟨g, 0, l, rfl, by rw [strike_size]; exact h.hg, fun q v hv => strike_cell.2 ⟨by omega, ?_⟩, R.move _ _ _ _ _ _ hE (Nat.le_refl _) fun b _ hS => ⟨fun e => hS (.inl (by omega)), rfl⟩⟩;rw [Nat.zero_add]; exact hc q v hv
theorem setCells_below {n : Nat} {w w' : World} (h : Below n w w') {g : Nat} (hg : n <= g) (o : Nat) (l : List Value) : Below n w (w'.setCells g o l) :=
  h.trans ⟨World.os_setCells _ _ _ _, by
    induction l generalizing o w' with
    | nil => rfl
    | cons v r ih => exact (ih (h.setCell hg v) (o + 1)).trans rfl, World.output_setCells _ _ _ _, by rw [size_setCells]; exact Nat.le_refl _, fun b hb => by
    rcases Nat.lt_or_ge b w'.heap.size with c | c
    · exact World.heap_setCells_other w' g o l c (by omega)
    · rw [Array.getElem?_eq_none c, Array.getElem?_eq_none (by rw [size_setCells]; exact c)]⟩
theorem cln_any (s : ByteArray) (w : World) (hs : s.size <= 281474976710656) : Calls Tryz.prog 104 #[.string s] w fun e w' => e = .returned (.string s) /\ Below w.heap.size w w' := by
  go_enter Tryz.func104, Tryz.ntmps104
  go_wp2_with fail
  refine (Tryz.stringslite_Clone _ _ hs).mono ?_; rintro e w1 ⟨rfl, hb1⟩
  go_wp2_with fail
  go_ret;exact ⟨rfl, hb1⟩
theorem listS_any (w0 w : World) (A : Option Addr) (n c : Nat) (xs : List ByteArray) (hn : xs.length = n) (hz : n <= 1000000) (hS : NamesAt w0 A xs) (hw : Below w0.heap.size w0 w) (hsz : ∀ s ∈ xs, s.size <= 281474976710656) :
    Calls Tryz.prog 252 #[.slice A n c, .func (.func 104) #[] #[]] w fun e w' => ∃ (A' : Option Addr) (c' : Nat), e = .returned (.slice A' n c') /\ NamesAt (strike (· < w.heap.size) w') A' xs /\ Below w.heap.size w w' := by
  have HN := hZ hn;have HS := hZ hS;have HW := hZ hw;have HSZ := hZ hsz;have EQ : ∀ wz : World, (binOp .eql 52 (.slice A n c) (.slice none 0 0)).run Tryz.prog wz = .ok (.bool A.isNone) wz := fun wz => Lib.run_eql_slice_nil wz _ _ _ _ _ _ _ Tryz.underlying52
  cases A with
  | none =>
    have h0 : xs = [] := hS.row.none_nil;have hn0 : n = 0 := by rw [<- hn, h0]; rfl
    have HX := hZ h0;subst hn0;clear hS hn h0 hw hsz;go_enter Tryz.func252, Tryz.ntmps252
    go_wp2_with fail
    go_ret;exact ⟨_, _, rfl, fun i s h => by rw [HX.out] at h; simp at h, Below.refl _ _⟩
  | some ad =>
    obtain ⟨i0, hi, hz0, hz1, hz2⟩ := info_parts str_info;obtain ⟨W1, hW1⟩ : ∃ W1, W1 = w.alloc (.cells (madeCells (Value.string ⟨#[]⟩).cells (n * 1)) 9) := ⟨_, rfl⟩;have MS := run_make (P := Tryz.prog) w 52 9 i0 (.string ⟨#[]⟩) Tryz.underlying52 hi hz0 .i64 .i64 (n : Int) (n : Int) (by omega) (by omega) (by rw [hz2]; omega) (by omega);rw [hz1] at MS;simp only [Int.toNat_natCast] at MS;rw [<- hW1] at MS;have START : Hid (Fill stR w.heap.size w.heap.size xs 0 W1) := hZ (by rw [hW1]; exact Fill.start stR (Nat.le_refl _) _ _ xs (by rw [size_madeCells, hn]; rfl));have HB1 : Hid (Below w.heap.size w W1) := hZ (by rw [hW1]; exact below_new (Below.refl _ _) _);have EQ' : ∀ wz : World, (binOp .eql 52 (.slice (some ad) n c) (.slice none 0 0)).run Tryz.prog wz = .ok (.bool false) wz := EQ
    clear EQ hW1 hS hn hw hsz;go_enter Tryz.func252, Tryz.ntmps252
    go_wp2_with fail
    go_loopw [15] (fun s15 wr => ∃ k : Nat, k <= n /\ s15 = .int .i64 k /\ Hid (Fill stR w.heap.size w.heap.size xs k wr) /\ Hid (Below w.heap.size w wr)) (fun s15 _ => n - (intOf s15).toNat)
    case atStart => exact ⟨0, by omega, rfl, START, HB1⟩
    case round =>
      obtain ⟨k, hk, rfl, HF, HB⟩ := hrel;obtain ⟨wo, rfl⟩ : ∃ wo : World, wo = wr := ⟨_, rfl⟩;clear MS EQ' START HB1;by_cases hlt : k < n
      · obtain ⟨s, hs⟩ : ∃ s, xs[k]? = some s := ⟨_, List.getElem?_eq_getElem (by rw [HN.out]; exact hlt)⟩
        obtain ⟨g, o, e1, hg, hc, -⟩ := HS.out k s hs;obtain rfl := Option.some.inj e1;have hc' := ((below_over HW.out HB.out).cell (p := ⟨g, _, none⟩) hg).trans hc
        have CL := hZ (cln_any s wo (HSZ.out s (List.mem_of_getElem? hs)));have HSS := hZ hs;clear hs hc hg e1;go_upto_region 7 with fail
        clear hc';go_wp2_with fail
        refine CL.out.mono ?_; rintro e w2 ⟨rfl, hb2⟩
        have hlw : w.heap.size < wo.heap.size := HF.out.hg;have F2 := HF.out.keep hb2.size (fun b _ hb => hb2.block b hb);have HT := F2.at (m := 1) (by rw [HN.out]; exact hlt) rfl;have t0 := (HT 0 (by omega)).1;have f0 := (HT 0 (by omega)).2;rw [show k * stR.k + 0 = k by show k * 1 + 0 = k; omega] at t0 f0;obtain ⟨u0, t0⟩ := Option.isSome_iff_exists.1 t0
        have F3 : Hid (Fill stR w.heap.size w.heap.size xs (k + 1) (w2.setCell ⟨w.heap.size, k, none⟩ (.string s))) := hZ (by
          have := F2.put HSS.out (l := [.string s]) (B := wo.heap.size) ⟨rfl, by have := HSZ.out s (List.mem_of_getElem? HSS.out); omega⟩ hlw
          rw [show k * stR.k = k by show k * 1 = k; omega] at this;exact this)
        have B3 : Hid (Below w.heap.size w (w2.setCell ⟨w.heap.size, k, none⟩ (.string s))) := hZ (below_put (below_over HB.out hb2) (Nat.le_refl _) _);clear F2 HT hb2 CL;go_wp2_with fail
        go_roundw
        case rel => exact ⟨k + 1, by omega, by go_num, F3, B3⟩
        case measure => simp [intOf]; omega
      · have hkn : k = n := by omega
        have DONE := hZ (HF.out.done (m := w.heap.size) (by rw [HN.out]; omega) (Nat.le_refl _));clear hkn;go_wp2_with fail
        go_ret;exact ⟨_, _, rfl, DONE.out.names, HB.out⟩
end Go.Proofs.YteecgiebimdbhaaGreatDoor
namespace Go.Proofs.YteecgiebimdbhaaGreatDoor
open Go.RowKit
open Go.Sort Go.Maps
open M
def isDe (s : ByteArray) (d : De) : Bool := decide (d.name = s)
def isAs (s : ByteArray) (x : Im) : Bool := decide (x.asn = s)
theorem pIf_one (y : If) (At : Option Addr) (ct : Nat) (Av : Option Addr) (cv : Nat) (x : Im) (xb : Nat) (w : World) (hx : w.heap[xb]? = some (.cells #[.string x.pkg, .int .i64 x.major, .string x.mod, .string x.asn] 71 (0, 0))) :
  Calls Tryz.prog 129 #[.agg #[.string y.pkg, .int .i64 y.major, .string y.mod, .slice At y.types.length ct, .slice Av y.vals.length cv], .pointer (some ⟨xb, 0, none⟩)] w fun e w' => e = .returned (.bool (isIf x.pkg x.major x.mod y)) /\ Below w.heap.size w w' := by
 obtain ⟨wb, hwb⟩ : ∃ wb, wb = w.alloc (.cells #[.string y.pkg, .int .i64 y.major, .string y.mod, .slice At y.types.length ct, .slice Av y.vals.length cv] 50) := ⟨_, rfl⟩
 have B0 : Below w.heap.size w wb := by rw [hwb]; exact below_new (Below.refl _ _) _
 have X0 : wb.heap[w.heap.size]? = some (.cells #[.string y.pkg, .int .i64 y.major, .string y.mod, .slice At y.types.length ct, .slice Av y.vals.length cv] 50 (0, 0)) := by rw [hwb]; exact heap_alloc_new w _
 have X1 := (B0.block _ (Array.getElem?_eq_some_iff.1 hx).1).trans hx
 obtain ⟨y0, y1, y2⟩ := cq3 X0
 obtain ⟨x0, x1, x2⟩ := cq3 X1
 simp at y0 y1 y2 x0 x1 x2
 have HB0 := hZ B0
 have HWB := hZ hwb
 have hq := str_eq y.pkg x.pkg
 have hr := str_eq y.mod x.mod
 obtain ⟨b2, hb2⟩ : ∃ b, (y.major == x.major) = b := ⟨_, rfl⟩
 obtain ⟨b1, hb1⟩ : ∃ b, b = decide (y.pkg = x.pkg) := ⟨_, rfl⟩
 obtain ⟨b3, hb3⟩ : ∃ b, b = decide (y.mod = x.mod) := ⟨_, rfl⟩
 rw [<- hb1] at hq
 rw [<- hb3] at hr
 obtain ⟨V, hV⟩ : ∃ V, V = isIf x.pkg x.major x.mod y := ⟨_, rfl⟩
 have HV : Hid (V = (b1 && (b2 && b3))) := hZ (by rw [hV, hb1, hb3, <- hb2]; rfl)
 rw [<- hV]
 clear hx hwb B0 X0 X1 hb1 hb3 hV
 cases b1 with
 | false =>
  have RV : V = false := HV.out;subst RV;go_enter Tryz.func129, Tryz.ntmps129
  go_upto_region 1 with fail
  rw [<- HWB.out];go_wp2_with fail
  go_ret;exact ⟨rfl, HB0.out⟩
 | true =>
  cases b2 with
  | false =>
   have RV : V = false := HV.out;subst RV;go_enter Tryz.func129, Tryz.ntmps129
   go_upto_region 1 with fail
   rw [<- HWB.out];go_wp2_with fail
   go_ret;exact ⟨rfl, HB0.out⟩
  | true =>
   have RV : V = b3 := HV.out;subst RV;go_enter Tryz.func129, Tryz.ntmps129
   go_upto_region 1 with fail
   rw [<- HWB.out];go_wp2_with fail
   go_ret;exact ⟨by first | rfl | exact ret_bool rfl, HB0.out⟩
theorem pIf_index (A : Option Addr) (c : Nat) (l : List If) (x : Im) (xb : Nat) (w : World) (h : RowIn ifR w A l) (hl : l.length <= 9223372036854775807) (hx : w.heap[xb]? = some (.cells #[.string x.pkg, .int .i64 x.major, .string x.mod, .string x.asn] 71 (0, 0))) :
  Calls Tryz.prog 179 #[.slice A l.length c, .func (.func 129) #[] #[.pointer (some ⟨xb, 0, none⟩)]] w fun e w' => e = .returned (.int .i64 (optN (l.findIdx? (isIf x.pkg x.major x.mod)))) /\ Below w.heap.size w w' := by
 have HR := hZ h
 have HX0 := hZ hx
 obtain ⟨n, hn⟩ : ∃ n, n = l.length := ⟨_, rfl⟩
 have HN := hZ hn
 obtain ⟨V, hV⟩ : ∃ V, V = optN (l.findIdx? (isIf x.pkg x.major x.mod)) := ⟨_, rfl⟩
 have HV := hZ hV
 rw [<- hn] at hl ⊢
 rw [<- hV]
 clear h hn hx hV
 go_enter Tryz.func179, Tryz.ntmps179
 go_wp2_with fail
 go_loopw [8] (fun s8 wr => ∃ k : Nat, k <= n /\ s8 = .int .i64 k /\ Hid (∀ z ∈ l.take k, (isIf x.pkg x.major x.mod) z = false) /\ Hid (Below w.heap.size w wr)) (fun s8 _ => n - (intOf s8).toNat)
 case atStart => exact ⟨0, by omega, rfl, hZ (by simp), hZ (Below.refl _ _)⟩
 case round =>
  obtain ⟨k, hk, rfl, HNO, HB⟩ := hrel;obtain ⟨wo, rfl⟩ : ∃ wo : World, wo = wr := ⟨_, rfl⟩;by_cases hlt : k < n
  ·obtain ⟨y, hx⟩ : ∃ y, l[k]? = some y := ⟨_, List.getElem?_eq_getElem (by rw [<- HN.out]; exact hlt)⟩
   obtain ⟨g, o, At, ct, Av, cv, rfl, hg, a0, a1, a2, a3, a4, -⟩ := (HR.out.below HB.out).ifc hx;have IM := hZ (pIf_one y At ct Av cv x xb wo ((HB.out.block _ (Array.getElem?_eq_some_iff.1 HX0.out).1).trans HX0.out));have HY := hZ hx;have hk0 : (0 : Int) <= k := by omega
   have hk1 : (k : Int) < n := by omega
   obtain ⟨q, hq⟩ : ∃ q, (isIf x.pkg x.major x.mod) y = q := ⟨_, rfl⟩;rw [hq] at IM;have HQ := hZ hq;clear hq hx hg;cases q with
   | true =>
    have RV : V = (k : Int) := by rw [HV.out, idx_yes HY.out HNO.out HQ.out]; rfl
    subst RV;go_wp2_with fail
    refine IM.out.mono ?_; rintro e w2 ⟨rfl, hb2⟩
    have HB2 := hZ (below_over HB.out hb2);clear a0 a1 a2 a3 a4 hb2;go_wp2_with fail
    go_ret;exact ⟨rfl, HB2.out⟩
   | false =>
    have NX : Hid (∀ z ∈ l.take (k + 1), (isIf x.pkg x.major x.mod) z = false) := hZ (fun z hy => by
     rw [List.take_add_one, HY.out] at hy;rcases List.mem_append.1 hy with h | h
     ·exact HNO.out z h
     ·simp at h; rw [h]; exact HQ.out)
    go_wp2_with fail
    refine IM.out.mono ?_; rintro e w2 ⟨rfl, hb2⟩
    have HB2 := hZ (below_over HB.out hb2);clear a0 a1 a2 a3 a4 hb2;go_wp2_with fail
    go_roundw
    case rel => exact ⟨k + 1, by omega, by go_num, NX, HB2⟩
    case measure => simp [intOf]; omega
  ·have RV : V = -1 := by rw [HV.out, idx_no (fun z hz => HNO.out z (by rw [List.take_of_length_le (by rw [<- HN.out]; omega)]; exact hz))]; rfl
   subst RV;go_wp2_with fail
   go_ret;exact ⟨rfl, HB.out⟩
theorem pNm_one (y : Nm) (Bn : Option Addr) (cB : Nat) (Bs : Option Addr) (dB : Nat) (s : ByteArray) (xb : Nat) (w : World) (hx : w.heap[xb]? = some (.cells #[.string s] 9 (0, 0))) :
  Calls Tryz.prog 181 #[.agg #[.string y.name, .int .i64 y.typ.kind, .string y.typ.pkg, .int .i64 y.typ.major, .string y.typ.mod, .string y.typ.name, .slice Bn y.typ.names.length cB, .slice Bs y.typ.subs.length dB], .pointer (some ⟨xb, 0, none⟩)] w fun e w' => e = .returned (.bool (isNm s y)) /\ Below w.heap.size w w' := by
 obtain ⟨wb, hwb⟩ : ∃ wb, wb = w.alloc (.cells #[.string y.name, .int .i64 y.typ.kind, .string y.typ.pkg, .int .i64 y.typ.major, .string y.typ.mod, .string y.typ.name, .slice Bn y.typ.names.length cB, .slice Bs y.typ.subs.length dB] 57) := ⟨_, rfl⟩
 have B0 : Below w.heap.size w wb := by rw [hwb]; exact below_new (Below.refl _ _) _
 have X0 : wb.heap[w.heap.size]? = some (.cells #[.string y.name, .int .i64 y.typ.kind, .string y.typ.pkg, .int .i64 y.typ.major, .string y.typ.mod, .string y.typ.name, .slice Bn y.typ.names.length cB, .slice Bs y.typ.subs.length dB] 57 (0, 0)) := by rw [hwb]; exact heap_alloc_new w _
 have X1 := (B0.block _ (Array.getElem?_eq_some_iff.1 hx).1).trans hx
 have y0 := cZ X0 0
 have x0 := cZ X1 0
 simp at y0 x0
 have HB0 := hZ B0
 have HWB := hZ hwb
 have hq := str_eq y.name s
 obtain ⟨b1, hb1⟩ : ∃ b, b = decide (y.name = s) := ⟨_, rfl⟩
 rw [<- hb1] at hq
 have e1 : isNm s y = b1 := hb1.symm
 rw [e1]
 clear hx hwb B0 X0 X1 hb1 e1
 go_enter Tryz.func181, Tryz.ntmps181
 go_upto_region 1 with fail
 rw [<- HWB.out]
 go_wp2_with fail
 go_ret
 exact ⟨by first | rfl | exact ret_bool hq, HB0.out⟩
theorem pNm_index (A : Option Addr) (c : Nat) (l : List Nm) (s : ByteArray) (xb : Nat) (w : World) (h : RowIn nmR w A l) (hl : l.length <= 9223372036854775807) (hx : w.heap[xb]? = some (.cells #[.string s] 9 (0, 0))) :
  Calls Tryz.prog 213 #[.slice A l.length c, .func (.func 181) #[] #[.pointer (some ⟨xb, 0, none⟩)]] w fun e w' => e = .returned (.int .i64 (optN (l.findIdx? (isNm s)))) /\ Below w.heap.size w w' := by
 have HR := hZ h
 have HX0 := hZ hx
 obtain ⟨n, hn⟩ : ∃ n, n = l.length := ⟨_, rfl⟩
 have HN := hZ hn
 obtain ⟨V, hV⟩ : ∃ V, V = optN (l.findIdx? (isNm s)) := ⟨_, rfl⟩
 have HV := hZ hV
 rw [<- hn] at hl ⊢
 rw [<- hV]
 clear h hn hx hV
 go_enter Tryz.func213, Tryz.ntmps213
 go_wp2_with fail
 go_loopw [8] (fun s8 wr => ∃ k : Nat, k <= n /\ s8 = .int .i64 k /\ Hid (∀ z ∈ l.take k, (isNm s) z = false) /\ Hid (Below w.heap.size w wr)) (fun s8 _ => n - (intOf s8).toNat)
 case atStart => exact ⟨0, by omega, rfl, hZ (by simp), hZ (Below.refl _ _)⟩
 case round =>
  obtain ⟨k, hk, rfl, HNO, HB⟩ := hrel;obtain ⟨wo, rfl⟩ : ∃ wo : World, wo = wr := ⟨_, rfl⟩;by_cases hlt : k < n
  ·obtain ⟨y, hx⟩ : ∃ y, l[k]? = some y := ⟨_, List.getElem?_eq_getElem (by rw [<- HN.out]; exact hlt)⟩
   obtain ⟨g, o, Bn, cB, Bs, dB, rfl, hg, a0, a1, a2, a3, a4, a5, a6, a7, -⟩ := (HR.out.below HB.out).nm hx;have IM := hZ (pNm_one y Bn cB Bs dB s xb wo ((HB.out.block _ (Array.getElem?_eq_some_iff.1 HX0.out).1).trans HX0.out));have HY := hZ hx;have hk0 : (0 : Int) <= k := by omega
   have hk1 : (k : Int) < n := by omega
   obtain ⟨q, hq⟩ : ∃ q, (isNm s) y = q := ⟨_, rfl⟩;rw [hq] at IM;have HQ := hZ hq;clear hq hx hg;cases q with
   | true =>
    have RV : V = (k : Int) := by rw [HV.out, idx_yes HY.out HNO.out HQ.out]; rfl
    subst RV;go_wp2_with fail
    refine IM.out.mono ?_; rintro e w2 ⟨rfl, hb2⟩
    have HB2 := hZ (below_over HB.out hb2);clear a0 a1 a2 a3 a4 a5 a6 a7 hb2;go_wp2_with fail
    go_ret;exact ⟨rfl, HB2.out⟩
   | false =>
    have NX : Hid (∀ z ∈ l.take (k + 1), (isNm s) z = false) := hZ (fun z hy => by
     rw [List.take_add_one, HY.out] at hy;rcases List.mem_append.1 hy with h | h
     ·exact HNO.out z h
     ·simp at h; rw [h]; exact HQ.out)
    go_wp2_with fail
    refine IM.out.mono ?_; rintro e w2 ⟨rfl, hb2⟩
    have HB2 := hZ (below_over HB.out hb2);clear a0 a1 a2 a3 a4 a5 a6 a7 hb2;go_wp2_with fail
    go_roundw
    case rel => exact ⟨k + 1, by omega, by go_num, NX, HB2⟩
    case measure => simp [intOf]; omega
  ·have RV : V = -1 := by rw [HV.out, idx_no (fun z hz => HNO.out z (by rw [List.take_of_length_le (by rw [<- HN.out]; omega)]; exact hz))]; rfl
   subst RV;go_wp2_with fail
   go_ret;exact ⟨rfl, HB.out⟩
theorem pDe_one (y : De) (Bn : Option Addr) (cB : Nat) (Bs : Option Addr) (dB : Nat) (s : ByteArray) (xb : Nat) (w : World) (hx : w.heap[xb]? = some (.cells #[.string s] 9 (0, 0))) :
  Calls Tryz.prog 298 #[.agg #[.int .i64 y.kind, .string y.name, .int .i64 y.typ.kind, .string y.typ.pkg, .int .i64 y.typ.major, .string y.typ.mod, .string y.typ.name, .slice Bn y.typ.names.length cB, .slice Bs y.typ.subs.length dB], .pointer (some ⟨xb, 0, none⟩)] w fun e w' => e = .returned (.bool (isDe s y)) /\ Below w.heap.size w w' := by
 obtain ⟨wb, hwb⟩ : ∃ wb, wb = w.alloc (.cells #[.int .i64 y.kind, .string y.name, .int .i64 y.typ.kind, .string y.typ.pkg, .int .i64 y.typ.major, .string y.typ.mod, .string y.typ.name, .slice Bn y.typ.names.length cB, .slice Bs y.typ.subs.length dB] 194) := ⟨_, rfl⟩
 have B0 : Below w.heap.size w wb := by rw [hwb]; exact below_new (Below.refl _ _) _
 have X0 : wb.heap[w.heap.size]? = some (.cells #[.int .i64 y.kind, .string y.name, .int .i64 y.typ.kind, .string y.typ.pkg, .int .i64 y.typ.major, .string y.typ.mod, .string y.typ.name, .slice Bn y.typ.names.length cB, .slice Bs y.typ.subs.length dB] 194 (0, 0)) := by rw [hwb]; exact heap_alloc_new w _
 have X1 := (B0.block _ (Array.getElem?_eq_some_iff.1 hx).1).trans hx
 have y1 := cZ X0 1
 have x0 := cZ X1 0
 simp at y1 x0
 have HB0 := hZ B0
 have HWB := hZ hwb
 have hq := str_eq y.name s
 obtain ⟨b1, hb1⟩ : ∃ b, b = decide (y.name = s) := ⟨_, rfl⟩
 rw [<- hb1] at hq
 have e1 : isDe s y = b1 := hb1.symm
 rw [e1]
 clear hx hwb B0 X0 X1 hb1 e1
 go_enter Tryz.func298, Tryz.ntmps298
 go_upto_region 1 with fail
 rw [<- HWB.out]
 go_wp2_with fail
 go_ret
 exact ⟨by first | rfl | exact ret_bool hq, HB0.out⟩
theorem pDe_index (A : Option Addr) (c : Nat) (l : List De) (s : ByteArray) (xb : Nat) (w : World) (h : RowIn deR w A l) (hl : l.length <= 9223372036854775807) (hx : w.heap[xb]? = some (.cells #[.string s] 9 (0, 0))) :
  Calls Tryz.prog 285 #[.slice A l.length c, .func (.func 298) #[] #[.pointer (some ⟨xb, 0, none⟩)]] w fun e w' => e = .returned (.int .i64 (optN (l.findIdx? (isDe s)))) /\ Below w.heap.size w w' := by
 have HR := hZ h
 have HX0 := hZ hx
 obtain ⟨n, hn⟩ : ∃ n, n = l.length := ⟨_, rfl⟩
 have HN := hZ hn
 obtain ⟨V, hV⟩ : ∃ V, V = optN (l.findIdx? (isDe s)) := ⟨_, rfl⟩
 have HV := hZ hV
 rw [<- hn] at hl ⊢
 rw [<- hV]
 clear h hn hx hV
 go_enter Tryz.func285, Tryz.ntmps285
 go_wp2_with fail
 go_loopw [8] (fun s8 wr => ∃ k : Nat, k <= n /\ s8 = .int .i64 k /\ Hid (∀ z ∈ l.take k, (isDe s) z = false) /\ Hid (Below w.heap.size w wr)) (fun s8 _ => n - (intOf s8).toNat)
 case atStart => exact ⟨0, by omega, rfl, hZ (by simp), hZ (Below.refl _ _)⟩
 case round =>
  obtain ⟨k, hk, rfl, HNO, HB⟩ := hrel;obtain ⟨wo, rfl⟩ : ∃ wo : World, wo = wr := ⟨_, rfl⟩;by_cases hlt : k < n
  ·obtain ⟨y, hx⟩ : ∃ y, l[k]? = some y := ⟨_, List.getElem?_eq_getElem (by rw [<- HN.out]; exact hlt)⟩
   obtain ⟨g, o, v0, v1, v2, v3, v4, v5, v6, rfl, hg, a0, a1, a2, a3, a4, a5, a6, a7, a8, us, zs⟩ := (HR.out.below HB.out).de hx;obtain ⟨Bn, cB, Bs, dB, ev, -⟩ := us.parts;simp only [List.cons.injEq, and_true] at ev;obtain ⟨rfl, rfl, rfl, rfl, rfl, rfl, rfl⟩ := ev;clear us zs;have IM := hZ (pDe_one y Bn cB Bs dB s xb wo ((HB.out.block _ (Array.getElem?_eq_some_iff.1 HX0.out).1).trans HX0.out));have HY := hZ hx;have hk0 : (0 : Int) <= k := by omega
   have hk1 : (k : Int) < n := by omega
   obtain ⟨q, hq⟩ : ∃ q, (isDe s) y = q := ⟨_, rfl⟩;rw [hq] at IM;have HQ := hZ hq;clear hq hx hg;cases q with
   | true =>
    have RV : V = (k : Int) := by rw [HV.out, idx_yes HY.out HNO.out HQ.out]; rfl
    subst RV;go_wp2_with fail
    refine IM.out.mono ?_; rintro e w2 ⟨rfl, hb2⟩
    have HB2 := hZ (below_over HB.out hb2);clear a0 a1 a2 a3 a4 a5 a6 a7 a8 hb2;go_wp2_with fail
    go_ret;exact ⟨rfl, HB2.out⟩
   | false =>
    have NX : Hid (∀ z ∈ l.take (k + 1), (isDe s) z = false) := hZ (fun z hy => by
     rw [List.take_add_one, HY.out] at hy;rcases List.mem_append.1 hy with h | h
     ·exact HNO.out z h
     ·simp at h; rw [h]; exact HQ.out)
    go_wp2_with fail
    refine IM.out.mono ?_; rintro e w2 ⟨rfl, hb2⟩
    have HB2 := hZ (below_over HB.out hb2);clear a0 a1 a2 a3 a4 a5 a6 a7 a8 hb2;go_wp2_with fail
    go_roundw
    case rel => exact ⟨k + 1, by omega, by go_num, NX, HB2⟩
    case measure => simp [intOf]; omega
  ·have RV : V = -1 := by rw [HV.out, idx_no (fun z hz => HNO.out z (by rw [List.take_of_length_le (by rw [<- HN.out]; omega)]; exact hz))]; rfl
   subst RV;go_wp2_with fail
   go_ret;exact ⟨rfl, HB.out⟩
theorem pAs_one (y : Im)  (s : ByteArray) (xb : Nat) (w : World) (hx : w.heap[xb]? = some (.cells #[.string s] 9 (0, 0))) :
  Calls Tryz.prog 126 #[.agg #[.string y.pkg, .int .i64 y.major, .string y.mod, .string y.asn], .pointer (some ⟨xb, 0, none⟩)] w fun e w' => e = .returned (.bool (isAs s y)) /\ Below w.heap.size w w' := by
 obtain ⟨wb, hwb⟩ : ∃ wb, wb = w.alloc (.cells #[.string y.pkg, .int .i64 y.major, .string y.mod, .string y.asn] 71) := ⟨_, rfl⟩
 have B0 : Below w.heap.size w wb := by rw [hwb]; exact below_new (Below.refl _ _) _
 have X0 : wb.heap[w.heap.size]? = some (.cells #[.string y.pkg, .int .i64 y.major, .string y.mod, .string y.asn] 71 (0, 0)) := by rw [hwb]; exact heap_alloc_new w _
 have X1 := (B0.block _ (Array.getElem?_eq_some_iff.1 hx).1).trans hx
 have y3 := cZ X0 3
 have x0 := cZ X1 0
 simp at y3 x0
 have HB0 := hZ B0
 have HWB := hZ hwb
 have hq := str_eq y.asn s
 obtain ⟨b1, hb1⟩ : ∃ b, b = decide (y.asn = s) := ⟨_, rfl⟩
 rw [<- hb1] at hq
 have e1 : isAs s y = b1 := hb1.symm
 rw [e1]
 clear hx hwb B0 X0 X1 hb1 e1
 go_enter Tryz.func126, Tryz.ntmps126
 go_upto_region 1 with fail
 rw [<- HWB.out]
 go_wp2_with fail
 go_ret
 exact ⟨by first | rfl | exact ret_bool hq, HB0.out⟩
theorem pAs_index (A : Option Addr) (c : Nat) (l : List Im) (s : ByteArray) (xb : Nat) (w : World) (h : RowIn imR w A l) (hl : l.length <= 9223372036854775807) (hx : w.heap[xb]? = some (.cells #[.string s] 9 (0, 0))) :
  Calls Tryz.prog 95 #[.slice A l.length c, .func (.func 126) #[] #[.pointer (some ⟨xb, 0, none⟩)]] w fun e w' => e = .returned (.int .i64 (optN (l.findIdx? (isAs s)))) /\ Below w.heap.size w w' := by
 have HR := hZ h
 have HX0 := hZ hx
 obtain ⟨n, hn⟩ : ∃ n, n = l.length := ⟨_, rfl⟩
 have HN := hZ hn
 obtain ⟨V, hV⟩ : ∃ V, V = optN (l.findIdx? (isAs s)) := ⟨_, rfl⟩
 have HV := hZ hV
 rw [<- hn] at hl ⊢
 rw [<- hV]
 clear h hn hx hV
 go_enter Tryz.func95, Tryz.ntmps95
 go_wp2_with fail
 go_loopw [8] (fun s8 wr => ∃ k : Nat, k <= n /\ s8 = .int .i64 k /\ Hid (∀ z ∈ l.take k, (isAs s) z = false) /\ Hid (Below w.heap.size w wr)) (fun s8 _ => n - (intOf s8).toNat)
 case atStart => exact ⟨0, by omega, rfl, hZ (by simp), hZ (Below.refl _ _)⟩
 case round =>
  obtain ⟨k, hk, rfl, HNO, HB⟩ := hrel;obtain ⟨wo, rfl⟩ : ∃ wo : World, wo = wr := ⟨_, rfl⟩;by_cases hlt : k < n
  ·obtain ⟨y, hx⟩ : ∃ y, l[k]? = some y := ⟨_, List.getElem?_eq_getElem (by rw [<- HN.out]; exact hlt)⟩
   obtain ⟨g, o, rfl, hg, a0, a1, a2, a3, -⟩ := (HR.out.below HB.out).im hx;have IM := hZ (pAs_one y  s xb wo ((HB.out.block _ (Array.getElem?_eq_some_iff.1 HX0.out).1).trans HX0.out));have HY := hZ hx;have hk0 : (0 : Int) <= k := by omega
   have hk1 : (k : Int) < n := by omega
   obtain ⟨q, hq⟩ : ∃ q, (isAs s) y = q := ⟨_, rfl⟩;rw [hq] at IM;have HQ := hZ hq;clear hq hx hg;cases q with
   | true =>
    have RV : V = (k : Int) := by rw [HV.out, idx_yes HY.out HNO.out HQ.out]; rfl
    subst RV;go_wp2_with fail
    refine IM.out.mono ?_; rintro e w2 ⟨rfl, hb2⟩
    have HB2 := hZ (below_over HB.out hb2);clear a0 a1 a2 a3 hb2;go_wp2_with fail
    go_ret;exact ⟨rfl, HB2.out⟩
   | false =>
    have NX : Hid (∀ z ∈ l.take (k + 1), (isAs s) z = false) := hZ (fun z hy => by
     rw [List.take_add_one, HY.out] at hy;rcases List.mem_append.1 hy with h | h
     ·exact HNO.out z h
     ·simp at h; rw [h]; exact HQ.out)
    go_wp2_with fail
    refine IM.out.mono ?_; rintro e w2 ⟨rfl, hb2⟩
    have HB2 := hZ (below_over HB.out hb2);clear a0 a1 a2 a3 hb2;go_wp2_with fail
    go_roundw
    case rel => exact ⟨k + 1, by omega, by go_num, NX, HB2⟩
    case measure => simp [intOf]; omega
  ·have RV : V = -1 := by rw [HV.out, idx_no (fun z hz => HNO.out z (by rw [List.take_of_length_le (by rw [<- HN.out]; omega)]; exact hz))]; rfl
   subst RV;go_wp2_with fail
   go_ret;exact ⟨rfl, HB.out⟩
end Go.Proofs.YteecgiebimdbhaaGreatDoor
