/-
  Several texts in one.
-/
import Derived.Test.YteecgiebimdbhaaGreatDoorK02
import Derived.Lib.AtoiTie
import Derived.Lib.AtoiAllCases
import Derived.Lib.ItoaNum
set_option maxRecDepth 100000
set_option maxHeartbeats 4000000
namespace Go.Proofs.YteecgiebimdbhaaGreatDoor
open Go.RowKit
open Go.Sort
open M
structure FnI (w : World) (r : Nat) (A : Option Addr) (S : Toks) (cn d f : Nat) (F : Res Ty) (ss : List Ty) (n6 : Nat) (A6 : Option Addr) (c6 i c b g : Nat) (mb : Bool) (wr : World) : Prop where
  kp : Kp r w wr
  box : wr.heap[w.heap.size + 1]? = some (.cells #[.int .i64 7, .string ⟨#[]⟩, .int .i64 0, .string ⟨#[]⟩, .string ⟨#[]⟩, .slice none 0 0, .slice A6 n6 c6] 55 (0, 0))
  res : wr.heap[w.heap.size]? = some (.cells #[.int .i64 0, .string ⟨#[]⟩, .int .i64 0, .string ⟨#[]⟩, .string ⟨#[]⟩, .slice none 0 0, .slice none 0 0] 55 (0, 0))
  rows : GrR (w.heap.size + 2) [] 0 ss n6 (.slice none 0 0) (.slice A6 n6 c6) wr
  rd : Rd r A S.n cn i c b wr
  fin : F = badR b i (if mb = true then pSubs S g d i c ss else pEnd S g d i c ss)
  fuel : g <= f
  some : n6 <= 21
  most : b = 0 -> n6 <= 20
  cnt : c <= 500
structure PaI (w : World) (r : Nat) (A : Option Addr) (S : Toks) (cn : Nat) (k : Int) (z : List UInt8) (d f : Nat) (F : Res Ty) (ns : List ByteArray) (ss : List Ty) (n : Nat) (A5 : Option Addr) (c5 : Nat) (A6 : Option Addr) (c6 i c b g : Nat) (wr : World) : Prop where
  kp : Kp r w wr
  box : wr.heap[w.heap.size + 1]? = some (.cells #[.int .i64 k, .string ⟨#[]⟩, .int .i64 0, .string ⟨#[]⟩, .string ⟨#[]⟩, .slice A5 n c5, .slice A6 n c6] 55 (0, 0))
  res : wr.heap[w.heap.size]? = some (.cells #[.int .i64 0, .string ⟨#[]⟩, .int .i64 0, .string ⟨#[]⟩, .string ⟨#[]⟩, .slice none 0 0, .slice none 0 0] 55 (0, 0))
  rows : GrR (w.heap.size + 2) ns n ss n (.slice A5 n c5) (.slice A6 n c6) wr
  rd : Rd r A S.n cn i c b wr
  fin : F = badR b i (pParts S k z g d i c ns ss)
  fuel : g <= f
  most : n <= 20
  cnt : c <= 500
end Go.Proofs.YteecgiebimdbhaaGreatDoor
namespace Go.Proofs.YteecgiebimdbhaaGreatDoor.M
open Go
abbrev FdT := ByteArray × Ty
def stepF (a : List ByteArray × List Ty) (x : FdT) : List ByteArray × List Ty := (putAt (posOf x.1 a.1 a.1.length) x.1 a.1, putAt (posOf x.1 a.1 a.1.length) x.2 a.2)
def pIns (P : List FdT) : List ByteArray × List Ty := P.foldl stepF ([], [])
def insN (P : List FdT) : List ByteArray := (pIns P).1
def insS (P : List FdT) : List Ty := (pIns P).2
end Go.Proofs.YteecgiebimdbhaaGreatDoor.M
namespace Go.Proofs.YteecgiebimdbhaaGreatDoor
open Go.RowKit
open M
theorem many_any (N : Nat) : ∀ (t : Ty), many t <= N -> many t <= 9000 -> ∀ (v : Value) (w : World), TyV w v t ->
  Calls Tryz.prog 56 #[v] w fun e w' => e = .returned (.int .i64 (many t : Nat)) /\ Below w.heap.size w w' := by
 induction N with
 | zero => intro t h; have := many_pos t; omega
 | succ N ih =>
  intro t hN hM v w hv;obtain ⟨l, rfl, hT⟩ := hv;obtain ⟨An, cn, As, cs, rfl, -, -, -, -, hz, -, hS⟩ := hT.parts;have HS := hZ hS;have HE := hZ (manyL_eq t);have HL := manyL_len t.subs;have hM' : manyL t.subs <= 9000 := by have := HE.out; omega
  clear hT hS;generalize hn : t.subs.length = n at hz HL
  have HN := hZ hn;clear hn;go_enter Tryz.func56, Tryz.ntmps56
  go_wp2_with fail
  go_loopw [3, 4] (fun m i wr => ∃ k : Nat, k <= n /\ i = .int .i64 k /\ m = .int .i64 ((1 + manyL (t.subs.take k) : Nat) : Int) /\ Below (boxed w #[.int .i64 t.kind, .string t.pkg, .int .i64 t.major, .string t.mod, .string t.name, .slice An t.names.length cn, .slice As n cs]).heap.size (boxed w #[.int .i64 t.kind, .string t.pkg, .int .i64 t.major, .string t.mod, .string t.name, .slice An t.names.length cn, .slice As n cs]) wr) (fun _ i _ => n - (intOf i).toNat)
  case atStart => exact ⟨0, by omega, rfl, by simp [manyL], Below.refl _ _⟩
  case round =>
   obtain ⟨k, hk, rfl, rfl, hb⟩ := hrel;obtain ⟨wo, rfl⟩ : ∃ wo : World, wo = wr := ⟨_, rfl⟩;have b6 := box_cell hb 6;simp at b6;have HB := hZ (box_below hb);have htk := manyL_take_le t.subs k;by_cases hlt : k < n
   ·obtain ⟨s, hs⟩ : ∃ s, t.subs[k]? = some s := ⟨_, List.getElem?_eq_getElem (by rw [HN.out]; exact hlt)⟩
    obtain ⟨g, o, v0, v1, v2, v3, v4, v5, v6, rfl, -, h0, h1, h2, h3, h4, h5, h6, hs7⟩ := HS.out.below HB.out k s hs;have hsm := sub_many hs;have T1 := hZ (manyL_take t.subs k s hs);have htk1 := manyL_take_le t.subs (k + 1);have IH := hZ (ih s (by omega) (by omega) (.agg #[v0, v1, v2, v3, v4, v5, v6]) wo ⟨_, rfl, hs7⟩);have hsz : many s <= 9000 := by omega
    clear hs7 hs hsm;go_wp2_with fail
    refine IH.out.mono ?_; rintro e w2 ⟨rfl, hb2⟩
    have hb3 := below_over hb hb2;clear b6 h0 h1 h2 h3 h4 h5 h6 hb hb2;go_wp2_with fail
    go_roundw
    case rel => exact ⟨k + 1, by omega, by go_num, by rw [T1.out]; go_num, hb3⟩
    case measure => simp [intOf]; omega
   ·have hkn : k = n := by omega
    have T0 : Hid (many t = 1 + manyL (t.subs.take k)) := hZ (by rw [HE.out, List.take_of_length_le (by rw [HN.out]; omega)]);go_wp2_with fail
    go_ret;exact ⟨ret_int' (by rw [T0.out]), HB.out⟩
theorem deep_any (N : Nat) : ∀ (t : Ty), many t <= N -> many t <= 9000 -> ∀ (v : Value) (w : World), TyV w v t ->
  Calls Tryz.prog 57 #[v] w fun e w' => e = .returned (.int .i64 (deep t : Nat)) /\ Below w.heap.size w w' := by
 induction N with
 | zero => intro t h; have := many_pos t; omega
 | succ N ih =>
  intro t hN hM v w hv;obtain ⟨l, rfl, hT⟩ := hv;obtain ⟨An, cn, As, cs, rfl, -, -, -, hzn, hz, -, hS⟩ := hT.parts;have HS := hZ hS;clear hT hS;generalize hn : t.subs.length = n at hz
  have HN := hZ hn;clear hn;have HE := hZ (deep_eq t);have hdm : deepL t.subs <= 9000 := by have := deep_many t; have := HE.out; omega
  have htk : ∀ k, deepL (t.subs.take k) <= deepL t.subs := fun k => by
   conv => rhs; rw [<- List.take_append_drop k t.subs, deepL_append]
   omega
  have HK := hZ htk;clear htk;go_enter Tryz.func57, Tryz.ntmps57
  go_wp2_with fail
  go_loopw [3, 4] (fun m i wr => ∃ k : Nat, k <= n /\ i = .int .i64 k /\ m = .int .i64 ((deepL (t.subs.take k) : Nat) : Int) /\ Below (boxed w #[.int .i64 t.kind, .string t.pkg, .int .i64 t.major, .string t.mod, .string t.name, .slice An t.names.length cn, .slice As n cs]).heap.size (boxed w #[.int .i64 t.kind, .string t.pkg, .int .i64 t.major, .string t.mod, .string t.name, .slice An t.names.length cn, .slice As n cs]) wr) (fun _ i _ => n - (intOf i).toNat)
  case atStart => exact ⟨0, by omega, rfl, by simp [deepL], Below.refl _ _⟩
  case round =>
   obtain ⟨k, hk, rfl, rfl, hb⟩ := hrel;obtain ⟨wo, rfl⟩ : ∃ wo : World, wo = wr := ⟨_, rfl⟩;have b6 := box_cell hb 6;simp at b6;have HB := hZ (box_below hb);have htk := HK.out k;by_cases hlt : k < n
   ·skip
    obtain ⟨s, hs⟩ : ∃ s, t.subs[k]? = some s := ⟨_, List.getElem?_eq_getElem (by rw [HN.out]; exact hlt)⟩;obtain ⟨g, o, v0, v1, v2, v3, v4, v5, v6, rfl, -, h0, h1, h2, h3, h4, h5, h6, hs7⟩ := HS.out.below HB.out k s hs;have hsm := sub_many hs;have T1 := hZ (deepL_take t.subs k s hs);have htk1 := HK.out (k + 1);have hds := deep_many s;have hsz : deep s <= 9000 := by omega
    have IH := hZ (ih s (by omega) (by omega) (.agg #[v0, v1, v2, v3, v4, v5, v6]) wo ⟨_, rfl, hs7⟩);clear hs7 hs hsm hds;by_cases hgt : deepL (t.subs.take k) < deep s
    ·have T2 : Hid (deepL (t.subs.take (k + 1)) = deep s) := hZ (by rw [T1.out]; omega)
     go_wp2_with fail
     refine IH.out.mono ?_; rintro e w2 ⟨rfl, hb2⟩
     have hb3 := below_over hb hb2;clear b6 h0 h1 h2 h3 h4 h5 h6 hb hb2;go_wp2_with fail
     go_roundw
     case rel => exact ⟨k + 1, by omega, by go_num, by rw [T2.out], hb3⟩
     case measure => simp [intOf]; omega
    ·have T2 : Hid (deepL (t.subs.take (k + 1)) = deepL (t.subs.take k)) := hZ (by rw [T1.out]; omega)
     go_wp2_with fail
     refine IH.out.mono ?_; rintro e w2 ⟨rfl, hb2⟩
     have hb3 := below_over hb hb2;clear b6 h0 h1 h2 h3 h4 h5 h6 hb hb2;go_wp2_with fail
     go_roundw
     case rel => exact ⟨k + 1, by omega, by go_num, by rw [T2.out], hb3⟩
     case measure => simp [intOf]; omega
   ·have T0 : Hid (deep t = deepL (t.subs.take k) + 1) := hZ (by rw [HE.out, List.take_of_length_le (by rw [HN.out]; omega)])
    go_wp2_with fail
    go_ret;exact ⟨ret_int' (by rw [T0.out]; go_num), HB.out⟩
theorem few_eq (t : Ty) (most : Int) : fewT t most = if most - 1 < 0 \/ 200 < t.names.length then -1 else fewL t.subs (most - 1) := by cases t; rfl
theorem fewL_take : ∀ (l : List Ty) (k : Nat) (most : Int), fewL l most = fewL (l.drop k) (fewL (l.take k) most)
 | [], k, most => by simp [fewL]
 | t :: r, 0, most => rfl
 | t :: r, k + 1, most => by
  show (if 0 <= most then fewL r (fewT t most) else most) = fewL (r.drop k) (if 0 <= most then fewL (r.take k) (fewT t most) else most)
  split
  ·exact fewL_take r k _
  ·rw [fewL_neg _ _ (by omega)]
theorem fewL_snoc (l : List Ty) (k : Nat) (t : Ty) (most : Int) (h : l[k]? = some t) (h0 : 0 <= fewL (l.take k) most) : fewL (l.take (k + 1)) most = fewT t (fewL (l.take k) most) := by
 have hk := (List.getElem?_eq_some_iff.1 h).1
 have e := fewL_take (l.take (k + 1)) k most
 rw [List.take_take, Nat.min_eq_left (by omega)] at e
 have d : (l.take (k + 1)).drop k = [t] := by
  rw [List.take_add_one, h, List.drop_append_of_le_length (by simp; omega), List.drop_eq_nil_of_le (List.length_take_le _ _)];rfl
 rw [e, d]
 show (if 0 <= _ then fewL [] _ else _) = _
 rw [if_pos h0]; rfl
theorem few_any (N : Nat) : ∀ (t : Ty), many t <= N -> ∀ (most : Int), -1 <= most -> most <= 3000 -> ∀ (v : Value) (w : World), TyV w v t ->
  Calls Tryz.prog 49 #[v, .int .i64 most] w fun e w' => e = .returned (.int .i64 (fewT t most)) /\ Below w.heap.size w w' := by
 induction N with
 | zero => intro t h; have := many_pos t; omega
 | succ N ih =>
  intro t hN most hlo hhi v w hv;obtain ⟨l, rfl, hT⟩ := hv;obtain ⟨An, cn, As, cs, rfl, -, -, -, hzn, hz, -, hS⟩ := hT.parts;have HS := hZ hS;clear hT hS;generalize hn : t.subs.length = n at hz
  have HN := hZ hn;clear hn;have HE := hZ (few_eq t most);by_cases hm : most - 1 < 0
  ·have R : Hid (fewT t most = -1) := hZ (by rw [HE.out, if_pos (.inl hm)])
   rw [R.out];go_enter Tryz.func49, Tryz.ntmps49
   go_wp2_with fail
   go_ret;exact ⟨rfl, below_new (Below.refl _ _) _⟩
  generalize hq : t.names.length = q at hzn HE
  by_cases hl : 200 < q
  ·have R : Hid (fewT t most = -1) := hZ (by rw [HE.out, if_pos (.inr hl)])
   have hl' : (200 : Int) < q := by omega
   rw [R.out];clear hq;go_enter Tryz.func49, Tryz.ntmps49
   go_wp2_with fail
   go_ret;exact ⟨rfl, below_new (Below.refl _ _) _⟩
  have HR : Hid (fewT t most = fewL t.subs (most - 1)) := hZ (by rw [HE.out, if_neg (by omega)]);have hl' : ¬ (200 : Int) < q := by omega
  clear HE hq;go_enter Tryz.func49, Tryz.ntmps49
  go_wp2_with fail
  go_loopw [1, 5] (fun m i wr => ∃ k : Nat, k <= n /\ i = .int .i64 k /\ m = .int .i64 (fewL (t.subs.take k) (most - 1)) /\ Below (boxed w #[.int .i64 t.kind, .string t.pkg, .int .i64 t.major, .string t.mod, .string t.name, .slice An q cn, .slice As n cs]).heap.size (boxed w #[.int .i64 t.kind, .string t.pkg, .int .i64 t.major, .string t.mod, .string t.name, .slice An q cn, .slice As n cs]) wr) (fun _ i _ => n - (intOf i).toNat)
  case atStart => exact ⟨0, by omega, rfl, by simp [fewL], Below.refl _ _⟩
  case round =>
   obtain ⟨k, hk, rfl, rfl, hb⟩ := hrel;obtain ⟨wo, rfl⟩ : ∃ wo : World, wo = wr := ⟨_, rfl⟩;have b6 := box_cell hb 6;simp at b6;have HB := hZ (box_below hb);have bd := fewL_bd (t.subs.take k) (most - 1) (by omega);by_cases hlt : k < n
   ·by_cases h0 : 0 <= fewL (t.subs.take k) (most - 1)
    ·obtain ⟨s, hs⟩ : ∃ s, t.subs[k]? = some s := ⟨_, List.getElem?_eq_getElem (by rw [HN.out]; exact hlt)⟩
     obtain ⟨g, o, v0, v1, v2, v3, v4, v5, v6, rfl, -, h0', h1, h2, h3, h4, h5, h6, hs7⟩ := HS.out.below HB.out k s hs;have hsm := sub_many hs;have T1 := hZ (fewL_snoc t.subs k s (most - 1) hs h0);have IH := hZ (ih s (by omega) (fewL (t.subs.take k) (most - 1)) (by omega) (by omega) (.agg #[v0, v1, v2, v3, v4, v5, v6]) wo ⟨_, rfl, hs7⟩);clear hs7 hs hsm;generalize fewL (t.subs.take k) (most - 1) = z at h0 IH T1 bd
     go_wp2_with fail
     refine IH.out.mono ?_; rintro e w2 ⟨rfl, hb2⟩
     have hb3 := below_over hb hb2;clear b6 h0' h1 h2 h3 h4 h5 h6 hb hb2;go_wp2_with fail
     go_roundw
     case rel => exact ⟨k + 1, by omega, by go_num, by rw [T1.out], hb3⟩
     case measure => simp [intOf]; omega
    ·have T0 : Hid (fewT t most = fewL (t.subs.take k) (most - 1)) := hZ (by rw [HR.out, fewL_take t.subs k, fewL_neg _ _ (by omega)])
     generalize fewL (t.subs.take k) (most - 1) = z at h0 T0 bd
     go_wp2_with fail
     go_ret;exact ⟨ret_int' T0.out, HB.out⟩
   ·have T0 : Hid (fewT t most = fewL (t.subs.take k) (most - 1)) := hZ (by rw [HR.out, List.take_of_length_le (by rw [HN.out]; omega)])
    generalize fewL (t.subs.take k) (most - 1) = z at T0 bd
    go_wp2_with fail
    go_ret;exact ⟨ret_int' T0.out, HB.out⟩
def localOk (t : Ty) : Bool := emptyB t.pkg && (t.major == 0) && (emptyB t.mod || smallB t.mod.data.toList) && greatB t.name.data.toList
def openOk (t : Ty) : Bool := smallB t.pkg.data.toList && decide (1 <= t.major) && decide (t.major <= 999999999) && smallB t.mod.data.toList && greatB t.name.data.toList
def badFor (f : List UInt8 -> Bool) (names : List ByteArray) (i : Nat) : Bool := !f (nameAt names i).data.toList || (decide (0 < i) && leS (nameAt names i) (nameAt names (i - 1)))
def risingB (f : List UInt8 -> Bool) (names : List ByteArray) : Bool := (List.range names.length).all fun i => !badFor f names i
theorem rising_iff (f : List UInt8 -> Bool) (names : List ByteArray) : risingB f names = true ↔ ∀ i, i < names.length -> badFor f names i = false := by
 unfold risingB
 simp [List.all_eq_true]
theorem rising_no {f : List UInt8 -> Bool} {names : List ByteArray} {i : Nat} (hi : i < names.length) (h : badFor f names i = true) : risingB f names = false := by
 rw [Bool.eq_false_iff, ne_eq, rising_iff]
 intro a
 have := a i hi
 rw [h] at this; cases this
theorem leL : ∀ x y : List UInt8, (Op.bytesLess x y || x == y) = !Op.bytesLess y x
 | [], [] => rfl
 | [], b :: y => by simp [Op.bytesLess]
 | a :: x, [] => by simp [Op.bytesLess]
 | a :: x, b :: y => by
  have ih := leL x y;simp only [Op.bytesLess, List.cons_beq_cons];rcases Nat.lt_trichotomy a.toNat b.toNat with h | h | h
  ·have h1 : a < b := h
   have h2 : ¬ b < a := by intro (c : b.toNat < a.toNat); omega
   have h3 : (b == a) = false := by simp; intro e; subst e; exact absurd h (Nat.lt_irrefl _)
   simp [h1, h2, h3]
  ·have e : a = b := UInt8.toNat_inj.1 h
   subst e;have h1 : ¬ a < a := by intro (c : a.toNat < a.toNat); omega
   simp [h1, ih]
  ·have h1 : b < a := h
   have h2 : ¬ a < b := by intro (c : a.toNat < b.toNat); omega
   have h3 : (a == b) = false := by simp; intro e; subst e; exact absurd h (Nat.lt_irrefl _)
   simp [h1, h2, h3]
theorem leS_eq (a b : ByteArray) : leS a b = !Op.bytesLess b.toList a.toList := leL _ _
theorem names_small (names : List ByteArray) : namesOk 5 names = risingB smallB names := by
 have e : (fun i => !badName 5 names i) = (fun i => !badFor smallB names i) := by funext i; simp [badName, badFor]
 unfold namesOk risingB; rw [e]
theorem names_great (names : List ByteArray) : namesOk 6 names = risingB greatB names := by
 have e : (fun i => !badName 6 names i) = (fun i => !badFor greatB names i) := by funext i; simp [badName, badFor]
 unfold namesOk risingB; rw [e]
theorem names_none (k : Int) {names : List ByteArray} (h : names.length = 0) : namesOk k names = true := by
 unfold namesOk; rw [h]; rfl
def formT (t : Ty) : Bool :=
 if t.kind = 1 \/ t.kind = 2 \/ t.kind = 3 then decide (t.subs.length = 0) && decide (t.names.length = 0) && noMore t
 else if t.kind = 4 then decide (t.subs.length = 1) && decide (t.names.length = 0) && noMore t
 else if t.kind = 5 then decide (t.subs.length <= 20) && decide (t.names.length = t.subs.length) && risingB smallB t.names && noMore t
 else if t.kind = 6 then decide (1 <= t.subs.length) && decide (t.subs.length <= 20) && decide (t.names.length = t.subs.length) && risingB greatB t.names && noMore t
 else if t.kind = 7 then decide (1 <= t.subs.length) && decide (t.subs.length <= 20) && decide (t.names.length = 0) && noMore t
 else if t.kind = 8 then decide (t.subs.length = 0) && decide (t.names.length = 0) && localOk t
 else if t.kind = 9 then decide (t.subs.length = 0) && decide (t.names.length = 0) && openOk t
 else false
def formW (t : Ty) (n q : Nat) : Bool :=
 if t.kind = 1 \/ t.kind = 2 \/ t.kind = 3 then decide (n = 0) && decide (q = 0) && noMore t
 else if t.kind = 4 then decide (n = 1) && decide (q = 0) && noMore t
 else if t.kind = 5 then decide (n <= 20) && decide (q = n) && risingB smallB t.names && noMore t
 else if t.kind = 6 then decide (1 <= n) && decide (n <= 20) && decide (q = n) && risingB greatB t.names && noMore t
 else if t.kind = 7 then decide (1 <= n) && decide (n <= 20) && decide (q = 0) && noMore t
 else if t.kind = 8 then decide (n = 0) && decide (q = 0) && localOk t
 else if t.kind = 9 then decide (n = 0) && decide (q = 0) && openOk t
 else false
theorem formT_w (t : Ty) : formT t = formW t t.subs.length t.names.length := rfl
theorem formT_own (t : Ty) : formT t = ownOk t := by
 unfold formT ownOk shapeOk localOk openOk
 by_cases h : t.kind = 1 \/ t.kind = 2 \/ t.kind = 3
 ·simp only [if_pos h]
  by_cases h0 : t.names.length = 0
  ·rw [names_none _ h0, Bool.eq_iff_iff]; simp [h0] <;> (constructor <;> (intro a; simp_all))
  ·rw [Bool.eq_iff_iff]; simp [h0]
 simp only [if_neg h]
 by_cases h4 : t.kind = 4
 ·simp only [if_pos h4]
  by_cases h0 : t.names.length = 0
  ·rw [names_none _ h0, Bool.eq_iff_iff]; simp [h0] <;> (constructor <;> (intro a; simp_all))
  ·rw [Bool.eq_iff_iff]; simp [h0]
 simp only [if_neg h4]
 by_cases h5 : t.kind = 5
 ·simp only [if_pos h5]
  rw [h5, names_small];rw [Bool.eq_iff_iff]; simp only [Bool.and_eq_true, decide_eq_true_eq]
  constructor
  ·rintro ⟨⟨⟨a, b⟩, c⟩, d⟩; exact ⟨⟨a, c⟩, d, b.symm⟩
  ·rintro ⟨⟨a, c⟩, d, b⟩; exact ⟨⟨⟨a, b.symm⟩, c⟩, d⟩
 simp only [if_neg h5]
 by_cases h6 : t.kind = 6
 ·simp only [if_pos h6]
  rw [h6, names_great];rw [Bool.eq_iff_iff]; simp only [Bool.and_eq_true, decide_eq_true_eq]
  constructor
  ·rintro ⟨⟨⟨⟨e, a⟩, b⟩, c⟩, d⟩; exact ⟨⟨a, c⟩, ⟨d, b.symm⟩, by omega⟩
  ·rintro ⟨⟨a, c⟩, ⟨d, b⟩, e⟩; exact ⟨⟨⟨⟨by omega, a⟩, b.symm⟩, c⟩, d⟩
 simp only [if_neg h6]
 by_cases h7 : t.kind = 7
 ·simp only [if_pos h7]
  by_cases h0 : t.names.length = 0
  ·rw [names_none _ h0, Bool.eq_iff_iff]; simp only [Bool.and_eq_true, decide_eq_true_eq]
   constructor
   ·rintro ⟨⟨⟨e, a⟩, b⟩, d⟩; exact ⟨⟨a, trivial⟩, ⟨d, by omega⟩, h0⟩
   ·rintro ⟨⟨a, c⟩, ⟨d, b⟩, e⟩; exact ⟨⟨⟨by omega, a⟩, h0⟩, d⟩
  ·rw [Bool.eq_iff_iff]; simp [h0]
 simp only [if_neg h7]
 by_cases h8 : t.kind = 8
 ·simp only [if_pos h8]
  by_cases h0 : t.names.length = 0
  ·rw [names_none _ h0, Bool.eq_iff_iff]; simp only [Bool.and_eq_true, Bool.or_eq_true, decide_eq_true_eq]
   constructor
   ·rintro ⟨⟨a, b⟩, ⟨⟨c, d⟩, e⟩, f⟩; exact ⟨⟨by omega, trivial⟩, ⟨⟨⟨⟨a, h0⟩, c⟩, d⟩, f⟩, e.symm⟩
   ·rintro ⟨-, ⟨⟨⟨⟨a, b⟩, c⟩, d⟩, f⟩, e⟩; exact ⟨⟨a, h0⟩, ⟨⟨c, d⟩, e.symm⟩, f⟩
  ·rw [Bool.eq_iff_iff]; simp [h0]
 simp only [if_neg h8]
 by_cases h9 : t.kind = 9
 ·simp only [if_pos h9]
  by_cases h0 : t.names.length = 0
  ·rw [names_none _ h0, Bool.eq_iff_iff]; simp only [Bool.and_eq_true, decide_eq_true_eq]
   constructor
   ·rintro ⟨⟨a, b⟩, ⟨⟨⟨c, d⟩, e⟩, f⟩, g⟩; exact ⟨⟨by omega, trivial⟩, ⟨⟨⟨⟨⟨⟨a, h0⟩, c⟩, f⟩, g⟩, d⟩, e⟩⟩
   ·rintro ⟨-, ⟨⟨⟨⟨⟨a, b⟩, c⟩, f⟩, g⟩, d⟩, e⟩; exact ⟨⟨a, h0⟩, ⟨⟨⟨c, d⟩, e⟩, f⟩, g⟩
  ·rw [Bool.eq_iff_iff]; simp [h0]
 ·simp only [if_neg h9]; simp
theorem nameAt_of0 {l : List ByteArray} {i : Nat} {s : ByteArray} (h : l[i]? = some s) : nameAt l i = s := by
 unfold nameAt; rw [List.getD_eq_getElem?_getD, h]; rfl
theorem unnamed_any (t : Ty) (v : Value) (w : World) (hv : TyV w v t) :
  Calls Tryz.prog 225 #[v] w fun e w' => e = .returned (.bool (noMore t)) /\ Below w.heap.size w w' := by
 obtain ⟨l, rfl, hT⟩ := hv
 obtain ⟨An, cn, As, cs, rfl, zp, zm, za, hzn, hz, hN, -⟩ := hT.parts
 clear hT hN
 by_cases e1 : t.pkg.size = 0
 ·obtain ⟨x1, y1⟩ := empty_facts _ e1
  rcases hid_or (t.major == 0) with e2 | e2
  ·have d2 := e2.out
   have R : noMore t = false := by
    unfold noMore emptyB
    simp [d2]
   rw [R];clear R;as_aux_lemma =>
   go_enter Tryz.func225, Tryz.ntmps225
   go_wp2_with fail
   go_ret;exact ⟨rfl, below_new (Below.refl _ _) _⟩
  ·have d2 := e2.out
   by_cases e3 : t.mod.size = 0
   ·obtain ⟨x3, y3⟩ := empty_facts _ e3
    by_cases e4 : t.name.size = 0
    ·obtain ⟨x4, y4⟩ := empty_facts _ e4
     have R : noMore t = true := by
      unfold noMore emptyB
      simp [e1, d2, e3, e4]
     rw [R];clear R;as_aux_lemma =>
     go_enter Tryz.func225, Tryz.ntmps225
     go_wp2_with fail
     go_ret;exact ⟨rfl, below_new (Below.refl _ _) _⟩
    ·obtain ⟨x4, y4⟩ := full_facts _ e4
     have R : noMore t = false := by
      unfold noMore emptyB
      simp [e4]
     rw [R];clear R;as_aux_lemma =>
     go_enter Tryz.func225, Tryz.ntmps225
     go_wp2_with fail
     go_ret;exact ⟨rfl, below_new (Below.refl _ _) _⟩
   ·obtain ⟨x3, y3⟩ := full_facts _ e3
    have R : noMore t = false := by
     unfold noMore emptyB
     simp [e3]
    rw [R];clear R;as_aux_lemma =>
    go_enter Tryz.func225, Tryz.ntmps225
    go_wp2_with fail
    go_ret;exact ⟨rfl, below_new (Below.refl _ _) _⟩
 ·obtain ⟨x1, y1⟩ := full_facts _ e1
  have R : noMore t = false := by
   unfold noMore emptyB
   simp [e1]
  rw [R];clear R;as_aux_lemma =>
  go_enter Tryz.func225, Tryz.ntmps225
  go_wp2_with fail
  go_ret;exact ⟨rfl, below_new (Below.refl _ _) _⟩
theorem mayLocal_any (t : Ty) (v : Value) (w : World) (hv : TyV w v t) :
  Calls Tryz.prog 227 #[v] w fun e w' => e = .returned (.bool (localOk t)) /\ Below w.heap.size w w' := by
 obtain ⟨l, rfl, hT⟩ := hv
 obtain ⟨An, cn, As, cs, rfl, zp, zm, za, hzn, hz, hN, -⟩ := hT.parts
 clear hT hN
 by_cases e1 : t.pkg.size = 0
 ·obtain ⟨x1, y1⟩ := empty_facts _ e1
  rcases hid_or (t.major == 0) with e2 | e2
  ·have d2 := e2.out
   have R : Hid (localOk t = false) := hZ (by
    unfold localOk emptyB
    simp [d2])
   rw [R.out];clear R;as_aux_lemma =>
   go_enter Tryz.func227, Tryz.ntmps227
   go_wp2_with fail
   go_ret;exact ⟨rfl, below_new (Below.refl _ _) _⟩
  ·have d2 := e2.out
   by_cases e3 : t.mod.size = 0
   ·obtain ⟨x3, y3⟩ := empty_facts _ e3
    rcases hid_or (greatB t.name.data.toList) with g1 | g1
    ·skip
     have R : Hid (localOk t = false) := hZ (by
      unfold localOk emptyB
      simp [e1, d2, e3, g1.out])
     rw [R.out];clear R;as_aux_lemma =>
     go_enter Tryz.func227, Tryz.ntmps227
     go_wp2_with fail
     refine (great_any _ _ za).mono ?_; rintro e w2 ⟨rfl, rfl⟩; rw [g1.out]
     go_wp2_with fail
     go_ret;exact ⟨rfl, below_new (Below.refl _ _) _⟩
    ·skip
     have R : Hid (localOk t = true) := hZ (by
      unfold localOk emptyB
      simp [e1, d2, e3, g1.out])
     rw [R.out];clear R;as_aux_lemma =>
     go_enter Tryz.func227, Tryz.ntmps227
     go_wp2_with fail
     refine (great_any _ _ za).mono ?_; rintro e w2 ⟨rfl, rfl⟩; rw [g1.out]
     go_wp2_with fail
     go_ret;exact ⟨rfl, below_new (Below.refl _ _) _⟩
   ·obtain ⟨x3, y3⟩ := full_facts _ e3
    rcases hid_or (smallB t.mod.data.toList) with s1 | s1
    ·skip
     have R : Hid (localOk t = false) := hZ (by
      unfold localOk emptyB
      simp [e3, s1.out])
     rw [R.out];clear R;as_aux_lemma =>
     go_enter Tryz.func227, Tryz.ntmps227
     go_wp2_with fail
     refine (small_any _ _ zm).mono ?_; rintro e w1 ⟨rfl, rfl⟩; rw [s1.out]
     go_wp2_with fail
     go_ret;exact ⟨rfl, below_new (Below.refl _ _) _⟩
    ·skip
     rcases hid_or (greatB t.name.data.toList) with g1 | g1
     ·skip
      have R : Hid (localOk t = false) := hZ (by
       unfold localOk emptyB
       simp [e1, d2, e3, s1.out, g1.out])
      rw [R.out];clear R;as_aux_lemma =>
      go_enter Tryz.func227, Tryz.ntmps227
      go_wp2_with fail
      refine (small_any _ _ zm).mono ?_; rintro e w1 ⟨rfl, rfl⟩; rw [s1.out]
      go_wp2_with fail
      refine (great_any _ _ za).mono ?_; rintro e w2 ⟨rfl, rfl⟩; rw [g1.out]
      go_wp2_with fail
      go_ret;exact ⟨rfl, below_new (Below.refl _ _) _⟩
     ·skip
      have R : Hid (localOk t = true) := hZ (by
       unfold localOk emptyB
       simp [e1, d2, e3, s1.out, g1.out])
      rw [R.out];clear R;as_aux_lemma =>
      go_enter Tryz.func227, Tryz.ntmps227
      go_wp2_with fail
      refine (small_any _ _ zm).mono ?_; rintro e w1 ⟨rfl, rfl⟩; rw [s1.out]
      go_wp2_with fail
      refine (great_any _ _ za).mono ?_; rintro e w2 ⟨rfl, rfl⟩; rw [g1.out]
      go_wp2_with fail
      go_ret;exact ⟨rfl, below_new (Below.refl _ _) _⟩
 ·obtain ⟨x1, y1⟩ := full_facts _ e1
  have R : Hid (localOk t = false) := hZ (by
   unfold localOk emptyB
   simp [e1])
  rw [R.out];clear R;as_aux_lemma =>
  go_enter Tryz.func227, Tryz.ntmps227
  go_wp2_with fail
  go_ret;exact ⟨rfl, below_new (Below.refl _ _) _⟩
theorem mayOpen_any (t : Ty) (v : Value) (w : World) (hv : TyV w v t) :
  Calls Tryz.prog 228 #[v] w fun e w' => e = .returned (.bool (openOk t)) /\ Below w.heap.size w w' := by
 obtain ⟨l, rfl, hT⟩ := hv
 obtain ⟨An, cn, As, cs, rfl, zp, zm, za, hzn, hz, hN, -⟩ := hT.parts
 clear hT hN
 rcases hid_or (smallB t.pkg.data.toList) with s1 | s1
 ·skip
  have R : Hid (openOk t = false) := hZ (by
   unfold openOk
   simp [s1.out])
  rw [R.out];clear R;as_aux_lemma =>
  go_enter Tryz.func228, Tryz.ntmps228
  go_wp2_with fail
  refine (small_any _ _ zp).mono ?_; rintro e w1 ⟨rfl, rfl⟩; rw [s1.out]
  go_wp2_with fail
  go_ret;exact ⟨rfl, below_new (Below.refl _ _) _⟩
 ·by_cases l1 : 1 <= t.major
  ·by_cases l2 : t.major <= 999999999
   ·rcases hid_or (smallB t.mod.data.toList) with s2 | s2
    ·skip
     have R : Hid (openOk t = false) := hZ (by
      unfold openOk
      simp [s2.out])
     rw [R.out];clear R;as_aux_lemma =>
     go_enter Tryz.func228, Tryz.ntmps228
     go_wp2_with fail
     refine (small_any _ _ zp).mono ?_; rintro e w1 ⟨rfl, rfl⟩; rw [s1.out]
     go_wp2_with fail
     refine (small_any _ _ zm).mono ?_; rintro e w2 ⟨rfl, rfl⟩; rw [s2.out]
     go_wp2_with fail
     go_ret;exact ⟨rfl, below_new (Below.refl _ _) _⟩
    ·rcases hid_or (greatB t.name.data.toList) with g1 | g1
     ·skip
      have R : Hid (openOk t = false) := hZ (by
       unfold openOk
       simp [g1.out])
      rw [R.out];clear R;as_aux_lemma =>
      go_enter Tryz.func228, Tryz.ntmps228
      go_wp2_with fail
      refine (small_any _ _ zp).mono ?_; rintro e w1 ⟨rfl, rfl⟩; rw [s1.out]
      go_wp2_with fail
      refine (small_any _ _ zm).mono ?_; rintro e w2 ⟨rfl, rfl⟩; rw [s2.out]
      go_wp2_with fail
      refine (great_any _ _ za).mono ?_; rintro e w3 ⟨rfl, rfl⟩; rw [g1.out]
      go_wp2_with fail
      go_ret;exact ⟨rfl, below_new (Below.refl _ _) _⟩
     ·skip
      have R : Hid (openOk t = true) := hZ (by
       unfold openOk
       simp [s1.out, l1, l2, s2.out, g1.out])
      rw [R.out];clear R;as_aux_lemma =>
      go_enter Tryz.func228, Tryz.ntmps228
      go_wp2_with fail
      refine (small_any _ _ zp).mono ?_; rintro e w1 ⟨rfl, rfl⟩; rw [s1.out]
      go_wp2_with fail
      refine (small_any _ _ zm).mono ?_; rintro e w2 ⟨rfl, rfl⟩; rw [s2.out]
      go_wp2_with fail
      refine (great_any _ _ za).mono ?_; rintro e w3 ⟨rfl, rfl⟩; rw [g1.out]
      go_wp2_with fail
      go_ret;exact ⟨rfl, below_new (Below.refl _ _) _⟩
   ·skip
    have R : Hid (openOk t = false) := hZ (by
     unfold openOk
     simp [l2])
    rw [R.out];clear R;as_aux_lemma =>
    go_enter Tryz.func228, Tryz.ntmps228
    go_wp2_with fail
    refine (small_any _ _ zp).mono ?_; rintro e w1 ⟨rfl, rfl⟩; rw [s1.out]
    go_wp2_with fail
    go_ret;exact ⟨rfl, below_new (Below.refl _ _) _⟩
  ·skip
   have R : Hid (openOk t = false) := hZ (by
    unfold openOk
    simp [l1])
   rw [R.out];clear R;as_aux_lemma =>
   go_enter Tryz.func228, Tryz.ntmps228
   go_wp2_with fail
   refine (small_any _ _ zp).mono ?_; rintro e w1 ⟨rfl, rfl⟩; rw [s1.out]
   go_wp2_with fail
   go_ret;exact ⟨rfl, below_new (Below.refl _ _) _⟩
theorem rising_small (A : Option Addr) (c n : Nat) (names : List ByteArray) (w : World) (hn : names.length = n) (hz : n <= 9223372036854775807) (hN : NamesAt w A names) :
  Calls Tryz.prog 226 #[.slice A n c, .func (.func 62) #[] #[]] w fun e w' => e = .returned (.bool (risingB smallB names)) /\ w = w' := by
 have HN := hZ hN
 have HQ := hZ hn
 clear hN hn
 go_enter Tryz.func226, Tryz.ntmps226
 go_wp2_with fail
 go_loop [9] (fun i => ∃ k : Nat, k <= n /\ i = .int .i64 k /\ Hid (∀ j, j < k -> badFor smallB names j = false)) (fun i => n - (intOf i).toNat)
 case atStart => exact ⟨0, by omega, rfl, hZ (fun j h => by omega)⟩
 case round =>
  obtain ⟨k, hk, rfl, HP⟩ := hrel;by_cases hlt : k < n
  ·obtain ⟨s, hs⟩ : ∃ s, names[k]? = some s := ⟨_, List.getElem?_eq_getElem (by rw [HQ.out]; exact hlt)⟩
   obtain ⟨g, o, rfl, hgo, hcs, hzs⟩ := HN.out k s hs;have hna := nameAt_of0 hs;rcases hid_or (smallB s.data.toList) with h1 | h1
   ·have R : Hid (risingB smallB names = false) := hZ (rising_no (i := k) (by rw [HQ.out]; exact hlt) (by unfold badFor; rw [hna, h1.out]; rfl))
    clear hna hs;go_wp2_with fail
    refine (small_any _ _ hzs).mono ?_; rintro e w1 ⟨rfl, rfl⟩; rw [h1.out]
    go_wp2_with fail
    go_ret;exact ⟨ret_bool R.out, rfl⟩
   ·rcases Nat.eq_zero_or_pos k with hk0 | hk0
    ·have hp : ¬ (0 : Int) < k := by omega
     have hb : Hid (badFor smallB names k = false) := hZ (by unfold badFor; rw [hna, h1.out, show decide (0 < k) = false by simp; omega]; rfl);clear hna hs hk0;go_wp2_with fail
     refine (small_any _ _ hzs).mono ?_; rintro e w1 ⟨rfl, rfl⟩; rw [h1.out]
     go_wp2_with fail
     go_round
     case rel => exact ⟨k + 1, by omega, by go_num, hZ (fun j hj => by
      rcases Nat.lt_or_ge j k with a | a
      ·exact HP.out j a
      ·rw [show j = k by omega]; exact hb.out)⟩
     case measure => simp [intOf]; omega
    ·obtain ⟨p, hps⟩ : ∃ p, names[k - 1]? = some p := ⟨_, List.getElem?_eq_getElem (by rw [HQ.out]; omega)⟩
     obtain ⟨g2, o2, eg, hg2, hc2, -⟩ := HN.out (k - 1) p hps;obtain ⟨rfl, rfl⟩ : g = g2 /\ o = o2 := by simpa using eg
     have hna2 := nameAt_of0 hps;have hp : (0 : Int) < k := by omega
     have hp1 : 1 <= (k : Int) := by omega
     rcases hid_or (!Op.bytesLess p.toList s.toList) with hL | hL
     ·have hl := hL.out
      have hb : Hid (badFor smallB names k = false) := hZ (by unfold badFor; rw [hna, hna2, h1.out, leS_eq, hl]; simp);clear hna hna2 eg hg2 hps hk0 hs;go_wp2_with fail
      refine (small_any _ _ hzs).mono ?_; rintro e w1 ⟨rfl, rfl⟩; rw [h1.out]
      go_wp2_with fail
      go_round
      case rel => exact ⟨k + 1, by omega, by go_num, hZ (fun j hj => by
       rcases Nat.lt_or_ge j k with a | a
       ·exact HP.out j a
       ·rw [show j = k by omega]; exact hb.out)⟩
      case measure => simp [intOf]; omega
     ·have hl := hL.out
      have R : Hid (risingB smallB names = false) := hZ (rising_no (i := k) (by rw [HQ.out]; exact hlt) (by unfold badFor; rw [hna, hna2, h1.out, leS_eq, hl, show decide (0 < k) = true by simp; omega]; rfl));clear hna hna2 eg hg2 hps hk0 hs;go_wp2_with fail
      refine (small_any _ _ hzs).mono ?_; rintro e w1 ⟨rfl, rfl⟩; rw [h1.out]
      go_wp2_with fail
      go_ret;exact ⟨ret_bool R.out, rfl⟩
  ·have R : Hid (risingB smallB names = true) := hZ ((rising_iff _ _).2 (fun i hi => HP.out i (by rw [HQ.out] at hi; omega)))
   go_wp2_with fail
   go_ret;exact ⟨ret_bool R.out, rfl⟩
theorem rising_great (A : Option Addr) (c n : Nat) (names : List ByteArray) (w : World) (hn : names.length = n) (hz : n <= 9223372036854775807) (hN : NamesAt w A names) :
  Calls Tryz.prog 226 #[.slice A n c, .func (.func 96) #[] #[]] w fun e w' => e = .returned (.bool (risingB greatB names)) /\ w = w' := by
 have HN := hZ hN
 have HQ := hZ hn
 clear hN hn
 go_enter Tryz.func226, Tryz.ntmps226
 go_wp2_with fail
 go_loop [9] (fun i => ∃ k : Nat, k <= n /\ i = .int .i64 k /\ Hid (∀ j, j < k -> badFor greatB names j = false)) (fun i => n - (intOf i).toNat)
 case atStart => exact ⟨0, by omega, rfl, hZ (fun j h => by omega)⟩
 case round =>
  obtain ⟨k, hk, rfl, HP⟩ := hrel;by_cases hlt : k < n
  ·obtain ⟨s, hs⟩ : ∃ s, names[k]? = some s := ⟨_, List.getElem?_eq_getElem (by rw [HQ.out]; exact hlt)⟩
   obtain ⟨g, o, rfl, hgo, hcs, hzs⟩ := HN.out k s hs;have hna := nameAt_of0 hs;rcases hid_or (greatB s.data.toList) with h1 | h1
   ·have R : Hid (risingB greatB names = false) := hZ (rising_no (i := k) (by rw [HQ.out]; exact hlt) (by unfold badFor; rw [hna, h1.out]; rfl))
    clear hna hs;go_wp2_with fail
    refine (great_any _ _ hzs).mono ?_; rintro e w1 ⟨rfl, rfl⟩; rw [h1.out]
    go_wp2_with fail
    go_ret;exact ⟨ret_bool R.out, rfl⟩
   ·rcases Nat.eq_zero_or_pos k with hk0 | hk0
    ·have hp : ¬ (0 : Int) < k := by omega
     have hb : Hid (badFor greatB names k = false) := hZ (by unfold badFor; rw [hna, h1.out, show decide (0 < k) = false by simp; omega]; rfl);clear hna hs hk0;go_wp2_with fail
     refine (great_any _ _ hzs).mono ?_; rintro e w1 ⟨rfl, rfl⟩; rw [h1.out]
     go_wp2_with fail
     go_round
     case rel => exact ⟨k + 1, by omega, by go_num, hZ (fun j hj => by
      rcases Nat.lt_or_ge j k with a | a
      ·exact HP.out j a
      ·rw [show j = k by omega]; exact hb.out)⟩
     case measure => simp [intOf]; omega
    ·obtain ⟨p, hps⟩ : ∃ p, names[k - 1]? = some p := ⟨_, List.getElem?_eq_getElem (by rw [HQ.out]; omega)⟩
     obtain ⟨g2, o2, eg, hg2, hc2, -⟩ := HN.out (k - 1) p hps;obtain ⟨rfl, rfl⟩ : g = g2 /\ o = o2 := by simpa using eg
     have hna2 := nameAt_of0 hps;have hp : (0 : Int) < k := by omega
     have hp1 : 1 <= (k : Int) := by omega
     rcases hid_or (!Op.bytesLess p.toList s.toList) with hL | hL
     ·have hl := hL.out
      have hb : Hid (badFor greatB names k = false) := hZ (by unfold badFor; rw [hna, hna2, h1.out, leS_eq, hl]; simp);clear hna hna2 eg hg2 hps hk0 hs;go_wp2_with fail
      refine (great_any _ _ hzs).mono ?_; rintro e w1 ⟨rfl, rfl⟩; rw [h1.out]
      go_wp2_with fail
      go_round
      case rel => exact ⟨k + 1, by omega, by go_num, hZ (fun j hj => by
       rcases Nat.lt_or_ge j k with a | a
       ·exact HP.out j a
       ·rw [show j = k by omega]; exact hb.out)⟩
      case measure => simp [intOf]; omega
     ·have hl := hL.out
      have R : Hid (risingB greatB names = false) := hZ (rising_no (i := k) (by rw [HQ.out]; exact hlt) (by unfold badFor; rw [hna, hna2, h1.out, leS_eq, hl, show decide (0 < k) = true by simp; omega]; rfl));clear hna hna2 eg hg2 hps hk0 hs;go_wp2_with fail
      refine (great_any _ _ hzs).mono ?_; rintro e w1 ⟨rfl, rfl⟩; rw [h1.out]
      go_wp2_with fail
      go_ret;exact ⟨ret_bool R.out, rfl⟩
  ·have R : Hid (risingB greatB names = true) := hZ ((rising_iff _ _).2 (fun i hi => HP.out i (by rw [HQ.out] at hi; omega)))
   go_wp2_with fail
   go_ret;exact ⟨ret_bool R.out, rfl⟩
end Go.Proofs.YteecgiebimdbhaaGreatDoor
namespace Go.Proofs.YteecgiebimdbhaaGreatDoor.M
open Go Go.Lib
theorem nd_small {u : Nat} (h : u < 10) : decDigits u = [UInt8.ofNat (48 + u)] := by rw [decDigits, dif_pos h]
theorem nd_big {u : Nat} (h : 10 <= u) : decDigits u = decDigits (u / 10) ++ [UInt8.ofNat (48 + u % 10)] := by rw [decDigits, dif_neg (by omega)]
theorem nd_nat {n : Nat} (h : n < 256) : (UInt8.ofNat n).toNat = n := by simp; omega
theorem nd_ne (u : Nat) : decDigits u ≠ [] := by
  by_cases h : u < 10
  · rw [nd_small h]; simp
  · rw [nd_big (by omega)]; simp
theorem nd_mem : ∀ (n u : Nat), u < n -> ∀ c ∈ decDigits u, 48 <= c.toNat /\ c.toNat <= 57
  | 0, _, h => by omega
  | n + 1, u, h => by
    intro c hc;by_cases hs : u < 10
    · rw [nd_small hs] at hc
      simp only [List.mem_singleton] at hc;rw [hc, nd_nat (by omega)]; omega
    · rw [nd_big (by omega)] at hc
      rcases List.mem_append.1 hc with hc | hc
      · exact nd_mem n (u / 10) (by omega) c hc
      · simp only [List.mem_singleton] at hc
        rw [hc, nd_nat (by omega)]; omega
theorem nd_head : ∀ (n u : Nat), u < n -> 1 <= u -> 48 < bt (decDigits u) 0
  | 0, _, h, _ => by omega
  | n + 1, u, h, h1 => by
    by_cases hs : u < 10
    · rw [nd_small hs]
      have := nd_nat (n := 48 + u) (by omega)
      show (48 : Int) < (((UInt8.ofNat (48 + u)).toNat : Nat) : Int)
      omega
    · rw [nd_big (by omega)]
      have ih := nd_head n (u / 10) (by omega) (by omega);have hne := nd_ne (u / 10);cases hd : decDigits (u / 10) with
      | nil => exact absurd hd hne
      | cons a t => rw [hd] at ih; exact ih
theorem nd_len : ∀ (k u : Nat), u < 10 ^ (k + 1) -> (decDigits u).length <= k + 1
  | 0, u, h => by rw [nd_small (by simpa using h)]; simp
  | k + 1, u, h => by
    by_cases hs : u < 10
    · rw [nd_small hs]; simp
    · rw [nd_big (by omega), List.length_append]
      have := nd_len k (u / 10) (by rw [Nat.pow_succ] at h; omega)
      simp; omega
theorem nd_digs : ∀ (n u : Nat), u < n -> digs (decDigits u) 0 = u
  | 0, _, h => by omega
  | n + 1, u, h => by
    by_cases hs : u < 10
    · rw [nd_small hs]
      have := nd_nat (n := 48 + u) (by omega)
      show 10 * (0 : Int) + ((((UInt8.ofNat (48 + u)).toNat : Nat) : Int) - 48) = u
      omega
    · have := nd_nat (n := 48 + u % 10) (by omega)
      rw [nd_big (by omega), digs_snoc, nd_digs n (u / 10) (by omega)];omega
theorem mem_dig {l : List UInt8} (h : ∀ j, j < l.length -> digC (bt l j) = true) : ∀ c ∈ l, 48 <= c.toNat /\ c.toNat <= 57 := fun c hc => by
  obtain ⟨j, hj⟩ := List.getElem?_of_mem hc;have hl := (List.getElem?_eq_some_iff.1 hj).1;have := h j hl
  unfold digC bt at this
  rw [List.getD_eq_getElem?_getD, hj] at this;simp at this;omega
theorem of_digs : ∀ (n : Nat) (l : List UInt8), l.length = n -> 1 <= n -> (∀ c ∈ l, 48 <= c.toNat /\ c.toNat <= 57) -> 48 < bt l 0 -> 1 <= digs l 0 /\ decDigits (digs l 0).toNat = l
  | 0, _, _, h, _, _ => by omega
  | n + 1, l, hl, _, hm, h0 => by
    have hne : l ≠ [] := fun e => by rw [e] at hl; cases hl
    obtain ⟨l', c, rfl⟩ : ∃ l' c, l = l' ++ [c] := ⟨l.dropLast, l.getLast hne, (List.dropLast_concat_getLast hne).symm⟩;have hc := hm c (by simp)
    have hcc : UInt8.ofNat (48 + (c.toNat - 48)) = c := by
      rw [show 48 + (c.toNat - 48) = c.toNat by omega]; simp
    rw [digs_snoc];by_cases hn : n = 0
    · subst hn
      have e : l' = [] := List.length_eq_zero_iff.1 (by simpa using hl);subst e
      have h1 : 48 < c.toNat := by
        have : (48 : Int) < ((c.toNat : Nat) : Int) := h0
        omega
      have hv : (10 * digs [] 0 + (((c.toNat : Nat) : Int) - 48)).toNat = c.toNat - 48 := by
        show (10 * (0 : Int) + (((c.toNat : Nat) : Int) - 48)).toNat = _
        omega
      refine ⟨by show (1 : Int) <= 10 * 0 + _; omega, ?_⟩;rw [hv, nd_small (by omega), hcc]; rfl
    · have hl' : l'.length = n := by simpa using hl
      have hb : bt (l' ++ [c]) 0 = bt l' 0 := by
        unfold bt
        cases l' with
        | nil => simp at hl'; omega
        | cons a t => rfl
      rw [hb] at h0;obtain ⟨h1, h2⟩ := of_digs n l' hl' (by omega) (fun x hx => hm x (by simp [hx])) h0;generalize digs l' 0 = m at h1 h2
      refine ⟨by omega, ?_⟩;have e1 : (10 * m + (((c.toNat : Nat) : Int) - 48)).toNat / 10 = m.toNat := by omega
      have e2 : (10 * m + (((c.toNat : Nat) : Int) - 48)).toNat % 10 = c.toNat - 48 := by omega
      rw [nd_big (by omega), e1, e2, h2, hcc]
theorem digs_lt : ∀ (l : List UInt8) (a : Int) (k : Nat), 0 <= a -> a < (10 ^ k : Nat) -> (∀ c ∈ l, 48 <= c.toNat /\ c.toNat <= 57) -> 0 <= digs l a /\ digs l a < (10 ^ (k + l.length) : Nat)
  | [], a, k, h0, h1, _ => ⟨h0, h1⟩
  | c :: r, a, k, h0, h1, hm => by
    have hc := hm c (by simp);have e : (10 ^ (k + 1) : Nat) = 10 * 10 ^ k := by rw [Nat.pow_succ, Nat.mul_comm]
    have := digs_lt r (10 * a + ((c.toNat : Int) - 48)) (k + 1) (by omega) (by rw [e]; push_cast; push_cast at h1; omega) (fun x hx => hm x (by simp [hx]))
    rw [show k + (c :: r).length = k + 1 + r.length by simp; omega];exact this
theorem dec_digs : ∀ (l : List UInt8) (a : Nat), (∀ c ∈ l, 48 <= c.toNat /\ c.toNat <= 57) -> ∃ n : Nat, decFrom a l = some n /\ (n : Int) = digs l a
  | [], a, _ => ⟨a, rfl, rfl⟩
  | c :: r, a, hm => by
    have hc := hm c (by simp);have hd : digitVal c = some (c.toNat - 48) := by unfold digitVal; rw [if_pos (by omega)]
    obtain ⟨n, h1, h2⟩ := dec_digs r (a * 10 + (c.toNat - 48)) (fun x hx => hm x (by simp [hx]));refine ⟨n, by simp only [decFrom, hd]; exact h1, ?_⟩;rw [h2];show digs r _ = digs r _
    congr 1; omega
theorem num_yes {l : List UInt8} (h : majorOk l = true) : atoiAll l = .ok (digs l 0) /\ 1 <= digs l 0 /\ digs l 0 <= 999999999 /\ decDigits (digs l 0).toNat = l := by
  obtain ⟨h1, h9, hd, h0⟩ := (majorOk_iff l).1 h;have hm := mem_dig hd;obtain ⟨p1, p2⟩ := of_digs l.length l rfl h1 hm h0;have hb := digs_lt l 0 0 (by omega) (by decide) hm;have hp : 10 ^ (0 + l.length) <= 10 ^ 9 := Nat.pow_le_pow_right (by decide) (by omega);have e9 : (10 : Nat) ^ 9 = 1000000000 := by decide
  refine ⟨?_, p1, by omega, p2⟩;rw [atoiAll_short l (by omega)];cases l with
  | nil => simp at h1
  | cons c r =>
    have hc := hm c (by simp)
    have n45 : (c == 45) = false := by
      rw [beq_eq_false_iff_ne]; intro e; rw [e] at hc
      have : (45 : UInt8).toNat = 45 := rfl
      omega
    have n43 : (c == 43) = false := by
      rw [beq_eq_false_iff_ne]; intro e; rw [e] at hc
      have : (43 : UInt8).toNat = 43 := rfl
      omega
    obtain ⟨n, e1, e2⟩ := dec_digs (c :: r) 0 hm;unfold atoi decNat
    simp only [n45, n43];rw [show (decFrom 0 (c :: r)) = some n from e1];simp [NumEnd.ofOption, e2]
theorem num_of {l : List UInt8} {v : Int} (h1 : 1 <= v) (h9 : v <= 999999999) (h : decDigits v.toNat = l) : majorOk l = true /\ digs l 0 = v := by
  subst h
  have hl := nd_len 8 v.toNat (by have : (10 : Nat) ^ (8 + 1) = 1000000000 := by decide
                                  omega)
  have hne := nd_ne v.toNat;refine ⟨(majorOk_iff _).2 ⟨?_, hl, fun j hj => ?_, nd_head (v.toNat + 1) v.toNat (by omega) (by omega)⟩, by rw [nd_digs (v.toNat + 1) v.toNat (by omega)]; omega⟩
  · rcases Nat.eq_zero_or_pos (decDigits v.toNat).length with e | e
    · exact absurd (List.length_eq_zero_iff.1 e) hne
    · exact e
  · have := nd_mem (v.toNat + 1) v.toNat (by omega) _ (List.getElem_mem hj)
    unfold digC bt
    rw [List.getD_eq_getElem?_getD, List.getElem?_eq_getElem hj];simp;omega
end Go.Proofs.YteecgiebimdbhaaGreatDoor.M
namespace Go.Proofs.YteecgiebimdbhaaGreatDoor.M
open Go
theorem deep_pos (t : Ty) : 1 <= deep t := by cases t; simp [deep]
theorem deepL_append : ∀ (a b : List Ty), deepL (a ++ b) = max (deepL a) (deepL b)
  | [], b => by simp [deepL]
  | t :: r, b => by simp only [List.cons_append, deepL, deepL_append r b]; omega
end Go.Proofs.YteecgiebimdbhaaGreatDoor.M
namespace Go.Proofs.YteecgiebimdbhaaGreatDoor.M
open Go
end Go.Proofs.YteecgiebimdbhaaGreatDoor.M
namespace Go.Proofs.YteecgiebimdbhaaGreatDoor
open Go.RowKit
open Go.Sort
open M
def CGd (q : Nat) (A : Option Addr) (n cn i : Nat) (w : World) : Prop := w.heap[q]? = some (.cells #[.slice A n cn, .int .i64 i, .nilIface] 114 (0, 0))
def CBd (q : Nat) (A : Option Addr) (n cn b j : Nat) (w : World) : Prop :=
  ∃ (x : Int) (g : Nat), w.heap[q]? = some (.cells #[.slice A n cn, .int .i64 x, .iface 89 (.pointer (some ⟨g, 0, none⟩))] 114 (0, 0)) /\
    w.heap[g]? = some (.cells #[.int .i64 j, .iface 32 (.int .i64 b)] 94 (0, 0))
def CSt (q : Nat) (A : Option Addr) (n cn i b : Nat) (w : World) : Prop := (b = 0 /\ CGd q A n cn i w) \/ (b ≠ 0 /\ CBd q A n cn b i w)
theorem CGd.lt {q : Nat} {A : Option Addr} {n cn i : Nat} {w : World} (h : CGd q A n cn i w) : q < w.heap.size := (Array.getElem?_eq_some_iff.1 h).1
theorem CBd.lt {q : Nat} {A : Option Addr} {n cn b j : Nat} {w : World} (h : CBd q A n cn b j w) : q < w.heap.size := by
  obtain ⟨x, g, h, -⟩ := h;exact (Array.getElem?_eq_some_iff.1 h).1
theorem CSt.lt {q : Nat} {A : Option Addr} {n cn i b : Nat} {w : World} (h : CSt q A n cn i b w) : q < w.heap.size := by
  rcases h with ⟨-, h⟩ | ⟨-, h⟩
  · exact h.lt
  · exact h.lt
theorem CSt.typ {q : Nat} {A : Option Addr} {n cn i b : Nat} {w : World} (h : CSt q A n cn i b w) : ∃ vs : Array Value, w.heap[q]? = some (.cells vs 114 (0, 0)) := by
  rcases h with ⟨-, h⟩ | ⟨-, x, g, h, -⟩
  · exact ⟨_, h⟩
  · exact ⟨_, h⟩
theorem two_types {w : World} {a b : Nat} {va vb : Array Value} {Ta Tb : TypeId} {fa fb : Nat × Nat} (ha : w.heap[a]? = some (.cells va Ta fa)) (hb : w.heap[b]? = some (.cells vb Tb fb)) (hT : Ta ≠ Tb) : a ≠ b := fun e => by
  subst e;rw [ha] at hb;simp only [Option.some.injEq, Obj.cells.injEq] at hb;exact hT hb.2.1
theorem CSt.keep {q : Nat} {A : Option Addr} {n cn i b : Nat} {w w' : World} (h : CSt q A n cn i b w) (e : w'.heap[q]? = w.heap[q]?) (eg : ∀ (g : Nat) (vs : Array Value) (fr : Nat × Nat), w.heap[g]? = some (Obj.cells vs 94 fr) -> w'.heap[g]? = w.heap[g]?) : CSt q A n cn i b w' := by
  rcases h with ⟨h0, h⟩ | ⟨h0, x, g, h1, h2⟩
  · exact .inl ⟨h0, e.trans h⟩
  · exact .inr ⟨h0, x, g, e.trans h1, (eg g _ _ h2).trans h2⟩
theorem CSt.below {q : Nat} {A : Option Addr} {n cn i b : Nat} {w w' : World} (h : CSt q A n cn i b w) (hb : Below w.heap.size w w') : CSt q A n cn i b w' := h.keep (hb.block q h.lt) fun g _ _ hg => hb.block g (Array.getElem?_eq_some_iff.1 hg).1
theorem CSt.good {q : Nat} {A : Option Addr} {n cn i : Nat} {w : World} (h : CSt q A n cn i 0 w) : CGd q A n cn i w := by
  rcases h with ⟨-, h⟩ | ⟨h, -⟩
  · exact h
  · exact absurd rfl h
theorem CSt.bad {q : Nat} {A : Option Addr} {n cn i b : Nat} {w : World} (h : CSt q A n cn i b w) (hb : b ≠ 0) : CBd q A n cn b i w := by
  rcases h with ⟨h0, -⟩ | ⟨-, h⟩
  · exact absurd h0 hb
  · exact h
def tokV (k y : Int) (s : ByteArray) : Value := .agg #[.int .i64 k, .int .i64 y, .string s]
def smallK (k : Int) (s : ByteArray) : Bool := (k == 1) && smallB s.data.toList
def greatK (k : Int) (s : ByteArray) : Bool := (k == 2) && greatB s.data.toList
theorem isSmall_any (k y : Int) (s : ByteArray) (w : World) (hs : s.size <= 9223372036854775807) : Calls Tryz.prog 110 #[tokV k y s] w fun e w' => e = .returned (.bool (smallK k s)) /\ Below w.heap.size w w' := by
  unfold tokV
  have SM := hZ (fun w => small_any s w hs);rcases hid_or (k == 1) with a1 | a1
  · have b1 := a1.out
    have R : Hid (smallK k s = false) := hZ (by unfold smallK; rw [b1]; rfl);rw [R.out];go_enter Tryz.func110, Tryz.ntmps110
    go_wp2_with fail
    go_ret;exact ⟨rfl, below_new (Below.refl _ _) _⟩
  · have b1 := a1.out
    have R : Hid (smallK k s = smallB s.data.toList) := hZ (by unfold smallK; rw [b1]; rfl);rw [R.out];go_enter Tryz.func110, Tryz.ntmps110
    go_wp2_with fail
    refine (SM.out _).mono ?_; rintro e w1 ⟨rfl, rfl⟩
    go_wp2_with fail
    go_ret;exact ⟨rfl, below_new (Below.refl _ _) _⟩
theorem isGreat_any (k y : Int) (s : ByteArray) (w : World) (hs : s.size <= 9223372036854775807) : Calls Tryz.prog 112 #[tokV k y s] w fun e w' => e = .returned (.bool (greatK k s)) /\ Below w.heap.size w w' := by
  unfold tokV
  have SM := hZ (fun w => great_any s w hs);rcases hid_or (k == 2) with a1 | a1
  · have b1 := a1.out
    have R : Hid (greatK k s = false) := hZ (by unfold greatK; rw [b1]; rfl);rw [R.out];go_enter Tryz.func112, Tryz.ntmps112
    go_wp2_with fail
    go_ret;exact ⟨rfl, below_new (Below.refl _ _) _⟩
  · have b1 := a1.out
    have R : Hid (greatK k s = greatB s.data.toList) := hZ (by unfold greatK; rw [b1]; rfl);rw [R.out];go_enter Tryz.func112, Tryz.ntmps112
    go_wp2_with fail
    refine (SM.out _).mono ?_; rintro e w1 ⟨rfl, rfl⟩
    go_wp2_with fail
    go_ret;exact ⟨rfl, below_new (Below.refl _ _) _⟩
def signK (l : List UInt8) : Int := if l = [123] then 5 else if l = [91] then 6 else if l = [40] then 7 else if l = [60] then 9 else 0
def begunK (k : Int) (s : ByteArray) : Int := if smallK k s = true \/ greatK k s = true then 8 else if k = 2 then baseT s.data.toList else if k = 4 then signK s.data.toList else 0
theorem ofWord_any (s : ByteArray) (w : World) : Calls Tryz.prog 233 #[.string s] w fun e w' => e = .returned (.int .i64 (baseT s.data.toList)) /\ w = w' := by
  have E := hZ (show s.toList = s.data.toList from Lib.toList_data s);go_enter Tryz.func233, Tryz.ntmps233
  go_wp2
  all_goals go_ret
  all_goals refine ⟨ret_int' ?_, rfl⟩
  all_goals (rw [<- E.out]; clear E; simp_all [baseT])
theorem ofSign_any (s : ByteArray) (w : World) : Calls Tryz.prog 234 #[.string s] w fun e w' => e = .returned (.int .i64 (signK s.data.toList)) /\ w = w' := by
  have E := hZ (show s.toList = s.data.toList from Lib.toList_data s);go_enter Tryz.func234, Tryz.ntmps234
  go_wp2
  all_goals go_ret
  all_goals refine ⟨ret_int' ?_, rfl⟩
  all_goals (rw [<- E.out]; clear E; simp_all [signK])
theorem begun_any (k y : Int) (s : ByteArray) (w : World) (hs : s.size <= 9223372036854775807) : Calls Tryz.prog 193 #[tokV k y s] w fun e w' => e = .returned (.int .i64 (begunK k s)) /\ Below w.heap.size w w' := by
  obtain ⟨W1, hW1⟩ : ∃ W1, W1 = w.alloc (.cells #[.int .i64 k, .int .i64 y, .string s] 119) := ⟨_, rfl⟩;have B1 : Below w.heap.size w W1 := by rw [hW1]; exact below_new (Below.refl _ _) _
  have T1 : TokBox w.heap.size k y s W1 := by rw [hW1]; exact heap_alloc_new w _
  have SM := hZ (isSmall_any k y s W1 hs);have HW1 := hZ hW1;have t0 : W1.cell? ⟨w.heap.size, 0, none⟩ = some (.int .i64 k) := cZ T1 0;have t1 : W1.cell? ⟨w.heap.size, 1, none⟩ = some (.int .i64 y) := cZ T1 1;have t2 : W1.cell? ⟨w.heap.size, 2, none⟩ = some (.string s) := cZ T1 2;have HT1 := hZ T1;have HB1 := hZ B1;have hl1 : w.heap.size < W1.heap.size := (Array.getElem?_eq_some_iff.1 T1).1;clear hW1 B1 T1;unfold tokV
  unfold tokV at SM
  go_enter Tryz.func193, Tryz.ntmps193
  go_upto_region 1 with fail
  rw [<- HW1.out];go_wp2_with fail
  refine SM.out.mono ?_; rintro e w2 ⟨rfl, hb2⟩
  obtain ⟨q1, hq1⟩ : ∃ q1, smallK k s = q1 := ⟨_, rfl⟩;rw [hq1];have HQ1 := hZ hq1;have HB2 := hZ (below_over HB1.out hb2);have HT2 := hZ (HT1.out.on hb2);clear hq1 hb2 SM t0 t1 t2 HT1;cases q1 with
  | true =>
    have R : Hid (begunK k s = 8) := hZ (by unfold begunK; rw [if_pos (.inl HQ1.out)]);go_wp2_with fail
    go_ret;exact ⟨by rw [R.out]; rfl, HB2.out⟩
  | false =>
    have GM := hZ (isGreat_any k y s w2 hs);have t0 : w2.cell? ⟨w.heap.size, 0, none⟩ = some (.int .i64 k) := cZ HT2.out 0;have t1 : w2.cell? ⟨w.heap.size, 1, none⟩ = some (.int .i64 y) := cZ HT2.out 1;have t2 : w2.cell? ⟨w.heap.size, 2, none⟩ = some (.string s) := cZ HT2.out 2;unfold tokV at GM
    go_wp2_with fail
    refine GM.out.mono ?_; rintro e w3 ⟨rfl, hb3⟩
    obtain ⟨q2, hq2⟩ : ∃ q2, greatK k s = q2 := ⟨_, rfl⟩;rw [hq2];have HQ2 := hZ hq2;have HB3 := hZ (below_over HB2.out hb3);have HT3 := hZ (HT2.out.on hb3);clear hq2 hb3 GM t0 t1 t2 HT2
    have R0 : Hid (q2 = false -> begunK k s = if k = 2 then baseT s.data.toList else if k = 4 then signK s.data.toList else 0) := hZ (fun e => by
      unfold begunK
      rw [if_neg (by rw [HQ1.out, HQ2.out, e]; decide)])
    cases q2 with
    | true =>
      have R : Hid (begunK k s = 8) := hZ (by unfold begunK; rw [if_pos (.inr HQ2.out)]);go_wp2_with fail
      go_ret;exact ⟨by rw [R.out]; rfl, HB3.out⟩
    | false =>
      have t0 : w3.cell? ⟨w.heap.size, 0, none⟩ = some (.int .i64 k) := cZ HT3.out 0;have t2 : w3.cell? ⟨w.heap.size, 2, none⟩ = some (.string s) := cZ HT3.out 2;rcases hid_or (k == 2) with a2 | a2
      rotate_left
      · have b2 := a2.out
        have R : Hid (begunK k s = baseT s.data.toList) := hZ (by rw [R0.out rfl, if_pos (by simpa using b2)]);go_wp2_with fail
        refine (ofWord_any _ _).mono ?_; rintro e w4 ⟨rfl, rfl⟩
        go_wp2_with fail
        go_ret;exact ⟨by rw [R.out]; rfl, HB3.out⟩
      have b2 := a2.out;rcases hid_or (k == 4) with a4 | a4
      rotate_left
      · have b4 := a4.out
        have R : Hid (begunK k s = signK s.data.toList) := hZ (by rw [R0.out rfl, if_neg (by simpa using b2), if_pos (by simpa using b4)]);go_wp2_with fail
        refine (ofSign_any _ _).mono ?_; rintro e w4 ⟨rfl, rfl⟩
        go_wp2_with fail
        go_ret;exact ⟨by rw [R.out]; rfl, HB3.out⟩
      · have b4 := a4.out
        have R : Hid (begunK k s = 0) := hZ (by rw [R0.out rfl, if_neg (by simpa using b2), if_neg (by simpa using b4)]);go_wp2_with fail
        go_ret;exact ⟨by rw [R.out]; rfl, HB3.out⟩
end Go.Proofs.YteecgiebimdbhaaGreatDoor
