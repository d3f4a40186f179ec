/-
  Several texts in one.
-/
import Derived.Test.YtcdmgcgjonndpaaGreatDoorK06
set_option maxRecDepth 100000
set_option maxHeartbeats 4000000
namespace Go.Proofs.YtcdmgcgjonndpaaGreatDoor
open Go.RowKit
open M
def localOk (t : Ty) : Bool := emptyB t.pkg && (t.major == 0) && (emptyB t.mod || smallB t.mod.data.toList) && greatB t.name.data.toList
def openOk (t : Ty) : Bool := smallB t.pkg.data.toList && decide (1 <= t.major) && decide (t.major <= 999999999) && smallB t.mod.data.toList && greatB t.name.data.toList
def badFor (f : List UInt8 -> Bool) (names : List ByteArray) (i : Nat) : Bool := !f (nameAt names i).data.toList || (decide (0 < i) && leS (nameAt names i) (nameAt names (i - 1)))
def risingB (f : List UInt8 -> Bool) (names : List ByteArray) : Bool := (List.range names.length).all fun i => !badFor f names i
theorem rising_iff (f : List UInt8 -> Bool) (names : List ByteArray) : risingB f names = true ↔ ∀ i, i < names.length -> badFor f names i = false := by
 unfold risingB
 simp [List.all_eq_true]
theorem rising_no {f : List UInt8 -> Bool} {names : List ByteArray} {i : Nat} (hi : i < names.length) (h : badFor f names i = true) : risingB f names = false := by
 rw [Bool.eq_false_iff, ne_eq, rising_iff]
 intro a
 have := a i hi
 rw [h] at this; cases this
theorem leL : ∀ x y : List UInt8, (Op.bytesLess x y || x == y) = !Op.bytesLess y x
 | [], [] => rfl
 | [], b :: y => by simp [Op.bytesLess]
 | a :: x, [] => by simp [Op.bytesLess]
 | a :: x, b :: y => by
  have ih := leL x y;simp only [Op.bytesLess, List.cons_beq_cons];rcases Nat.lt_trichotomy a.toNat b.toNat with h | h | h
  ·have h1 : a < b := h
   have h2 : ¬ b < a := by intro (c : b.toNat < a.toNat); omega
   have h3 : (b == a) = false := by simp; intro e; subst e; exact absurd h (Nat.lt_irrefl _)
   simp [h1, h2, h3]
  ·have e : a = b := UInt8.toNat_inj.1 h
   subst e;have h1 : ¬ a < a := by intro (c : a.toNat < a.toNat); omega
   simp [h1, ih]
  ·have h1 : b < a := h
   have h2 : ¬ a < b := by intro (c : a.toNat < b.toNat); omega
   have h3 : (a == b) = false := by simp; intro e; subst e; exact absurd h (Nat.lt_irrefl _)
   simp [h1, h2, h3]
theorem leS_eq (a b : ByteArray) : leS a b = !Op.bytesLess b.toList a.toList := leL _ _
theorem names_small (names : List ByteArray) : namesOk 5 names = risingB smallB names := by
 have e : (fun i => !badName 5 names i) = (fun i => !badFor smallB names i) := by funext i; simp [badName, badFor]
 unfold namesOk risingB; rw [e]
theorem names_great (names : List ByteArray) : namesOk 6 names = risingB greatB names := by
 have e : (fun i => !badName 6 names i) = (fun i => !badFor greatB names i) := by funext i; simp [badName, badFor]
 unfold namesOk risingB; rw [e]
theorem names_none (k : Int) {names : List ByteArray} (h : names.length = 0) : namesOk k names = true := by
 unfold namesOk; rw [h]; rfl
def formT (t : Ty) : Bool :=
 if t.kind = 1 \/ t.kind = 2 \/ t.kind = 3 then decide (t.subs.length = 0) && decide (t.names.length = 0) && noMore t
 else if t.kind = 4 then decide (t.subs.length = 1) && decide (t.names.length = 0) && noMore t
 else if t.kind = 5 then decide (t.subs.length <= 20) && decide (t.names.length = t.subs.length) && risingB smallB t.names && noMore t
 else if t.kind = 6 then decide (1 <= t.subs.length) && decide (t.subs.length <= 20) && decide (t.names.length = t.subs.length) && risingB greatB t.names && noMore t
 else if t.kind = 7 then decide (1 <= t.subs.length) && decide (t.subs.length <= 20) && decide (t.names.length = 0) && noMore t
 else if t.kind = 8 then decide (t.subs.length = 0) && decide (t.names.length = 0) && localOk t
 else if t.kind = 9 then decide (t.subs.length = 0) && decide (t.names.length = 0) && openOk t
 else false
def formW (t : Ty) (n q : Nat) : Bool :=
 if t.kind = 1 \/ t.kind = 2 \/ t.kind = 3 then decide (n = 0) && decide (q = 0) && noMore t
 else if t.kind = 4 then decide (n = 1) && decide (q = 0) && noMore t
 else if t.kind = 5 then decide (n <= 20) && decide (q = n) && risingB smallB t.names && noMore t
 else if t.kind = 6 then decide (1 <= n) && decide (n <= 20) && decide (q = n) && risingB greatB t.names && noMore t
 else if t.kind = 7 then decide (1 <= n) && decide (n <= 20) && decide (q = 0) && noMore t
 else if t.kind = 8 then decide (n = 0) && decide (q = 0) && localOk t
 else if t.kind = 9 then decide (n = 0) && decide (q = 0) && openOk t
 else false
theorem formT_w (t : Ty) : formT t = formW t t.subs.length t.names.length := rfl
theorem formT_own (t : Ty) : formT t = ownOk t := by
 unfold formT ownOk shapeOk localOk openOk
 by_cases h : t.kind = 1 \/ t.kind = 2 \/ t.kind = 3
 ·simp only [if_pos h]
  by_cases h0 : t.names.length = 0
  ·rw [names_none _ h0, Bool.eq_iff_iff]; simp [h0] <;> (constructor <;> (intro a; simp_all))
  ·rw [Bool.eq_iff_iff]; simp [h0]
 simp only [if_neg h]
 by_cases h4 : t.kind = 4
 ·simp only [if_pos h4]
  by_cases h0 : t.names.length = 0
  ·rw [names_none _ h0, Bool.eq_iff_iff]; simp [h0] <;> (constructor <;> (intro a; simp_all))
  ·rw [Bool.eq_iff_iff]; simp [h0]
 simp only [if_neg h4]
 by_cases h5 : t.kind = 5
 ·simp only [if_pos h5]
  rw [h5, names_small];rw [Bool.eq_iff_iff]; simp only [Bool.and_eq_true, decide_eq_true_eq]
  constructor
  ·rintro ⟨⟨⟨a, b⟩, c⟩, d⟩; exact ⟨⟨a, c⟩, d, b.symm⟩
  ·rintro ⟨⟨a, c⟩, d, b⟩; exact ⟨⟨⟨a, b.symm⟩, c⟩, d⟩
 simp only [if_neg h5]
 by_cases h6 : t.kind = 6
 ·simp only [if_pos h6]
  rw [h6, names_great];rw [Bool.eq_iff_iff]; simp only [Bool.and_eq_true, decide_eq_true_eq]
  constructor
  ·rintro ⟨⟨⟨⟨e, a⟩, b⟩, c⟩, d⟩; exact ⟨⟨a, c⟩, ⟨d, b.symm⟩, by omega⟩
  ·rintro ⟨⟨a, c⟩, ⟨d, b⟩, e⟩; exact ⟨⟨⟨⟨by omega, a⟩, b.symm⟩, c⟩, d⟩
 simp only [if_neg h6]
 by_cases h7 : t.kind = 7
 ·simp only [if_pos h7]
  by_cases h0 : t.names.length = 0
  ·rw [names_none _ h0, Bool.eq_iff_iff]; simp only [Bool.and_eq_true, decide_eq_true_eq]
   constructor
   ·rintro ⟨⟨⟨e, a⟩, b⟩, d⟩; exact ⟨⟨a, trivial⟩, ⟨d, by omega⟩, h0⟩
   ·rintro ⟨⟨a, c⟩, ⟨d, b⟩, e⟩; exact ⟨⟨⟨by omega, a⟩, h0⟩, d⟩
  ·rw [Bool.eq_iff_iff]; simp [h0]
 simp only [if_neg h7]
 by_cases h8 : t.kind = 8
 ·simp only [if_pos h8]
  by_cases h0 : t.names.length = 0
  ·rw [names_none _ h0, Bool.eq_iff_iff]; simp only [Bool.and_eq_true, Bool.or_eq_true, decide_eq_true_eq]
   constructor
   ·rintro ⟨⟨a, b⟩, ⟨⟨c, d⟩, e⟩, f⟩; exact ⟨⟨by omega, trivial⟩, ⟨⟨⟨⟨a, h0⟩, c⟩, d⟩, f⟩, e.symm⟩
   ·rintro ⟨-, ⟨⟨⟨⟨a, b⟩, c⟩, d⟩, f⟩, e⟩; exact ⟨⟨a, h0⟩, ⟨⟨c, d⟩, e.symm⟩, f⟩
  ·rw [Bool.eq_iff_iff]; simp [h0]
 simp only [if_neg h8]
 by_cases h9 : t.kind = 9
 ·simp only [if_pos h9]
  by_cases h0 : t.names.length = 0
  ·rw [names_none _ h0, Bool.eq_iff_iff]; simp only [Bool.and_eq_true, decide_eq_true_eq]
   constructor
   ·rintro ⟨⟨a, b⟩, ⟨⟨⟨c, d⟩, e⟩, f⟩, g⟩; exact ⟨⟨by omega, trivial⟩, ⟨⟨⟨⟨⟨⟨a, h0⟩, c⟩, f⟩, g⟩, d⟩, e⟩⟩
   ·rintro ⟨-, ⟨⟨⟨⟨⟨a, b⟩, c⟩, f⟩, g⟩, d⟩, e⟩; exact ⟨⟨a, h0⟩, ⟨⟨⟨c, d⟩, e⟩, f⟩, g⟩
  ·rw [Bool.eq_iff_iff]; simp [h0]
 ·simp only [if_neg h9]; simp
theorem nameAt_of0 {l : List ByteArray} {i : Nat} {s : ByteArray} (h : l[i]? = some s) : nameAt l i = s := by
 unfold nameAt; rw [List.getD_eq_getElem?_getD, h]; rfl
theorem unnamed_any (t : Ty) (v : Value) (w : World) (hv : TyV w v t) :
  Calls Tryz.prog 147 #[v] w fun e w' => e = .returned (.bool (noMore t)) /\ Below w.heap.size w w' := by
 obtain ⟨l, rfl, hT⟩ := hv
 obtain ⟨An, cn, As, cs, rfl, zp, zm, za, hzn, hz, hN, -⟩ := hT.parts
 clear hT hN
 by_cases e1 : t.pkg.size = 0
 ·obtain ⟨x1, y1⟩ := empty_facts _ e1
  rcases hid_or (t.major == 0) with e2 | e2
  ·have d2 := e2.out
   have R : noMore t = false := by
    unfold noMore emptyB
    simp [d2]
   rw [R];clear R;as_aux_lemma =>
   go_enter Tryz.func147, Tryz.ntmps147
   go_wp2_with fail
   go_ret;exact ⟨rfl, below_new (Below.refl _ _) _⟩
  ·have d2 := e2.out
   by_cases e3 : t.mod.size = 0
   ·obtain ⟨x3, y3⟩ := empty_facts _ e3
    by_cases e4 : t.name.size = 0
    ·obtain ⟨x4, y4⟩ := empty_facts _ e4
     have R : noMore t = true := by
      unfold noMore emptyB
      simp [e1, d2, e3, e4]
     rw [R];clear R;as_aux_lemma =>
     go_enter Tryz.func147, Tryz.ntmps147
     go_wp2_with fail
     go_ret;exact ⟨rfl, below_new (Below.refl _ _) _⟩
    ·obtain ⟨x4, y4⟩ := full_facts _ e4
     have R : noMore t = false := by
      unfold noMore emptyB
      simp [e4]
     rw [R];clear R;as_aux_lemma =>
     go_enter Tryz.func147, Tryz.ntmps147
     go_wp2_with fail
     go_ret;exact ⟨rfl, below_new (Below.refl _ _) _⟩
   ·obtain ⟨x3, y3⟩ := full_facts _ e3
    have R : noMore t = false := by
     unfold noMore emptyB
     simp [e3]
    rw [R];clear R;as_aux_lemma =>
    go_enter Tryz.func147, Tryz.ntmps147
    go_wp2_with fail
    go_ret;exact ⟨rfl, below_new (Below.refl _ _) _⟩
 ·obtain ⟨x1, y1⟩ := full_facts _ e1
  have R : noMore t = false := by
   unfold noMore emptyB
   simp [e1]
  rw [R];clear R;as_aux_lemma =>
  go_enter Tryz.func147, Tryz.ntmps147
  go_wp2_with fail
  go_ret;exact ⟨rfl, below_new (Below.refl _ _) _⟩
theorem mayLocal_any (t : Ty) (v : Value) (w : World) (hv : TyV w v t) :
  Calls Tryz.prog 149 #[v] w fun e w' => e = .returned (.bool (localOk t)) /\ Below w.heap.size w w' := by
 obtain ⟨l, rfl, hT⟩ := hv
 obtain ⟨An, cn, As, cs, rfl, zp, zm, za, hzn, hz, hN, -⟩ := hT.parts
 clear hT hN
 by_cases e1 : t.pkg.size = 0
 ·obtain ⟨x1, y1⟩ := empty_facts _ e1
  rcases hid_or (t.major == 0) with e2 | e2
  ·have d2 := e2.out
   have R : Hid (localOk t = false) := hZ (by
    unfold localOk emptyB
    simp [d2])
   rw [R.out];clear R;as_aux_lemma =>
   go_enter Tryz.func149, Tryz.ntmps149
   go_wp2_with fail
   go_ret;exact ⟨rfl, below_new (Below.refl _ _) _⟩
  ·have d2 := e2.out
   by_cases e3 : t.mod.size = 0
   ·obtain ⟨x3, y3⟩ := empty_facts _ e3
    rcases hid_or (greatB t.name.data.toList) with g1 | g1
    ·skip
     have R : Hid (localOk t = false) := hZ (by
      unfold localOk emptyB
      simp [e1, d2, e3, g1.out])
     rw [R.out];clear R;as_aux_lemma =>
     go_enter Tryz.func149, Tryz.ntmps149
     go_wp2_with fail
     refine (great_any _ _ za).mono ?_; rintro e w2 ⟨rfl, rfl⟩; rw [g1.out]
     go_wp2_with fail
     go_ret;exact ⟨rfl, below_new (Below.refl _ _) _⟩
    ·skip
     have R : Hid (localOk t = true) := hZ (by
      unfold localOk emptyB
      simp [e1, d2, e3, g1.out])
     rw [R.out];clear R;as_aux_lemma =>
     go_enter Tryz.func149, Tryz.ntmps149
     go_wp2_with fail
     refine (great_any _ _ za).mono ?_; rintro e w2 ⟨rfl, rfl⟩; rw [g1.out]
     go_wp2_with fail
     go_ret;exact ⟨rfl, below_new (Below.refl _ _) _⟩
   ·obtain ⟨x3, y3⟩ := full_facts _ e3
    rcases hid_or (smallB t.mod.data.toList) with s1 | s1
    ·skip
     have R : Hid (localOk t = false) := hZ (by
      unfold localOk emptyB
      simp [e3, s1.out])
     rw [R.out];clear R;as_aux_lemma =>
     go_enter Tryz.func149, Tryz.ntmps149
     go_wp2_with fail
     refine (small_any _ _ zm).mono ?_; rintro e w1 ⟨rfl, rfl⟩; rw [s1.out]
     go_wp2_with fail
     go_ret;exact ⟨rfl, below_new (Below.refl _ _) _⟩
    ·skip
     rcases hid_or (greatB t.name.data.toList) with g1 | g1
     ·skip
      have R : Hid (localOk t = false) := hZ (by
       unfold localOk emptyB
       simp [e1, d2, e3, s1.out, g1.out])
      rw [R.out];clear R;as_aux_lemma =>
      go_enter Tryz.func149, Tryz.ntmps149
      go_wp2_with fail
      refine (small_any _ _ zm).mono ?_; rintro e w1 ⟨rfl, rfl⟩; rw [s1.out]
      go_wp2_with fail
      refine (great_any _ _ za).mono ?_; rintro e w2 ⟨rfl, rfl⟩; rw [g1.out]
      go_wp2_with fail
      go_ret;exact ⟨rfl, below_new (Below.refl _ _) _⟩
     ·skip
      have R : Hid (localOk t = true) := hZ (by
       unfold localOk emptyB
       simp [e1, d2, e3, s1.out, g1.out])
      rw [R.out];clear R;as_aux_lemma =>
      go_enter Tryz.func149, Tryz.ntmps149
      go_wp2_with fail
      refine (small_any _ _ zm).mono ?_; rintro e w1 ⟨rfl, rfl⟩; rw [s1.out]
      go_wp2_with fail
      refine (great_any _ _ za).mono ?_; rintro e w2 ⟨rfl, rfl⟩; rw [g1.out]
      go_wp2_with fail
      go_ret;exact ⟨rfl, below_new (Below.refl _ _) _⟩
 ·obtain ⟨x1, y1⟩ := full_facts _ e1
  have R : Hid (localOk t = false) := hZ (by
   unfold localOk emptyB
   simp [e1])
  rw [R.out];clear R;as_aux_lemma =>
  go_enter Tryz.func149, Tryz.ntmps149
  go_wp2_with fail
  go_ret;exact ⟨rfl, below_new (Below.refl _ _) _⟩
theorem mayOpen_any (t : Ty) (v : Value) (w : World) (hv : TyV w v t) :
  Calls Tryz.prog 150 #[v] w fun e w' => e = .returned (.bool (openOk t)) /\ Below w.heap.size w w' := by
 obtain ⟨l, rfl, hT⟩ := hv
 obtain ⟨An, cn, As, cs, rfl, zp, zm, za, hzn, hz, hN, -⟩ := hT.parts
 clear hT hN
 rcases hid_or (smallB t.pkg.data.toList) with s1 | s1
 ·skip
  have R : Hid (openOk t = false) := hZ (by
   unfold openOk
   simp [s1.out])
  rw [R.out];clear R;as_aux_lemma =>
  go_enter Tryz.func150, Tryz.ntmps150
  go_wp2_with fail
  refine (small_any _ _ zp).mono ?_; rintro e w1 ⟨rfl, rfl⟩; rw [s1.out]
  go_wp2_with fail
  go_ret;exact ⟨rfl, below_new (Below.refl _ _) _⟩
 ·by_cases l1 : 1 <= t.major
  ·by_cases l2 : t.major <= 999999999
   ·rcases hid_or (smallB t.mod.data.toList) with s2 | s2
    ·skip
     have R : Hid (openOk t = false) := hZ (by
      unfold openOk
      simp [s2.out])
     rw [R.out];clear R;as_aux_lemma =>
     go_enter Tryz.func150, Tryz.ntmps150
     go_wp2_with fail
     refine (small_any _ _ zp).mono ?_; rintro e w1 ⟨rfl, rfl⟩; rw [s1.out]
     go_wp2_with fail
     refine (small_any _ _ zm).mono ?_; rintro e w2 ⟨rfl, rfl⟩; rw [s2.out]
     go_wp2_with fail
     go_ret;exact ⟨rfl, below_new (Below.refl _ _) _⟩
    ·rcases hid_or (greatB t.name.data.toList) with g1 | g1
     ·skip
      have R : Hid (openOk t = false) := hZ (by
       unfold openOk
       simp [g1.out])
      rw [R.out];clear R;as_aux_lemma =>
      go_enter Tryz.func150, Tryz.ntmps150
      go_wp2_with fail
      refine (small_any _ _ zp).mono ?_; rintro e w1 ⟨rfl, rfl⟩; rw [s1.out]
      go_wp2_with fail
      refine (small_any _ _ zm).mono ?_; rintro e w2 ⟨rfl, rfl⟩; rw [s2.out]
      go_wp2_with fail
      refine (great_any _ _ za).mono ?_; rintro e w3 ⟨rfl, rfl⟩; rw [g1.out]
      go_wp2_with fail
      go_ret;exact ⟨rfl, below_new (Below.refl _ _) _⟩
     ·skip
      have R : Hid (openOk t = true) := hZ (by
       unfold openOk
       simp [s1.out, l1, l2, s2.out, g1.out])
      rw [R.out];clear R;as_aux_lemma =>
      go_enter Tryz.func150, Tryz.ntmps150
      go_wp2_with fail
      refine (small_any _ _ zp).mono ?_; rintro e w1 ⟨rfl, rfl⟩; rw [s1.out]
      go_wp2_with fail
      refine (small_any _ _ zm).mono ?_; rintro e w2 ⟨rfl, rfl⟩; rw [s2.out]
      go_wp2_with fail
      refine (great_any _ _ za).mono ?_; rintro e w3 ⟨rfl, rfl⟩; rw [g1.out]
      go_wp2_with fail
      go_ret;exact ⟨rfl, below_new (Below.refl _ _) _⟩
   ·skip
    have R : Hid (openOk t = false) := hZ (by
     unfold openOk
     simp [l2])
    rw [R.out];clear R;as_aux_lemma =>
    go_enter Tryz.func150, Tryz.ntmps150
    go_wp2_with fail
    refine (small_any _ _ zp).mono ?_; rintro e w1 ⟨rfl, rfl⟩; rw [s1.out]
    go_wp2_with fail
    go_ret;exact ⟨rfl, below_new (Below.refl _ _) _⟩
  ·skip
   have R : Hid (openOk t = false) := hZ (by
    unfold openOk
    simp [l1])
   rw [R.out];clear R;as_aux_lemma =>
   go_enter Tryz.func150, Tryz.ntmps150
   go_wp2_with fail
   refine (small_any _ _ zp).mono ?_; rintro e w1 ⟨rfl, rfl⟩; rw [s1.out]
   go_wp2_with fail
   go_ret;exact ⟨rfl, below_new (Below.refl _ _) _⟩
theorem rising_small (A : Option Addr) (c n : Nat) (names : List ByteArray) (w : World) (hn : names.length = n) (hz : n <= 9223372036854775807) (hN : NamesAt w A names) :
  Calls Tryz.prog 148 #[.slice A n c, .func (.func 69) #[] #[]] w fun e w' => e = .returned (.bool (risingB smallB names)) /\ w = w' := by
 have HN := hZ hN
 have HQ := hZ hn
 clear hN hn
 go_enter Tryz.func148, Tryz.ntmps148
 go_wp2_with fail
 go_loop [9] (fun i => ∃ k : Nat, k <= n /\ i = .int .i64 k /\ Hid (∀ j, j < k -> badFor smallB names j = false)) (fun i => n - (intOf i).toNat)
 case atStart => exact ⟨0, by omega, rfl, hZ (fun j h => by omega)⟩
 case round =>
  obtain ⟨k, hk, rfl, HP⟩ := hrel;by_cases hlt : k < n
  ·obtain ⟨s, hs⟩ : ∃ s, names[k]? = some s := ⟨_, List.getElem?_eq_getElem (by rw [HQ.out]; exact hlt)⟩
   obtain ⟨g, o, rfl, hgo, hcs, hzs⟩ := HN.out k s hs;have hna := nameAt_of0 hs;rcases hid_or (smallB s.data.toList) with h1 | h1
   ·have R : Hid (risingB smallB names = false) := hZ (rising_no (i := k) (by rw [HQ.out]; exact hlt) (by unfold badFor; rw [hna, h1.out]; rfl))
    clear hna hs;go_wp2_with fail
    refine (small_any _ _ hzs).mono ?_; rintro e w1 ⟨rfl, rfl⟩; rw [h1.out]
    go_wp2_with fail
    go_ret;exact ⟨ret_bool R.out, rfl⟩
   ·rcases Nat.eq_zero_or_pos k with hk0 | hk0
    ·have hp : ¬ (0 : Int) < k := by omega
     have hb : Hid (badFor smallB names k = false) := hZ (by unfold badFor; rw [hna, h1.out, show decide (0 < k) = false by simp; omega]; rfl);clear hna hs hk0;go_wp2_with fail
     refine (small_any _ _ hzs).mono ?_; rintro e w1 ⟨rfl, rfl⟩; rw [h1.out]
     go_wp2_with fail
     go_round
     case rel => exact ⟨k + 1, by omega, by go_num, hZ (fun j hj => by
      rcases Nat.lt_or_ge j k with a | a
      ·exact HP.out j a
      ·rw [show j = k by omega]; exact hb.out)⟩
     case measure => simp [intOf]; omega
    ·obtain ⟨p, hps⟩ : ∃ p, names[k - 1]? = some p := ⟨_, List.getElem?_eq_getElem (by rw [HQ.out]; omega)⟩
     obtain ⟨g2, o2, eg, hg2, hc2, -⟩ := HN.out (k - 1) p hps;obtain ⟨rfl, rfl⟩ : g = g2 /\ o = o2 := by simpa using eg
     have hna2 := nameAt_of0 hps;have hp : (0 : Int) < k := by omega
     have hp1 : 1 <= (k : Int) := by omega
     rcases hid_or (!Op.bytesLess p.toList s.toList) with hL | hL
     ·have hl := hL.out
      have hb : Hid (badFor smallB names k = false) := hZ (by unfold badFor; rw [hna, hna2, h1.out, leS_eq, hl]; simp);clear hna hna2 eg hg2 hps hk0 hs;go_wp2_with fail
      refine (small_any _ _ hzs).mono ?_; rintro e w1 ⟨rfl, rfl⟩; rw [h1.out]
      go_wp2_with fail
      go_round
      case rel => exact ⟨k + 1, by omega, by go_num, hZ (fun j hj => by
       rcases Nat.lt_or_ge j k with a | a
       ·exact HP.out j a
       ·rw [show j = k by omega]; exact hb.out)⟩
      case measure => simp [intOf]; omega
     ·have hl := hL.out
      have R : Hid (risingB smallB names = false) := hZ (rising_no (i := k) (by rw [HQ.out]; exact hlt) (by unfold badFor; rw [hna, hna2, h1.out, leS_eq, hl, show decide (0 < k) = true by simp; omega]; rfl));clear hna hna2 eg hg2 hps hk0 hs;go_wp2_with fail
      refine (small_any _ _ hzs).mono ?_; rintro e w1 ⟨rfl, rfl⟩; rw [h1.out]
      go_wp2_with fail
      go_ret;exact ⟨ret_bool R.out, rfl⟩
  ·have R : Hid (risingB smallB names = true) := hZ ((rising_iff _ _).2 (fun i hi => HP.out i (by rw [HQ.out] at hi; omega)))
   go_wp2_with fail
   go_ret;exact ⟨ret_bool R.out, rfl⟩
theorem rising_great (A : Option Addr) (c n : Nat) (names : List ByteArray) (w : World) (hn : names.length = n) (hz : n <= 9223372036854775807) (hN : NamesAt w A names) :
  Calls Tryz.prog 148 #[.slice A n c, .func (.func 119) #[] #[]] w fun e w' => e = .returned (.bool (risingB greatB names)) /\ w = w' := by
 have HN := hZ hN
 have HQ := hZ hn
 clear hN hn
 go_enter Tryz.func148, Tryz.ntmps148
 go_wp2_with fail
 go_loop [9] (fun i => ∃ k : Nat, k <= n /\ i = .int .i64 k /\ Hid (∀ j, j < k -> badFor greatB names j = false)) (fun i => n - (intOf i).toNat)
 case atStart => exact ⟨0, by omega, rfl, hZ (fun j h => by omega)⟩
 case round =>
  obtain ⟨k, hk, rfl, HP⟩ := hrel;by_cases hlt : k < n
  ·obtain ⟨s, hs⟩ : ∃ s, names[k]? = some s := ⟨_, List.getElem?_eq_getElem (by rw [HQ.out]; exact hlt)⟩
   obtain ⟨g, o, rfl, hgo, hcs, hzs⟩ := HN.out k s hs;have hna := nameAt_of0 hs;rcases hid_or (greatB s.data.toList) with h1 | h1
   ·have R : Hid (risingB greatB names = false) := hZ (rising_no (i := k) (by rw [HQ.out]; exact hlt) (by unfold badFor; rw [hna, h1.out]; rfl))
    clear hna hs;go_wp2_with fail
    refine (great_any _ _ hzs).mono ?_; rintro e w1 ⟨rfl, rfl⟩; rw [h1.out]
    go_wp2_with fail
    go_ret;exact ⟨ret_bool R.out, rfl⟩
   ·rcases Nat.eq_zero_or_pos k with hk0 | hk0
    ·have hp : ¬ (0 : Int) < k := by omega
     have hb : Hid (badFor greatB names k = false) := hZ (by unfold badFor; rw [hna, h1.out, show decide (0 < k) = false by simp; omega]; rfl);clear hna hs hk0;go_wp2_with fail
     refine (great_any _ _ hzs).mono ?_; rintro e w1 ⟨rfl, rfl⟩; rw [h1.out]
     go_wp2_with fail
     go_round
     case rel => exact ⟨k + 1, by omega, by go_num, hZ (fun j hj => by
      rcases Nat.lt_or_ge j k with a | a
      ·exact HP.out j a
      ·rw [show j = k by omega]; exact hb.out)⟩
     case measure => simp [intOf]; omega
    ·obtain ⟨p, hps⟩ : ∃ p, names[k - 1]? = some p := ⟨_, List.getElem?_eq_getElem (by rw [HQ.out]; omega)⟩
     obtain ⟨g2, o2, eg, hg2, hc2, -⟩ := HN.out (k - 1) p hps;obtain ⟨rfl, rfl⟩ : g = g2 /\ o = o2 := by simpa using eg
     have hna2 := nameAt_of0 hps;have hp : (0 : Int) < k := by omega
     have hp1 : 1 <= (k : Int) := by omega
     rcases hid_or (!Op.bytesLess p.toList s.toList) with hL | hL
     ·have hl := hL.out
      have hb : Hid (badFor greatB names k = false) := hZ (by unfold badFor; rw [hna, hna2, h1.out, leS_eq, hl]; simp);clear hna hna2 eg hg2 hps hk0 hs;go_wp2_with fail
      refine (great_any _ _ hzs).mono ?_; rintro e w1 ⟨rfl, rfl⟩; rw [h1.out]
      go_wp2_with fail
      go_round
      case rel => exact ⟨k + 1, by omega, by go_num, hZ (fun j hj => by
       rcases Nat.lt_or_ge j k with a | a
       ·exact HP.out j a
       ·rw [show j = k by omega]; exact hb.out)⟩
      case measure => simp [intOf]; omega
     ·have hl := hL.out
      have R : Hid (risingB greatB names = false) := hZ (rising_no (i := k) (by rw [HQ.out]; exact hlt) (by unfold badFor; rw [hna, hna2, h1.out, leS_eq, hl, show decide (0 < k) = true by simp; omega]; rfl));clear hna hna2 eg hg2 hps hk0 hs;go_wp2_with fail
      refine (great_any _ _ hzs).mono ?_; rintro e w1 ⟨rfl, rfl⟩; rw [h1.out]
      go_wp2_with fail
      go_ret;exact ⟨ret_bool R.out, rfl⟩
  ·have R : Hid (risingB greatB names = true) := hZ ((rising_iff _ _).2 (fun i hi => HP.out i (by rw [HQ.out] at hi; omega)))
   go_wp2_with fail
   go_ret;exact ⟨ret_bool R.out, rfl⟩
end Go.Proofs.YtcdmgcgjonndpaaGreatDoor
namespace Go.Proofs.YtcdmgcgjonndpaaGreatDoor.M
open Go
theorem deep_pos (t : Ty) : 1 <= deep t := by cases t; simp [deep]
theorem deepL_le {t : Ty} : ∀ {l : List Ty}, t ∈ l -> deep t <= deepL l
  | [], h => by cases h
  | a :: r, h => by
    rcases List.mem_cons.1 h with rfl | h
    · unfold deepL; omega
    · have := deepL_le h; unfold deepL; omega
theorem deepL_append : ∀ (a b : List Ty), deepL (a ++ b) = max (deepL a) (deepL b)
  | [], b => by simp [deepL]
  | t :: r, b => by simp only [List.cons_append, deepL, deepL_append r b]; omega
end Go.Proofs.YtcdmgcgjonndpaaGreatDoor.M
namespace Go.Proofs.YtcdmgcgjonndpaaGreatDoor
open M
def impHas (m : Mo) (s : ByteArray) : Bool := m.imps.any fun x => decide (x.asn = s)
def isTyp (s : ByteArray) (d : De) : Bool := !(d.kind == 4) && decide (d.name = s)
def typAt (m : Mo) (s : ByteArray) : Option Nat := m.decs.findIdx? (isTyp s)
mutual
def saidT (m : Mo) : Ty -> List Nat
  | .mk k _ _ d n _ ss => if k = 8 then (if d.size = 0 then (typAt m n).toList else []) else saidL m ss
def saidL (m : Mo) : List Ty -> List Nat
  | [] => []
  | t :: r => saidT m t ++ saidL m r
end
mutual
def wholeT (m : Mo) : Ty -> Bool
  | .mk k _ _ d n _ ss => if k = 8 then (if d.size = 0 then (typAt m n).isSome else impHas m d) else wholeL m ss
def wholeL (m : Mo) : List Ty -> Bool
  | [] => true
  | t :: r => wholeT m t && wholeL m r
end
theorem saidL_append (m : Mo) : ∀ a b, saidL m (a ++ b) = saidL m a ++ saidL m b
  | [], b => rfl
  | t :: r, b => by simp [saidL, saidL_append m r b]
theorem wholeL_append (m : Mo) : ∀ a b, wholeL m (a ++ b) = (wholeL m a && wholeL m b)
  | [], b => by simp [wholeL]
  | t :: r, b => by simp [wholeL, wholeL_append m r b, Bool.and_assoc]
theorem saidL_take (m : Mo) (l : List Ty) (k : Nat) (t : Ty) (h : l[k]? = some t) : saidL m (l.take (k + 1)) = saidL m (l.take k) ++ saidT m t := by
  rw [List.take_add_one, h, saidL_append]; simp [saidL]
theorem wholeL_take (m : Mo) (l : List Ty) (k : Nat) (t : Ty) (h : l[k]? = some t) : wholeL m (l.take (k + 1)) = (wholeL m (l.take k) && wholeT m t) := by
  rw [List.take_add_one, h, wholeL_append]; simp [wholeL]
theorem saidT_sub (m : Mo) (t : Ty) (h : t.kind ≠ 8) : saidT m t = saidL m t.subs := by
  cases t; unfold saidT; exact if_neg h
theorem wholeT_sub (m : Mo) (t : Ty) (h : t.kind ≠ 8) : wholeT m t = wholeL m t.subs := by
  cases t; unfold wholeT; exact if_neg h
theorem saidT_local (m : Mo) (t : Ty) (h : t.kind = 8) : saidT m t = if t.mod.size = 0 then (typAt m t.name).toList else [] := by
  cases t; unfold saidT; exact if_pos h
theorem wholeT_local (m : Mo) (t : Ty) (h : t.kind = 8) : wholeT m t = if t.mod.size = 0 then (typAt m t.name).isSome else impHas m t.mod := by
  cases t; unfold wholeT; exact if_pos h
theorem typAt_lt {m : Mo} {s : ByteArray} {i : Nat} (h : typAt m s = some i) : i < m.decs.length := by
  unfold typAt at h
  rw [List.findIdx?_eq_some_iff_getElem] at h;exact h.1
theorem said_lt (m : Mo) : ∀ (N : Nat) (t : Ty), many t <= N -> ∀ i ∈ saidT m t, i < m.decs.length := by
  intro N;induction N with
  | zero => intro t h; have := many_pos t; omega
  | succ N ih =>
    intro t hN i hi;by_cases hk : t.kind = 8
    · rw [saidT_local m t hk] at hi
      split at hi
      · exact typAt_lt (Option.mem_toList.1 hi)
      · cases hi
    · rw [saidT_sub m t hk] at hi
      have key : ∀ (l : List Ty), (∀ s ∈ l, many s <= N) -> ∀ i ∈ saidL m l, i < m.decs.length := by
        intro l;induction l with
        | nil => intro _ i hi; cases hi
        | cons a r ih2 =>
          intro h i hi;unfold saidL at hi
          rcases List.mem_append.1 hi with hi | hi
          · exact ih a (h a (by simp)) i hi
          · exact ih2 (fun s hs => h s (by simp [hs])) i hi
      exact key t.subs (fun s hs => by
        have := manyL_mem _ _ hs
        have e : many t = 1 + manyL t.subs := by cases t; rfl
        omega) i hi
theorem said_len (m : Mo) : ∀ (N : Nat) (t : Ty), many t <= N -> (saidT m t).length <= many t := by
  intro N;induction N with
  | zero => intro t h; have := many_pos t; omega
  | succ N ih =>
    intro t hN;have e : many t = 1 + manyL t.subs := by cases t; rfl
    by_cases hk : t.kind = 8
    · rw [saidT_local m t hk]
      split
      · cases typAt m t.name <;> simp <;> omega
      · simp
    · rw [saidT_sub m t hk]
      have key : ∀ (l : List Ty), (∀ s ∈ l, many s <= N) -> (saidL m l).length <= manyL l := by
        intro l;induction l with
        | nil => intro _; simp [saidL]
        | cons a r ih2 =>
          intro h;have h1 := ih a (h a (by simp));have h2 := ih2 (fun s hs => h s (by simp [hs]));simp only [saidL, manyL, List.length_append];omega
      have := key t.subs (fun s hs => by have := manyL_mem _ _ hs; omega)
      omega
structure En where
  at_ : Nat
  kind : Int
  said : List Nat
  whole : Bool
def entriesOf (m : Mo) (l : List De) : List En := l.mapIdx fun i d => ⟨i, d.kind, saidT m d.typ, wholeT m d.typ⟩
def entries (m : Mo) : List En := entriesOf m m.decs
theorem entries_len (m : Mo) : (entries m).length = m.decs.length := by simp [entries, entriesOf]
theorem entries_at {m : Mo} {i : Nat} {d : De} (h : m.decs[i]? = some d) : (entries m)[i]? = some ⟨i, d.kind, saidT m d.typ, wholeT m d.typ⟩ := by
  unfold entries entriesOf; rw [List.getElem?_mapIdx, h]; rfl
inductive Reach (E : List En) (l : List Nat) : Nat -> Prop
  | one {i : Nat} : i ∈ l -> Reach E l i
  | step {i j : Nat} {x : En} : Reach E l j -> E[j]? = some x -> i ∈ x.said -> Reach E l i
theorem Reach.mono {E : List En} {l l' : List Nat} {i : Nat} (h : Reach E l i) (hl : ∀ j ∈ l, Reach E l' j) : Reach E l' i := by
  induction h with
  | one h => exact hl _ h
  | step _ hx hi ih => exact .step ih hx hi
open Classical in
noncomputable def reachB (E : List En) (l : List Nat) (i : Nat) : Bool := decide (Reach E l i)
theorem reachB_iff {E : List En} {l : List Nat} {i : Nat} : reachB E l i = true ↔ Reach E l i := by unfold reachB; simp
structure Found (E : List En) (F : Nat -> Bool) (l : List Nat) (F' : Nat -> Bool) : Prop where
  old : ∀ i, F i = true -> F' i = true
  new : ∀ i ∈ l, F' i = true
  clo : ∀ i x, F' i = true -> F i = false -> E[i]? = some x -> ∀ j ∈ x.said, F' j = true
  only : ∀ i, F' i = true -> F i = true \/ Reach E l i
theorem Found.nil (E : List En) (F : Nat -> Bool) : Found E F [] F := ⟨fun _ h => h, fun i h => (by cases h), fun i x h h' => (by rw [h] at h'; cases h'), fun i h => .inl h⟩
theorem Found.skip {E : List En} {F F' : Nat -> Bool} {l : List Nat} {i : Nat} (h : Found E F l F') (hi : F' i = true) : Found E F (l ++ [i]) F' :=
  ⟨h.old, fun j hj => by
    rcases List.mem_append.1 hj with hj | hj
    · exact h.new j hj
    · rw [List.mem_singleton.1 hj]; exact hi, h.clo, fun j hj => (h.only j hj).imp id (fun r => r.mono fun k hk => .one (List.mem_append_left _ hk))⟩
theorem Found.more {E : List En} {F F1 F2 : Nat -> Bool} {l : List Nat} {i : Nat} {x : En} (h : Found E F l F1) (hx : E[i]? = some x) (h2 : Found E (fun j => if j = i then true else F1 j) x.said F2) : Found E F (l ++ [i]) F2 := by
  have hi : F2 i = true := h2.old i (by simp)
  have h12 : ∀ j, F1 j = true -> F2 j = true := fun j hj => h2.old j (by
    show (if j = i then true else F1 j) = true
    split
    · rfl
    · exact hj)
  refine ⟨fun j hj => h12 j (h.old j hj), fun j hj => ?_, fun j y h1 h0 hy k hk => ?_, fun j hj => ?_⟩
  · rcases List.mem_append.1 hj with hj | hj
    · exact h12 j (h.new j hj)
    · rw [List.mem_singleton.1 hj]; exact hi
  · by_cases e : j = i
    · subst e
      rw [hx] at hy; cases hy
      exact h2.new k hk
    · cases h1' : F1 j with
      | true => exact h12 k (h.clo j y h1' h0 hy k hk)
      | false => exact h2.clo j y h1 (by show (if j = i then true else F1 j) = false; rw [if_neg e]; exact h1') hy k hk
  · have hone : Reach E (l ++ [i]) i := .one (by simp)
    rcases h2.only j hj with h' | h'
    · have h' : (if j = i then true else F1 j) = true := h'
      split at h'
      · rename_i e; subst e; exact .inr hone
      · exact (h.only j h').imp id (fun r => r.mono fun k hk => .one (List.mem_append_left _ hk))
    · exact .inr (h'.mono fun k hk => .step hone hx hk)
theorem Found.all {E : List En} {l : List Nat} {F : Nat -> Bool} (h : Found E (fun _ => false) l F) (i : Nat) : F i = reachB E l i := by
  have h1 : ∀ i, Reach E l i -> F i = true := fun i hr => by
    induction hr with
    | one hi => exact h.new _ hi
    | step _ hx hi ih => exact h.clo _ _ ih rfl hx _ hi
  rw [Bool.eq_iff_iff, reachB_iff];exact ⟨fun hi => (h.only i hi).resolve_left (by simp), h1 i⟩
end Go.Proofs.YtcdmgcgjonndpaaGreatDoor
namespace Go.Proofs.YtcdmgcgjonndpaaGreatDoor
open Go.RowKit
open M
def fewB (t : Ty) : Bool := decide (0 <= fewT t 3000)
theorem few_small {t : Ty} (h : fewB t = true) : many t <= 3000 := by
  have h0 : 0 <= fewT t 3000 := by simpa [fewB] using h
  have a := few_many t 3000 h0;omega
theorem fewB_any (t : Ty) (v : Value) (w : World) (hv : TyV w v t) :
    Calls Tryz.prog 12 #[v] w fun e w' => e = .returned (.bool (fewB t)) /\ Below w.heap.size w w' := by
  have HV := hZ hv;obtain ⟨l, rfl, hT⟩ := hv;obtain ⟨An, cn, As, cs, rfl, -, -, -, -, -, -, -⟩ := hT.parts;clear hT;have bd := few_bd t 3000 (by omega);unfold fewB
  go_enter Tryz.func12, Tryz.ntmps12
  go_wp2_with fail
  refine (few_any _ t (Nat.le_refl _) 3000 (by omega) (by omega) _ _ (HV.out.below (by first | exact below_new (Below.refl _ _) _ | exact Below.refl _ _))).mono ?_; rintro e w1 ⟨rfl, hb1⟩
  go_wp2_with fail
  go_ret;refine ⟨rfl, ?_⟩;first | exact hb1 | exact (below_new (Below.refl _ _) _).trans (hb1.mono (by simp))
mutual
def countT : Ty -> Int -> Int -> Bool × Int
  | .mk k p m d n ns ss, depth, c =>
    if 500 < c + 1 \/ 32 < depth \/ formT (.mk k p m d n ns ss) = false then (false, c + 1) else countL ss (depth + 1) (c + 1)
def countL : List Ty -> Int -> Int -> Bool × Int
  | [], _, c => (true, c)
  | t :: r, depth, c => if (countT t depth c).1 = true then countL r depth (countT t depth c).2 else (false, (countT t depth c).2)
end
theorem countT_eq (t : Ty) (d c : Int) : countT t d c = if 500 < c + 1 \/ 32 < d \/ formT t = false then (false, c + 1) else countL t.subs (d + 1) (c + 1) := by cases t; rfl
theorem countL_at {l : List Ty} {k : Nat} {s : Ty} (h : l[k]? = some s) (d c : Int) : countL (l.drop k) d c = if (countT s d c).1 = true then countL (l.drop (k + 1)) d (countT s d c).2 else (false, (countT s d c).2) := by
  have hk := (List.getElem?_eq_some_iff.1 h).1
  have e : l.drop k = s :: l.drop (k + 1) := by
    rw [List.drop_eq_getElem_cons hk];congr 1
    exact (List.getElem?_eq_some_iff.1 h).2
  rw [e]; rfl
mutual
theorem countT_is : ∀ (t : Ty) (d c : Int), c <= 500 -> ((countT t d c).1 = true ↔ allOk t = true /\ c + many t <= 500 /\ d + deep t <= 33) /\ ((countT t d c).1 = true -> (countT t d c).2 = c + many t) /\ c <= (countT t d c).2 /\ (countT t d c).2 <= 501
  | .mk k p m d' n ns ss, d, c, hc => by
    have hm : many (.mk k p m d' n ns ss) = 1 + manyL ss := rfl;have hd : deep (.mk k p m d' n ns ss) = deepL ss + 1 := rfl;have ha : allOk (.mk k p m d' n ns ss) = (ownOk (.mk k p m d' n ns ss) && allOkL ss) := rfl;have he : countT (.mk k p m d' n ns ss) d c = if 500 < c + 1 \/ 32 < d \/ formT (.mk k p m d' n ns ss) = false then (false, c + 1) else countL ss (d + 1) (c + 1) := rfl
    rw [he, hm, hd, ha, <- formT_own];by_cases h : 500 < c + 1 \/ 32 < d \/ formT (.mk k p m d' n ns ss) = false
    · rw [if_pos h]
      refine ⟨⟨fun h => by simp at h, fun ⟨h1, h2, h3⟩ => ?_⟩, fun h => by simp at h, by simp; omega, by simp; omega⟩;exfalso
      rcases h with h | h | h
      · omega
      · omega
      · rw [h] at h1; simp at h1
    · rw [if_neg h]
      have hf : formT (.mk k p m d' n ns ss) = true := by
        rcases hid_or (formT (.mk k p m d' n ns ss)) with e | e
        · exact absurd (.inr (.inr e.out)) h
        · exact e.out
      have h1 : ¬ 500 < c + 1 := fun x => h (.inl x)
      have h2 : ¬ 32 < d := fun x => h (.inr (.inl x))
      obtain ⟨a, b, l, u⟩ := countL_is ss (d + 1) (c + 1) (by omega) (by omega);refine ⟨?_, fun x => by rw [b x]; omega, by omega, u⟩;rw [a, hf];simp only [Bool.true_and];constructor
      · rintro ⟨x, y, z⟩; exact ⟨x, by omega, by omega⟩
      · rintro ⟨x, y, z⟩; exact ⟨x, by omega, by omega⟩
theorem countL_is : ∀ (l : List Ty) (d c : Int), c <= 500 -> d <= 33 -> ((countL l d c).1 = true ↔ allOkL l = true /\ c + manyL l <= 500 /\ d + deepL l <= 33) /\ ((countL l d c).1 = true -> (countL l d c).2 = c + manyL l) /\ c <= (countL l d c).2 /\ (countL l d c).2 <= 501
  | [], d, c, hc, hd => by
    have hm : manyL [] = 0 := rfl;have h2 : deepL [] = 0 := rfl;have ha : allOkL [] = true := rfl;have he : countL [] d c = (true, c) := rfl;rw [he, hm, h2, ha];exact ⟨⟨fun _ => ⟨rfl, by omega, by omega⟩, fun _ => rfl⟩, fun _ => by simp, by simp, by simp; omega⟩
  | t :: r, d, c, hc, hd => by
    have hm : manyL (t :: r) = many t + manyL r := rfl;have h2 : deepL (t :: r) = max (deep t) (deepL r) := rfl;have ha : allOkL (t :: r) = (allOk t && allOkL r) := rfl;have he : countL (t :: r) d c = if (countT t d c).1 = true then countL r d (countT t d c).2 else (false, (countT t d c).2) := rfl
    obtain ⟨a, b, l, u⟩ := countT_is t d c hc;rw [he, hm, h2, ha];by_cases h : (countT t d c).1 = true
    · rw [if_pos h]
      have e := b h;obtain ⟨x, y, z⟩ := a.1 h;obtain ⟨a2, b2, l2, u2⟩ := countL_is r d (countT t d c).2 (by omega) hd;refine ⟨?_, fun x => by rw [b2 x]; omega, by omega, u2⟩;rw [a2, x, e];simp only [Bool.true_and];constructor
      · rintro ⟨x', y', z'⟩; exact ⟨x', by omega, by omega⟩
      · rintro ⟨x', y', z'⟩; exact ⟨x', by omega, by omega⟩
    · rw [if_neg h]
      refine ⟨⟨fun h => by simp at h, fun ⟨x, y, z⟩ => ?_⟩, fun h => by simp at h, l, u⟩;exfalso
      simp only [Bool.and_eq_true] at x;exact h (a.2 ⟨x.1, by omega, by omega⟩)
end
def sizeT (t : Ty) : Nat := if mayT t = true then many t else 0
theorem may_iff (t : Ty) : mayT t = true ↔ (countT t 1 0).1 = true := by
  rw [(countT_is t 1 0 (by omega)).1];unfold mayT
  simp only [Bool.and_eq_true, decide_eq_true_eq];constructor
  · rintro ⟨⟨a, b⟩, c⟩; exact ⟨a, by omega, by omega⟩
  · rintro ⟨a, b, c⟩; exact ⟨⟨a, by omega⟩, by omega⟩
theorem size_pos (t : Ty) : decide (0 < sizeT t) = mayT t := by
  have := many_pos t
  unfold sizeT
  rcases hid_or (mayT t) with h | h
  · rw [h.out]; rfl
  · rw [h.out]; simp; omega
end Go.Proofs.YtcdmgcgjonndpaaGreatDoor
