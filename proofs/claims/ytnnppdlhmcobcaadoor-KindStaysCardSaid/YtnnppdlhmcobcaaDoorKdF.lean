/-
  Walks of package kind: are a type's own fields those of its kind?
-/
import Derived.Test.YtnnppdlhmcobcaaDoorTyA
import Derived.Test.YtnnppdlhmcobcaaDoorTyN
import Derived.Test.YtnnppdlhmcobcaaDoorIdB
import Derived.Deep.QuietTactic
import Derived.BigQuiet
import Derived.Deep.DeepCutAuto
import Derived.Deep.CutBlock
namespace Go.Proofs.YtnnppdlhmcobcaaDoor
open Go.RowKit
open M

/-- What a Local's, an Open's own fields must be. -/
def localOk (t : Ty) : Bool := emptyB t.pkg && (t.major == 0) && (emptyB t.mod || smallB t.mod.data.toList) && greatB t.name.data.toList
def openOk (t : Ty) : Bool := smallB t.pkg.data.toList && decide (1 ≤ t.major) && decide (t.major ≤ 999999999) && smallB t.mod.data.toList && greatB t.name.data.toList
/-- Is the name at that place at fault, of names of that sort? -/
def badFor (f : List UInt8 → Bool) (names : List ByteArray) (i : Nat) : Bool := !f (nameAt names i).data.toList || (decide (0 < i) && leS (nameAt names i) (nameAt names (i - 1)))
def risingB (f : List UInt8 → Bool) (names : List ByteArray) : Bool := (List.range names.length).all fun i => !badFor f names i
theorem rising_iff (f : List UInt8 → Bool) (names : List ByteArray) : risingB f names = true ↔ ∀ i, i < names.length → badFor f names i = false := by
  unfold risingB
  simp [List.all_eq_true]
theorem rising_no {f : List UInt8 → Bool} {names : List ByteArray} {i : Nat} (hi : i < names.length) (h : badFor f names i = true) : risingB f names = false := by
  rw [Bool.eq_false_iff, ne_eq, rising_iff]
  intro a
  have := a i hi
  rw [h] at this; cases this
theorem leL : ∀ x y : List UInt8, (Op.bytesLess x y || x == y) = !Op.bytesLess y x
  | [], [] => rfl
  | [], b :: y => by simp [Op.bytesLess]
  | a :: x, [] => by simp [Op.bytesLess]
  | a :: x, b :: y => by
    have ih := leL x y
    simp only [Op.bytesLess, List.cons_beq_cons]
    rcases Nat.lt_trichotomy a.toNat b.toNat with h | h | h
    · have h1 : a < b := h
      have h2 : ¬ b < a := by intro (c : b.toNat < a.toNat); omega
      have h3 : (b == a) = false := by simp; intro e; subst e; exact absurd h (Nat.lt_irrefl _)
      simp [h1, h2, h3]
    · have e : a = b := UInt8.toNat_inj.1 h
      subst e
      have h1 : ¬ a < a := by intro (c : a.toNat < a.toNat); omega
      simp [h1, ih]
    · have h1 : b < a := h
      have h2 : ¬ a < b := by intro (c : a.toNat < b.toNat); omega
      have h3 : (a == b) = false := by simp; intro e; subst e; exact absurd h (Nat.lt_irrefl _)
      simp [h1, h2, h3]
theorem leS_eq (a b : ByteArray) : leS a b = !Op.bytesLess b.toList a.toList := leL _ _
theorem names_small (names : List ByteArray) : namesOk 5 names = risingB smallB names := by
  have e : (fun i => !badName 5 names i) = (fun i => !badFor smallB names i) := by funext i; simp [badName, badFor]
  unfold namesOk risingB; rw [e]
theorem names_great (names : List ByteArray) : namesOk 6 names = risingB greatB names := by
  have e : (fun i => !badName 6 names i) = (fun i => !badFor greatB names i) := by funext i; simp [badName, badFor]
  unfold namesOk risingB; rw [e]
theorem names_none (k : Int) {names : List ByteArray} (h : names.length = 0) : namesOk k names = true := by
  unfold namesOk; rw [h]; rfl
/-- What the package asks of a type's own fields. -/
def formT (t : Ty) : Bool :=
  if t.kind = 1 ∨ t.kind = 2 ∨ t.kind = 3 then decide (t.subs.length = 0) && decide (t.names.length = 0) && noMore t
  else if t.kind = 4 then decide (t.subs.length = 1) && decide (t.names.length = 0) && noMore t
  else if t.kind = 5 then decide (t.subs.length ≤ 20) && decide (t.names.length = t.subs.length) && risingB smallB t.names && noMore t
  else if t.kind = 6 then decide (1 ≤ t.subs.length) && decide (t.subs.length ≤ 20) && decide (t.names.length = t.subs.length) && risingB greatB t.names && noMore t
  else if t.kind = 7 then decide (1 ≤ t.subs.length) && decide (t.subs.length ≤ 20) && decide (t.names.length = 0) && noMore t
  else if t.kind = 8 then decide (t.subs.length = 0) && decide (t.names.length = 0) && localOk t
  else if t.kind = 9 then decide (t.subs.length = 0) && decide (t.names.length = 0) && openOk t
  else false
def formW (t : Ty) (n q : Nat) : Bool :=
  if t.kind = 1 ∨ t.kind = 2 ∨ t.kind = 3 then decide (n = 0) && decide (q = 0) && noMore t
  else if t.kind = 4 then decide (n = 1) && decide (q = 0) && noMore t
  else if t.kind = 5 then decide (n ≤ 20) && decide (q = n) && risingB smallB t.names && noMore t
  else if t.kind = 6 then decide (1 ≤ n) && decide (n ≤ 20) && decide (q = n) && risingB greatB t.names && noMore t
  else if t.kind = 7 then decide (1 ≤ n) && decide (n ≤ 20) && decide (q = 0) && noMore t
  else if t.kind = 8 then decide (n = 0) && decide (q = 0) && localOk t
  else if t.kind = 9 then decide (n = 0) && decide (q = 0) && openOk t
  else false
theorem formT_w (t : Ty) : formT t = formW t t.subs.length t.names.length := rfl
theorem formT_own (t : Ty) : formT t = ownOk t := by
  unfold formT ownOk shapeOk localOk openOk
  by_cases h : t.kind = 1 ∨ t.kind = 2 ∨ t.kind = 3
  · simp only [if_pos h]
    by_cases h0 : t.names.length = 0
    · rw [names_none _ h0, Bool.eq_iff_iff]; simp [h0] <;> (constructor <;> (intro a; simp_all))
    · rw [Bool.eq_iff_iff]; simp [h0]
  simp only [if_neg h]
  by_cases h4 : t.kind = 4
  · simp only [if_pos h4]
    by_cases h0 : t.names.length = 0
    · rw [names_none _ h0, Bool.eq_iff_iff]; simp [h0] <;> (constructor <;> (intro a; simp_all))
    · rw [Bool.eq_iff_iff]; simp [h0]
  simp only [if_neg h4]
  by_cases h5 : t.kind = 5
  · simp only [if_pos h5]
    rw [h5, names_small]
    rw [Bool.eq_iff_iff]; simp only [Bool.and_eq_true, decide_eq_true_eq]
    constructor
    · rintro ⟨⟨⟨a, b⟩, c⟩, d⟩; exact ⟨⟨a, c⟩, d, b.symm⟩
    · rintro ⟨⟨a, c⟩, d, b⟩; exact ⟨⟨⟨a, b.symm⟩, c⟩, d⟩
  simp only [if_neg h5]
  by_cases h6 : t.kind = 6
  · simp only [if_pos h6]
    rw [h6, names_great]
    rw [Bool.eq_iff_iff]; simp only [Bool.and_eq_true, decide_eq_true_eq]
    constructor
    · rintro ⟨⟨⟨⟨e, a⟩, b⟩, c⟩, d⟩; exact ⟨⟨a, c⟩, ⟨d, b.symm⟩, by omega⟩
    · rintro ⟨⟨a, c⟩, ⟨d, b⟩, e⟩; exact ⟨⟨⟨⟨by omega, a⟩, b.symm⟩, c⟩, d⟩
  simp only [if_neg h6]
  by_cases h7 : t.kind = 7
  · simp only [if_pos h7]
    by_cases h0 : t.names.length = 0
    · rw [names_none _ h0, Bool.eq_iff_iff]; simp only [Bool.and_eq_true, decide_eq_true_eq]
      constructor
      · rintro ⟨⟨⟨e, a⟩, b⟩, d⟩; exact ⟨⟨a, trivial⟩, ⟨d, by omega⟩, h0⟩
      · rintro ⟨⟨a, c⟩, ⟨d, b⟩, e⟩; exact ⟨⟨⟨by omega, a⟩, h0⟩, d⟩
    · rw [Bool.eq_iff_iff]; simp [h0]
  simp only [if_neg h7]
  by_cases h8 : t.kind = 8
  · simp only [if_pos h8]
    by_cases h0 : t.names.length = 0
    · rw [names_none _ h0, Bool.eq_iff_iff]; simp only [Bool.and_eq_true, Bool.or_eq_true, decide_eq_true_eq]
      constructor
      · rintro ⟨⟨a, b⟩, ⟨⟨c, d⟩, e⟩, f⟩; exact ⟨⟨by omega, trivial⟩, ⟨⟨⟨⟨a, h0⟩, c⟩, d⟩, f⟩, e.symm⟩
      · rintro ⟨-, ⟨⟨⟨⟨a, b⟩, c⟩, d⟩, f⟩, e⟩; exact ⟨⟨a, h0⟩, ⟨⟨c, d⟩, e.symm⟩, f⟩
    · rw [Bool.eq_iff_iff]; simp [h0]
  simp only [if_neg h8]
  by_cases h9 : t.kind = 9
  · simp only [if_pos h9]
    by_cases h0 : t.names.length = 0
    · rw [names_none _ h0, Bool.eq_iff_iff]; simp only [Bool.and_eq_true, decide_eq_true_eq]
      constructor
      · rintro ⟨⟨a, b⟩, ⟨⟨⟨c, d⟩, e⟩, f⟩, g⟩; exact ⟨⟨by omega, trivial⟩, ⟨⟨⟨⟨⟨⟨a, h0⟩, c⟩, f⟩, g⟩, d⟩, e⟩⟩
      · rintro ⟨-, ⟨⟨⟨⟨⟨a, b⟩, c⟩, f⟩, g⟩, d⟩, e⟩; exact ⟨⟨a, h0⟩, ⟨⟨⟨c, d⟩, e⟩, f⟩, g⟩
    · rw [Bool.eq_iff_iff]; simp [h0]
  · simp only [if_neg h9]; simp

theorem nameAt_of0 {l : List ByteArray} {i : Nat} {s : ByteArray} (h : l[i]? = some s) : nameAt l i = s := by
  unfold nameAt; rw [List.getD_eq_getElem?_getD, h]; rfl

set_option maxRecDepth 100000 in
set_option maxHeartbeats 4000000 in
theorem unnamed_any (t : Ty) (v : Value) (w : World) (hv : TyV w v t) :
    Calls Tryd.prog 43 #[v] w fun e w' => e = .returned (.bool (noMore t)) ∧ Below w.heap.size w w' := by
  obtain ⟨l, rfl, hT⟩ := hv
  obtain ⟨An, cn, As, cs, rfl, zp, zm, za, hzn, hz, hN, -⟩ := hT.parts
  clear hT hN
  by_cases e1 : t.pkg.size = 0
  · obtain ⟨x1, y1⟩ := empty_facts _ e1
    rcases hid_or (t.major == 0) with e2 | e2
    · have d2 := e2.out
      have R : noMore t = false := by
        unfold noMore emptyB
        simp [d2]
      rw [R]
      clear R
      as_aux_lemma =>
      go_enter Tryd.func43, Tryd.ntmps43
      go_wp2_with fail
      go_ret
      exact ⟨rfl, below_new (Below.refl _ _) _⟩
    · have d2 := e2.out
      by_cases e3 : t.mod.size = 0
      · obtain ⟨x3, y3⟩ := empty_facts _ e3
        by_cases e4 : t.name.size = 0
        · obtain ⟨x4, y4⟩ := empty_facts _ e4
          have R : noMore t = true := by
            unfold noMore emptyB
            simp [e1, d2, e3, e4]
          rw [R]
          clear R
          as_aux_lemma =>
          go_enter Tryd.func43, Tryd.ntmps43
          go_wp2_with fail
          go_ret
          exact ⟨rfl, below_new (Below.refl _ _) _⟩
        · obtain ⟨x4, y4⟩ := full_facts _ e4
          have R : noMore t = false := by
            unfold noMore emptyB
            simp [e4]
          rw [R]
          clear R
          as_aux_lemma =>
          go_enter Tryd.func43, Tryd.ntmps43
          go_wp2_with fail
          go_ret
          exact ⟨rfl, below_new (Below.refl _ _) _⟩
      · obtain ⟨x3, y3⟩ := full_facts _ e3
        have R : noMore t = false := by
          unfold noMore emptyB
          simp [e3]
        rw [R]
        clear R
        as_aux_lemma =>
        go_enter Tryd.func43, Tryd.ntmps43
        go_wp2_with fail
        go_ret
        exact ⟨rfl, below_new (Below.refl _ _) _⟩
  · obtain ⟨x1, y1⟩ := full_facts _ e1
    have R : noMore t = false := by
      unfold noMore emptyB
      simp [e1]
    rw [R]
    clear R
    as_aux_lemma =>
    go_enter Tryd.func43, Tryd.ntmps43
    go_wp2_with fail
    go_ret
    exact ⟨rfl, below_new (Below.refl _ _) _⟩

set_option maxRecDepth 100000 in
set_option maxHeartbeats 4000000 in
theorem mayLocal_any (t : Ty) (v : Value) (w : World) (hv : TyV w v t) :
    Calls Tryd.prog 47 #[v] w fun e w' => e = .returned (.bool (localOk t)) ∧ Below w.heap.size w w' := by
  obtain ⟨l, rfl, hT⟩ := hv
  obtain ⟨An, cn, As, cs, rfl, zp, zm, za, hzn, hz, hN, -⟩ := hT.parts
  clear hT hN
  by_cases e1 : t.pkg.size = 0
  · obtain ⟨x1, y1⟩ := empty_facts _ e1
    rcases hid_or (t.major == 0) with e2 | e2
    · have d2 := e2.out
      have R : Hid (localOk t = false) := Lib.hid (by
        unfold localOk emptyB
        simp [d2])
      rw [R.out]
      clear R
      as_aux_lemma =>
      go_enter Tryd.func47, Tryd.ntmps47
      go_wp2_with fail
      go_ret
      exact ⟨rfl, below_new (Below.refl _ _) _⟩
    · have d2 := e2.out
      by_cases e3 : t.mod.size = 0
      · obtain ⟨x3, y3⟩ := empty_facts _ e3
        rcases hid_or (greatB t.name.data.toList) with g1 | g1
        · skip
          have R : Hid (localOk t = false) := Lib.hid (by
            unfold localOk emptyB
            simp [e1, d2, e3, g1.out])
          rw [R.out]
          clear R
          as_aux_lemma =>
          go_enter Tryd.func47, Tryd.ntmps47
          go_wp2_with fail
          refine (great_any _ _ za).mono ?_; rintro e w2 ⟨rfl, rfl⟩; rw [g1.out]
          go_wp2_with fail
          go_ret
          exact ⟨rfl, below_new (Below.refl _ _) _⟩
        · skip
          have R : Hid (localOk t = true) := Lib.hid (by
            unfold localOk emptyB
            simp [e1, d2, e3, g1.out])
          rw [R.out]
          clear R
          as_aux_lemma =>
          go_enter Tryd.func47, Tryd.ntmps47
          go_wp2_with fail
          refine (great_any _ _ za).mono ?_; rintro e w2 ⟨rfl, rfl⟩; rw [g1.out]
          go_wp2_with fail
          go_ret
          exact ⟨rfl, below_new (Below.refl _ _) _⟩
      · obtain ⟨x3, y3⟩ := full_facts _ e3
        rcases hid_or (smallB t.mod.data.toList) with s1 | s1
        · skip
          have R : Hid (localOk t = false) := Lib.hid (by
            unfold localOk emptyB
            simp [e3, s1.out])
          rw [R.out]
          clear R
          as_aux_lemma =>
          go_enter Tryd.func47, Tryd.ntmps47
          go_wp2_with fail
          refine (small_any _ _ zm).mono ?_; rintro e w1 ⟨rfl, rfl⟩; rw [s1.out]
          go_wp2_with fail
          go_ret
          exact ⟨rfl, below_new (Below.refl _ _) _⟩
        · skip
          rcases hid_or (greatB t.name.data.toList) with g1 | g1
          · skip
            have R : Hid (localOk t = false) := Lib.hid (by
              unfold localOk emptyB
              simp [e1, d2, e3, s1.out, g1.out])
            rw [R.out]
            clear R
            as_aux_lemma =>
            go_enter Tryd.func47, Tryd.ntmps47
            go_wp2_with fail
            refine (small_any _ _ zm).mono ?_; rintro e w1 ⟨rfl, rfl⟩; rw [s1.out]
            go_wp2_with fail
            refine (great_any _ _ za).mono ?_; rintro e w2 ⟨rfl, rfl⟩; rw [g1.out]
            go_wp2_with fail
            go_ret
            exact ⟨rfl, below_new (Below.refl _ _) _⟩
          · skip
            have R : Hid (localOk t = true) := Lib.hid (by
              unfold localOk emptyB
              simp [e1, d2, e3, s1.out, g1.out])
            rw [R.out]
            clear R
            as_aux_lemma =>
            go_enter Tryd.func47, Tryd.ntmps47
            go_wp2_with fail
            refine (small_any _ _ zm).mono ?_; rintro e w1 ⟨rfl, rfl⟩; rw [s1.out]
            go_wp2_with fail
            refine (great_any _ _ za).mono ?_; rintro e w2 ⟨rfl, rfl⟩; rw [g1.out]
            go_wp2_with fail
            go_ret
            exact ⟨rfl, below_new (Below.refl _ _) _⟩
  · obtain ⟨x1, y1⟩ := full_facts _ e1
    have R : Hid (localOk t = false) := Lib.hid (by
      unfold localOk emptyB
      simp [e1])
    rw [R.out]
    clear R
    as_aux_lemma =>
    go_enter Tryd.func47, Tryd.ntmps47
    go_wp2_with fail
    go_ret
    exact ⟨rfl, below_new (Below.refl _ _) _⟩

set_option maxRecDepth 100000 in
set_option maxHeartbeats 4000000 in
theorem mayOpen_any (t : Ty) (v : Value) (w : World) (hv : TyV w v t) :
    Calls Tryd.prog 48 #[v] w fun e w' => e = .returned (.bool (openOk t)) ∧ Below w.heap.size w w' := by
  obtain ⟨l, rfl, hT⟩ := hv
  obtain ⟨An, cn, As, cs, rfl, zp, zm, za, hzn, hz, hN, -⟩ := hT.parts
  clear hT hN
  rcases hid_or (smallB t.pkg.data.toList) with s1 | s1
  · skip
    have R : Hid (openOk t = false) := Lib.hid (by
      unfold openOk
      simp [s1.out])
    rw [R.out]
    clear R
    as_aux_lemma =>
    go_enter Tryd.func48, Tryd.ntmps48
    go_wp2_with fail
    refine (small_any _ _ zp).mono ?_; rintro e w1 ⟨rfl, rfl⟩; rw [s1.out]
    go_wp2_with fail
    go_ret
    exact ⟨rfl, below_new (Below.refl _ _) _⟩
  · by_cases l1 : 1 ≤ t.major
    · by_cases l2 : t.major ≤ 999999999
      · rcases hid_or (smallB t.mod.data.toList) with s2 | s2
        · skip
          have R : Hid (openOk t = false) := Lib.hid (by
            unfold openOk
            simp [s2.out])
          rw [R.out]
          clear R
          as_aux_lemma =>
          go_enter Tryd.func48, Tryd.ntmps48
          go_wp2_with fail
          refine (small_any _ _ zp).mono ?_; rintro e w1 ⟨rfl, rfl⟩; rw [s1.out]
          go_wp2_with fail
          refine (small_any _ _ zm).mono ?_; rintro e w2 ⟨rfl, rfl⟩; rw [s2.out]
          go_wp2_with fail
          go_ret
          exact ⟨rfl, below_new (Below.refl _ _) _⟩
        · rcases hid_or (greatB t.name.data.toList) with g1 | g1
          · skip
            have R : Hid (openOk t = false) := Lib.hid (by
              unfold openOk
              simp [g1.out])
            rw [R.out]
            clear R
            as_aux_lemma =>
            go_enter Tryd.func48, Tryd.ntmps48
            go_wp2_with fail
            refine (small_any _ _ zp).mono ?_; rintro e w1 ⟨rfl, rfl⟩; rw [s1.out]
            go_wp2_with fail
            refine (small_any _ _ zm).mono ?_; rintro e w2 ⟨rfl, rfl⟩; rw [s2.out]
            go_wp2_with fail
            refine (great_any _ _ za).mono ?_; rintro e w3 ⟨rfl, rfl⟩; rw [g1.out]
            go_wp2_with fail
            go_ret
            exact ⟨rfl, below_new (Below.refl _ _) _⟩
          · skip
            have R : Hid (openOk t = true) := Lib.hid (by
              unfold openOk
              simp [s1.out, l1, l2, s2.out, g1.out])
            rw [R.out]
            clear R
            as_aux_lemma =>
            go_enter Tryd.func48, Tryd.ntmps48
            go_wp2_with fail
            refine (small_any _ _ zp).mono ?_; rintro e w1 ⟨rfl, rfl⟩; rw [s1.out]
            go_wp2_with fail
            refine (small_any _ _ zm).mono ?_; rintro e w2 ⟨rfl, rfl⟩; rw [s2.out]
            go_wp2_with fail
            refine (great_any _ _ za).mono ?_; rintro e w3 ⟨rfl, rfl⟩; rw [g1.out]
            go_wp2_with fail
            go_ret
            exact ⟨rfl, below_new (Below.refl _ _) _⟩
      · skip
        have R : Hid (openOk t = false) := Lib.hid (by
          unfold openOk
          simp [l2])
        rw [R.out]
        clear R
        as_aux_lemma =>
        go_enter Tryd.func48, Tryd.ntmps48
        go_wp2_with fail
        refine (small_any _ _ zp).mono ?_; rintro e w1 ⟨rfl, rfl⟩; rw [s1.out]
        go_wp2_with fail
        go_ret
        exact ⟨rfl, below_new (Below.refl _ _) _⟩
    · skip
      have R : Hid (openOk t = false) := Lib.hid (by
        unfold openOk
        simp [l1])
      rw [R.out]
      clear R
      as_aux_lemma =>
      go_enter Tryd.func48, Tryd.ntmps48
      go_wp2_with fail
      refine (small_any _ _ zp).mono ?_; rintro e w1 ⟨rfl, rfl⟩; rw [s1.out]
      go_wp2_with fail
      go_ret
      exact ⟨rfl, below_new (Below.refl _ _) _⟩

set_option maxRecDepth 100000 in
set_option maxHeartbeats 4000000 in
theorem rising_small (A : Option Addr) (c n : Nat) (names : List ByteArray) (w : World) (hn : names.length = n) (hz : n ≤ 9223372036854775807) (hN : NamesAt w A names) :
    Calls Tryd.prog 44 #[.slice A n c, .func (.func 45) #[] #[]] w fun e w' => e = .returned (.bool (risingB smallB names)) ∧ w = w' := by
  have HN := Lib.hid hN
  have HQ := Lib.hid hn
  clear hN hn
  go_enter Tryd.func44, Tryd.ntmps44
  go_wp2_with fail
  go_loop [9] (fun i => ∃ k : Nat, k ≤ n ∧ i = .int .i64 k ∧ Hid (∀ j, j < k → badFor smallB names j = false)) (fun i => n - (intOf i).toNat)
  case atStart => exact ⟨0, by omega, rfl, Lib.hid (fun j h => by omega)⟩
  case round =>
    obtain ⟨k, hk, rfl, HP⟩ := hrel
    by_cases hlt : k < n
    · obtain ⟨s, hs⟩ : ∃ s, names[k]? = some s := ⟨_, List.getElem?_eq_getElem (by rw [HQ.out]; exact hlt)⟩
      obtain ⟨g, o, rfl, hgo, hcs, hzs⟩ := HN.out k s hs
      have hna := nameAt_of0 hs
      rcases hid_or (smallB s.data.toList) with h1 | h1
      · have R : Hid (risingB smallB names = false) := Lib.hid (rising_no (i := k) (by rw [HQ.out]; exact hlt) (by unfold badFor; rw [hna, h1.out]; rfl))
        clear hna hs
        go_wp2_with fail
        refine (small_any _ _ hzs).mono ?_; rintro e w1 ⟨rfl, rfl⟩; rw [h1.out]
        go_wp2_with fail
        go_ret
        exact ⟨ret_bool R.out, rfl⟩
      · rcases Nat.eq_zero_or_pos k with hk0 | hk0
        · have hp : ¬ (0 : Int) < k := by omega
          have hb : Hid (badFor smallB names k = false) := Lib.hid (by unfold badFor; rw [hna, h1.out, show decide (0 < k) = false by simp; omega]; rfl)
          clear hna hs hk0
          go_wp2_with fail
          refine (small_any _ _ hzs).mono ?_; rintro e w1 ⟨rfl, rfl⟩; rw [h1.out]
          go_wp2_with fail
          go_round
          case rel => exact ⟨k + 1, by omega, by go_num, Lib.hid (fun j hj => by
            rcases Nat.lt_or_ge j k with a | a
            · exact HP.out j a
            · rw [show j = k by omega]; exact hb.out)⟩
          case measure => simp [intOf]; omega
        · obtain ⟨p, hps⟩ : ∃ p, names[k - 1]? = some p := ⟨_, List.getElem?_eq_getElem (by rw [HQ.out]; omega)⟩
          obtain ⟨g2, o2, eg, hg2, hc2, -⟩ := HN.out (k - 1) p hps
          obtain ⟨rfl, rfl⟩ : g = g2 ∧ o = o2 := by simpa using eg
          have hna2 := nameAt_of0 hps
          have hp : (0 : Int) < k := by omega
          have hp1 : 1 ≤ (k : Int) := by omega
          rcases hid_or (!Op.bytesLess p.toList s.toList) with hL | hL
          · have hl := hL.out
            have hb : Hid (badFor smallB names k = false) := Lib.hid (by unfold badFor; rw [hna, hna2, h1.out, leS_eq, hl]; simp)
            clear hna hna2 eg hg2 hps hk0 hs
            go_wp2_with fail
            refine (small_any _ _ hzs).mono ?_; rintro e w1 ⟨rfl, rfl⟩; rw [h1.out]
            go_wp2_with fail
            go_round
            case rel => exact ⟨k + 1, by omega, by go_num, Lib.hid (fun j hj => by
              rcases Nat.lt_or_ge j k with a | a
              · exact HP.out j a
              · rw [show j = k by omega]; exact hb.out)⟩
            case measure => simp [intOf]; omega
          · have hl := hL.out
            have R : Hid (risingB smallB names = false) := Lib.hid (rising_no (i := k) (by rw [HQ.out]; exact hlt) (by unfold badFor; rw [hna, hna2, h1.out, leS_eq, hl, show decide (0 < k) = true by simp; omega]; rfl))
            clear hna hna2 eg hg2 hps hk0 hs
            go_wp2_with fail
            refine (small_any _ _ hzs).mono ?_; rintro e w1 ⟨rfl, rfl⟩; rw [h1.out]
            go_wp2_with fail
            go_ret
            exact ⟨ret_bool R.out, rfl⟩
    · have R : Hid (risingB smallB names = true) := Lib.hid ((rising_iff _ _).2 (fun i hi => HP.out i (by rw [HQ.out] at hi; omega)))
      go_wp2_with fail
      go_ret
      exact ⟨ret_bool R.out, rfl⟩

set_option maxRecDepth 100000 in
set_option maxHeartbeats 4000000 in
theorem rising_great (A : Option Addr) (c n : Nat) (names : List ByteArray) (w : World) (hn : names.length = n) (hz : n ≤ 9223372036854775807) (hN : NamesAt w A names) :
    Calls Tryd.prog 44 #[.slice A n c, .func (.func 46) #[] #[]] w fun e w' => e = .returned (.bool (risingB greatB names)) ∧ w = w' := by
  have HN := Lib.hid hN
  have HQ := Lib.hid hn
  clear hN hn
  go_enter Tryd.func44, Tryd.ntmps44
  go_wp2_with fail
  go_loop [9] (fun i => ∃ k : Nat, k ≤ n ∧ i = .int .i64 k ∧ Hid (∀ j, j < k → badFor greatB names j = false)) (fun i => n - (intOf i).toNat)
  case atStart => exact ⟨0, by omega, rfl, Lib.hid (fun j h => by omega)⟩
  case round =>
    obtain ⟨k, hk, rfl, HP⟩ := hrel
    by_cases hlt : k < n
    · obtain ⟨s, hs⟩ : ∃ s, names[k]? = some s := ⟨_, List.getElem?_eq_getElem (by rw [HQ.out]; exact hlt)⟩
      obtain ⟨g, o, rfl, hgo, hcs, hzs⟩ := HN.out k s hs
      have hna := nameAt_of0 hs
      rcases hid_or (greatB s.data.toList) with h1 | h1
      · have R : Hid (risingB greatB names = false) := Lib.hid (rising_no (i := k) (by rw [HQ.out]; exact hlt) (by unfold badFor; rw [hna, h1.out]; rfl))
        clear hna hs
        go_wp2_with fail
        refine (great_any _ _ hzs).mono ?_; rintro e w1 ⟨rfl, rfl⟩; rw [h1.out]
        go_wp2_with fail
        go_ret
        exact ⟨ret_bool R.out, rfl⟩
      · rcases Nat.eq_zero_or_pos k with hk0 | hk0
        · have hp : ¬ (0 : Int) < k := by omega
          have hb : Hid (badFor greatB names k = false) := Lib.hid (by unfold badFor; rw [hna, h1.out, show decide (0 < k) = false by simp; omega]; rfl)
          clear hna hs hk0
          go_wp2_with fail
          refine (great_any _ _ hzs).mono ?_; rintro e w1 ⟨rfl, rfl⟩; rw [h1.out]
          go_wp2_with fail
          go_round
          case rel => exact ⟨k + 1, by omega, by go_num, Lib.hid (fun j hj => by
            rcases Nat.lt_or_ge j k with a | a
            · exact HP.out j a
            · rw [show j = k by omega]; exact hb.out)⟩
          case measure => simp [intOf]; omega
        · obtain ⟨p, hps⟩ : ∃ p, names[k - 1]? = some p := ⟨_, List.getElem?_eq_getElem (by rw [HQ.out]; omega)⟩
          obtain ⟨g2, o2, eg, hg2, hc2, -⟩ := HN.out (k - 1) p hps
          obtain ⟨rfl, rfl⟩ : g = g2 ∧ o = o2 := by simpa using eg
          have hna2 := nameAt_of0 hps
          have hp : (0 : Int) < k := by omega
          have hp1 : 1 ≤ (k : Int) := by omega
          rcases hid_or (!Op.bytesLess p.toList s.toList) with hL | hL
          · have hl := hL.out
            have hb : Hid (badFor greatB names k = false) := Lib.hid (by unfold badFor; rw [hna, hna2, h1.out, leS_eq, hl]; simp)
            clear hna hna2 eg hg2 hps hk0 hs
            go_wp2_with fail
            refine (great_any _ _ hzs).mono ?_; rintro e w1 ⟨rfl, rfl⟩; rw [h1.out]
            go_wp2_with fail
            go_round
            case rel => exact ⟨k + 1, by omega, by go_num, Lib.hid (fun j hj => by
              rcases Nat.lt_or_ge j k with a | a
              · exact HP.out j a
              · rw [show j = k by omega]; exact hb.out)⟩
            case measure => simp [intOf]; omega
          · have hl := hL.out
            have R : Hid (risingB greatB names = false) := Lib.hid (rising_no (i := k) (by rw [HQ.out]; exact hlt) (by unfold badFor; rw [hna, hna2, h1.out, leS_eq, hl, show decide (0 < k) = true by simp; omega]; rfl))
            clear hna hna2 eg hg2 hps hk0 hs
            go_wp2_with fail
            refine (great_any _ _ hzs).mono ?_; rintro e w1 ⟨rfl, rfl⟩; rw [h1.out]
            go_wp2_with fail
            go_ret
            exact ⟨ret_bool R.out, rfl⟩
    · have R : Hid (risingB greatB names = true) := Lib.hid ((rising_iff _ _).2 (fun i hi => HP.out i (by rw [HQ.out] at hi; omega)))
      go_wp2_with fail
      go_ret
      exact ⟨ret_bool R.out, rfl⟩

end Go.Proofs.YtnnppdlhmcobcaaDoor
