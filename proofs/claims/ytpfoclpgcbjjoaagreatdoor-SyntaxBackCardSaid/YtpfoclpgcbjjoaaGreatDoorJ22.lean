/-
  Several texts in one: Plain mathematics for layer 4: how package kind counts a type's types. · The walk of package kind's formed: are a type's own fields those of its kind? · The walk of package kind's count, and of Size, May. · The code's May of declarations.
-/
import Derived.Test.YtpfoclpgcbjjoaaGreatDoorJ21
import Derived.OneCell
import Derived.Lib.Builder
/- Plain mathematics for layer 4: how package kind counts a type's types. -/
namespace Go.Proofs.YtpfoclpgcbjjoaaGreatDoor
open Go.RowKit
open M

mutual
def countT : Ty → Int → Int → Bool × Int
  | .mk k p m d n ns ss, depth, c =>
    if 500 < c + 1 ∨ 32 < depth ∨ formT (.mk k p m d n ns ss) = false then (false, c + 1) else countL ss (depth + 1) (c + 1)
def countL : List Ty → Int → Int → Bool × Int
  | [], _, c => (true, c)
  | t :: r, depth, c => if (countT t depth c).1 = true then countL r depth (countT t depth c).2 else (false, (countT t depth c).2)
end
theorem countT_eq (t : Ty) (d c : Int) : countT t d c = if 500 < c + 1 ∨ 32 < d ∨ formT t = false then (false, c + 1) else countL t.subs (d + 1) (c + 1) := by cases t; rfl
theorem countL_at {l : List Ty} {k : Nat} {s : Ty} (h : l[k]? = some s) (d c : Int) : countL (l.drop k) d c = if (countT s d c).1 = true then countL (l.drop (k + 1)) d (countT s d c).2 else (false, (countT s d c).2) := by
  have hk := (List.getElem?_eq_some_iff.1 h).1
  have e : l.drop k = s :: l.drop (k + 1) := by
    rw [List.drop_eq_getElem_cons hk]
    congr 1
    exact (List.getElem?_eq_some_iff.1 h).2
  rw [e]; rfl

mutual
theorem countT_is : ∀ (t : Ty) (d c : Int), c ≤ 500 → ((countT t d c).1 = true ↔ allOk t = true ∧ c + many t ≤ 500 ∧ d + deep t ≤ 33) ∧ ((countT t d c).1 = true → (countT t d c).2 = c + many t) ∧ c ≤ (countT t d c).2 ∧ (countT t d c).2 ≤ 501
  | .mk k p m d' n ns ss, d, c, hc => by
    have hm : many (.mk k p m d' n ns ss) = 1 + manyL ss := rfl
    have hd : deep (.mk k p m d' n ns ss) = deepL ss + 1 := rfl
    have ha : allOk (.mk k p m d' n ns ss) = (ownOk (.mk k p m d' n ns ss) && allOkL ss) := rfl
    have he : countT (.mk k p m d' n ns ss) d c = if 500 < c + 1 ∨ 32 < d ∨ formT (.mk k p m d' n ns ss) = false then (false, c + 1) else countL ss (d + 1) (c + 1) := rfl
    rw [he, hm, hd, ha, ← formT_own]
    by_cases h : 500 < c + 1 ∨ 32 < d ∨ formT (.mk k p m d' n ns ss) = false
    · rw [if_pos h]
      refine ⟨⟨fun h => by simp at h, fun ⟨h1, h2, h3⟩ => ?_⟩, fun h => by simp at h, by simp; omega, by simp; omega⟩
      exfalso
      rcases h with h | h | h
      · omega
      · omega
      · rw [h] at h1; simp at h1
    · rw [if_neg h]
      have hf : formT (.mk k p m d' n ns ss) = true := by
        rcases hid_or (formT (.mk k p m d' n ns ss)) with e | e
        · exact absurd (.inr (.inr e.out)) h
        · exact e.out
      have h1 : ¬ 500 < c + 1 := fun x => h (.inl x)
      have h2 : ¬ 32 < d := fun x => h (.inr (.inl x))
      obtain ⟨a, b, l, u⟩ := countL_is ss (d + 1) (c + 1) (by omega) (by omega)
      refine ⟨?_, fun x => by rw [b x]; omega, by omega, u⟩
      rw [a, hf]
      simp only [Bool.true_and]
      constructor
      · rintro ⟨x, y, z⟩; exact ⟨x, by omega, by omega⟩
      · rintro ⟨x, y, z⟩; exact ⟨x, by omega, by omega⟩
theorem countL_is : ∀ (l : List Ty) (d c : Int), c ≤ 500 → d ≤ 33 → ((countL l d c).1 = true ↔ allOkL l = true ∧ c + manyL l ≤ 500 ∧ d + deepL l ≤ 33) ∧ ((countL l d c).1 = true → (countL l d c).2 = c + manyL l) ∧ c ≤ (countL l d c).2 ∧ (countL l d c).2 ≤ 501
  | [], d, c, hc, hd => by
    have hm : manyL [] = 0 := rfl
    have h2 : deepL [] = 0 := rfl
    have ha : allOkL [] = true := rfl
    have he : countL [] d c = (true, c) := rfl
    rw [he, hm, h2, ha]
    exact ⟨⟨fun _ => ⟨rfl, by omega, by omega⟩, fun _ => rfl⟩, fun _ => by simp, by simp, by simp; omega⟩
  | t :: r, d, c, hc, hd => by
    have hm : manyL (t :: r) = many t + manyL r := rfl
    have h2 : deepL (t :: r) = max (deep t) (deepL r) := rfl
    have ha : allOkL (t :: r) = (allOk t && allOkL r) := rfl
    have he : countL (t :: r) d c = if (countT t d c).1 = true then countL r d (countT t d c).2 else (false, (countT t d c).2) := rfl
    obtain ⟨a, b, l, u⟩ := countT_is t d c hc
    rw [he, hm, h2, ha]
    by_cases h : (countT t d c).1 = true
    · rw [if_pos h]
      have e := b h
      obtain ⟨x, y, z⟩ := a.1 h
      obtain ⟨a2, b2, l2, u2⟩ := countL_is r d (countT t d c).2 (by omega) hd
      refine ⟨?_, fun x => by rw [b2 x]; omega, by omega, u2⟩
      rw [a2, x, e]
      simp only [Bool.true_and]
      constructor
      · rintro ⟨x', y', z'⟩; exact ⟨x', by omega, by omega⟩
      · rintro ⟨x', y', z'⟩; exact ⟨x', by omega, by omega⟩
    · rw [if_neg h]
      refine ⟨⟨fun h => by simp at h, fun ⟨x, y, z⟩ => ?_⟩, fun h => by simp at h, l, u⟩
      exfalso
      simp only [Bool.and_eq_true] at x
      exact h (a.2 ⟨x.1, by omega, by omega⟩)
end
/-- How many types there are, if it may be. -/
def sizeT (t : Ty) : Nat := if mayT t = true then many t else 0
theorem may_iff (t : Ty) : mayT t = true ↔ (countT t 1 0).1 = true := by
  rw [(countT_is t 1 0 (by omega)).1]
  unfold mayT
  simp only [Bool.and_eq_true, decide_eq_true_eq]
  constructor
  · rintro ⟨⟨a, b⟩, c⟩; exact ⟨a, by omega, by omega⟩
  · rintro ⟨a, b, c⟩; exact ⟨⟨a, by omega⟩, by omega⟩
theorem size_pos (t : Ty) : decide (0 < sizeT t) = mayT t := by
  have := many_pos t
  unfold sizeT
  rcases hid_or (mayT t) with h | h
  · rw [h.out]; rfl
  · rw [h.out]; simp; omega

end Go.Proofs.YtpfoclpgcbjjoaaGreatDoor

/- The walk of package kind's formed: are a type's own fields those of its kind? -/
namespace Go.Proofs.YtpfoclpgcbjjoaaGreatDoor
open Go.RowKit
open M

set_option maxRecDepth 100000 in
set_option maxHeartbeats 16000000 in
theorem formed_any (t : Ty) (v : Value) (w : World) (hv : TyV w v t) :
    Calls Tryz.prog 163 #[v] w fun e w' => e = .returned (.bool (formT t)) ∧ Below w.heap.size w w' := by
  have HV := Lib.hid hv
  obtain ⟨l, rfl, hT⟩ := hv
  obtain ⟨An, cn, As, cs, rfl, zp, zm, za, hzn, hz, hN, -⟩ := hT.parts
  have HNM := Lib.hid hN
  clear hT hN
  have HF := Lib.hid (formT_w t)
  generalize hn : t.subs.length = n at hz HF HV
  generalize hq : t.names.length = q at hzn HF HV
  have HQ := Lib.hid hq
  clear hn hq
  by_cases hx : t.kind = 1
  · skip
    have b1 : (t.kind == 1) = true := by rw [hx]; rfl
    by_cases n0 : n = 0
    · have n0i : (((n : Nat) : Int) == 0) = true := by simp; omega
      by_cases q0 : q = 0
      · have q0i : (((q : Nat) : Int) == 0) = true := by simp; omega
        rcases hid_or (noMore t) with um | um
        · skip
          have R : Hid (formT t = false) := Lib.hid (by
            rw [HF.out]
            unfold formW
            simp [hx, um.out])
          clear HF
          clear hx n0 q0
          as_aux_lemma =>
          rw [R.out]
          clear R
          go_enter Tryz.func163, Tryz.ntmps163
          go_wp2_with fail
          go_quiet (fail)
          go_wp2_with fail
          refine (unnamed_any t _ _ (HV.out.below (below_drewN (below_new (Below.refl _ _) _) _))).mono ?_; rintro e w0 ⟨rfl, hb0⟩; rw [um.out]
          go_wp2_with fail
          go_ret
          exact ⟨rfl, (below_drewN (below_new (Below.refl _ _) _) _).trans (hb0.mono (by simp))⟩
        · skip
          have R : Hid (formT t = true) := Lib.hid (by
            rw [HF.out]
            unfold formW
            simp [hx, n0, q0, um.out])
          clear HF
          clear hx n0 q0
          as_aux_lemma =>
          rw [R.out]
          clear R
          go_enter Tryz.func163, Tryz.ntmps163
          go_wp2_with fail
          go_quiet (fail)
          go_wp2_with fail
          refine (unnamed_any t _ _ (HV.out.below (below_drewN (below_new (Below.refl _ _) _) _))).mono ?_; rintro e w0 ⟨rfl, hb0⟩; rw [um.out]
          go_wp2_with fail
          go_ret
          exact ⟨rfl, (below_drewN (below_new (Below.refl _ _) _) _).trans (hb0.mono (by simp))⟩
      · have q0i : (((q : Nat) : Int) == 0) = false := by simp; omega
        have R : Hid (formT t = false) := Lib.hid (by
          rw [HF.out]
          unfold formW
          simp [hx, q0])
        clear HF
        clear hx n0 q0
        as_aux_lemma =>
        rw [R.out]
        clear R
        go_enter Tryz.func163, Tryz.ntmps163
        go_wp2_with fail
        go_quiet (fail)
        go_wp2_with fail
        go_ret
        exact ⟨rfl, below_drewN (below_new (Below.refl _ _) _) _⟩
    · have n0i : (((n : Nat) : Int) == 0) = false := by simp; omega
      have R : Hid (formT t = false) := Lib.hid (by
        rw [HF.out]
        unfold formW
        simp [hx, n0])
      clear HF
      clear hx n0
      as_aux_lemma =>
      rw [R.out]
      clear R
      go_enter Tryz.func163, Tryz.ntmps163
      go_wp2_with fail
      go_quiet (fail)
      go_wp2_with fail
      go_ret
      exact ⟨rfl, below_drewN (below_new (Below.refl _ _) _) _⟩
  have c1 : ¬ t.kind = 1 := hx
  have d1 : (t.kind == 1) = false := by simpa using hx
  clear hx
  by_cases hx : t.kind = 2
  · skip
    have b1 : (t.kind == 1) = false := by rw [hx]; rfl
    have b2 : (t.kind == 2) = true := by rw [hx]; rfl
    by_cases n0 : n = 0
    · have n0i : (((n : Nat) : Int) == 0) = true := by simp; omega
      by_cases q0 : q = 0
      · have q0i : (((q : Nat) : Int) == 0) = true := by simp; omega
        rcases hid_or (noMore t) with um | um
        · skip
          have R : Hid (formT t = false) := Lib.hid (by
            rw [HF.out]
            unfold formW
            simp [hx, um.out])
          clear HF
          clear hx n0 q0
          as_aux_lemma =>
          rw [R.out]
          clear R
          go_enter Tryz.func163, Tryz.ntmps163
          go_wp2_with fail
          go_quiet (fail)
          go_wp2_with fail
          refine (unnamed_any t _ _ (HV.out.below (below_drewN (below_new (Below.refl _ _) _) _))).mono ?_; rintro e w0 ⟨rfl, hb0⟩; rw [um.out]
          go_wp2_with fail
          go_ret
          exact ⟨rfl, (below_drewN (below_new (Below.refl _ _) _) _).trans (hb0.mono (by simp))⟩
        · skip
          have R : Hid (formT t = true) := Lib.hid (by
            rw [HF.out]
            unfold formW
            simp [hx, n0, q0, um.out])
          clear HF
          clear hx n0 q0
          as_aux_lemma =>
          rw [R.out]
          clear R
          go_enter Tryz.func163, Tryz.ntmps163
          go_wp2_with fail
          go_quiet (fail)
          go_wp2_with fail
          refine (unnamed_any t _ _ (HV.out.below (below_drewN (below_new (Below.refl _ _) _) _))).mono ?_; rintro e w0 ⟨rfl, hb0⟩; rw [um.out]
          go_wp2_with fail
          go_ret
          exact ⟨rfl, (below_drewN (below_new (Below.refl _ _) _) _).trans (hb0.mono (by simp))⟩
      · have q0i : (((q : Nat) : Int) == 0) = false := by simp; omega
        have R : Hid (formT t = false) := Lib.hid (by
          rw [HF.out]
          unfold formW
          simp [hx, q0])
        clear HF
        clear hx n0 q0
        as_aux_lemma =>
        rw [R.out]
        clear R
        go_enter Tryz.func163, Tryz.ntmps163
        go_wp2_with fail
        go_quiet (fail)
        go_wp2_with fail
        go_ret
        exact ⟨rfl, below_drewN (below_new (Below.refl _ _) _) _⟩
    · have n0i : (((n : Nat) : Int) == 0) = false := by simp; omega
      have R : Hid (formT t = false) := Lib.hid (by
        rw [HF.out]
        unfold formW
        simp [hx, n0])
      clear HF
      clear hx n0
      as_aux_lemma =>
      rw [R.out]
      clear R
      go_enter Tryz.func163, Tryz.ntmps163
      go_wp2_with fail
      go_quiet (fail)
      go_wp2_with fail
      go_ret
      exact ⟨rfl, below_drewN (below_new (Below.refl _ _) _) _⟩
  have c2 : ¬ t.kind = 2 := hx
  have d2 : (t.kind == 2) = false := by simpa using hx
  clear hx
  by_cases hx : t.kind = 3
  · skip
    have b1 : (t.kind == 1) = false := by rw [hx]; rfl
    have b2 : (t.kind == 2) = false := by rw [hx]; rfl
    have b3 : (t.kind == 3) = true := by rw [hx]; rfl
    by_cases n0 : n = 0
    · have n0i : (((n : Nat) : Int) == 0) = true := by simp; omega
      by_cases q0 : q = 0
      · have q0i : (((q : Nat) : Int) == 0) = true := by simp; omega
        rcases hid_or (noMore t) with um | um
        · skip
          have R : Hid (formT t = false) := Lib.hid (by
            rw [HF.out]
            unfold formW
            simp [hx, um.out])
          clear HF
          clear hx n0 q0
          as_aux_lemma =>
          rw [R.out]
          clear R
          go_enter Tryz.func163, Tryz.ntmps163
          go_wp2_with fail
          go_quiet (fail)
          go_wp2_with fail
          refine (unnamed_any t _ _ (HV.out.below (below_drewN (below_new (Below.refl _ _) _) _))).mono ?_; rintro e w0 ⟨rfl, hb0⟩; rw [um.out]
          go_wp2_with fail
          go_ret
          exact ⟨rfl, (below_drewN (below_new (Below.refl _ _) _) _).trans (hb0.mono (by simp))⟩
        · skip
          have R : Hid (formT t = true) := Lib.hid (by
            rw [HF.out]
            unfold formW
            simp [hx, n0, q0, um.out])
          clear HF
          clear hx n0 q0
          as_aux_lemma =>
          rw [R.out]
          clear R
          go_enter Tryz.func163, Tryz.ntmps163
          go_wp2_with fail
          go_quiet (fail)
          go_wp2_with fail
          refine (unnamed_any t _ _ (HV.out.below (below_drewN (below_new (Below.refl _ _) _) _))).mono ?_; rintro e w0 ⟨rfl, hb0⟩; rw [um.out]
          go_wp2_with fail
          go_ret
          exact ⟨rfl, (below_drewN (below_new (Below.refl _ _) _) _).trans (hb0.mono (by simp))⟩
      · have q0i : (((q : Nat) : Int) == 0) = false := by simp; omega
        have R : Hid (formT t = false) := Lib.hid (by
          rw [HF.out]
          unfold formW
          simp [hx, q0])
        clear HF
        clear hx n0 q0
        as_aux_lemma =>
        rw [R.out]
        clear R
        go_enter Tryz.func163, Tryz.ntmps163
        go_wp2_with fail
        go_quiet (fail)
        go_wp2_with fail
        go_ret
        exact ⟨rfl, below_drewN (below_new (Below.refl _ _) _) _⟩
    · have n0i : (((n : Nat) : Int) == 0) = false := by simp; omega
      have R : Hid (formT t = false) := Lib.hid (by
        rw [HF.out]
        unfold formW
        simp [hx, n0])
      clear HF
      clear hx n0
      as_aux_lemma =>
      rw [R.out]
      clear R
      go_enter Tryz.func163, Tryz.ntmps163
      go_wp2_with fail
      go_quiet (fail)
      go_wp2_with fail
      go_ret
      exact ⟨rfl, below_drewN (below_new (Below.refl _ _) _) _⟩
  have c3 : ¬ t.kind = 3 := hx
  have d3 : (t.kind == 3) = false := by simpa using hx
  clear hx
  by_cases hx : t.kind = 4
  · skip
    have b1 : (t.kind == 1) = false := by rw [hx]; rfl
    have b2 : (t.kind == 2) = false := by rw [hx]; rfl
    have b3 : (t.kind == 3) = false := by rw [hx]; rfl
    have b4 : (t.kind == 4) = true := by rw [hx]; rfl
    by_cases n1 : n = 1
    · have n1i : (((n : Nat) : Int) == 1) = true := by simp; omega
      by_cases q0 : q = 0
      · have q0i : (((q : Nat) : Int) == 0) = true := by simp; omega
        rcases hid_or (noMore t) with um | um
        · skip
          have R : Hid (formT t = false) := Lib.hid (by
            rw [HF.out]
            unfold formW
            simp [hx, um.out])
          clear HF
          clear hx q0 n1
          as_aux_lemma =>
          rw [R.out]
          clear R
          go_enter Tryz.func163, Tryz.ntmps163
          go_wp2_with fail
          go_quiet (fail)
          go_wp2_with fail
          refine (unnamed_any t _ _ (HV.out.below (below_drewN (below_new (Below.refl _ _) _) _))).mono ?_; rintro e w0 ⟨rfl, hb0⟩; rw [um.out]
          go_wp2_with fail
          go_ret
          exact ⟨rfl, (below_drewN (below_new (Below.refl _ _) _) _).trans (hb0.mono (by simp))⟩
        · skip
          have R : Hid (formT t = true) := Lib.hid (by
            rw [HF.out]
            unfold formW
            simp [hx, n1, q0, um.out])
          clear HF
          clear hx q0 n1
          as_aux_lemma =>
          rw [R.out]
          clear R
          go_enter Tryz.func163, Tryz.ntmps163
          go_wp2_with fail
          go_quiet (fail)
          go_wp2_with fail
          refine (unnamed_any t _ _ (HV.out.below (below_drewN (below_new (Below.refl _ _) _) _))).mono ?_; rintro e w0 ⟨rfl, hb0⟩; rw [um.out]
          go_wp2_with fail
          go_ret
          exact ⟨rfl, (below_drewN (below_new (Below.refl _ _) _) _).trans (hb0.mono (by simp))⟩
      · have q0i : (((q : Nat) : Int) == 0) = false := by simp; omega
        have R : Hid (formT t = false) := Lib.hid (by
          rw [HF.out]
          unfold formW
          simp [hx, q0])
        clear HF
        clear hx q0 n1
        as_aux_lemma =>
        rw [R.out]
        clear R
        go_enter Tryz.func163, Tryz.ntmps163
        go_wp2_with fail
        go_quiet (fail)
        go_wp2_with fail
        go_ret
        exact ⟨rfl, below_drewN (below_new (Below.refl _ _) _) _⟩
    · have n1i : (((n : Nat) : Int) == 1) = false := by simp; omega
      have R : Hid (formT t = false) := Lib.hid (by
        rw [HF.out]
        unfold formW
        simp [hx, n1])
      clear HF
      clear hx n1
      as_aux_lemma =>
      rw [R.out]
      clear R
      go_enter Tryz.func163, Tryz.ntmps163
      go_wp2_with fail
      go_quiet (fail)
      go_wp2_with fail
      go_ret
      exact ⟨rfl, below_drewN (below_new (Below.refl _ _) _) _⟩
  have c4 : ¬ t.kind = 4 := hx
  have d4 : (t.kind == 4) = false := by simpa using hx
  clear hx
  by_cases hx : t.kind = 5
  · skip
    have b1 : (t.kind == 1) = false := by rw [hx]; rfl
    have b2 : (t.kind == 2) = false := by rw [hx]; rfl
    have b3 : (t.kind == 3) = false := by rw [hx]; rfl
    have b4 : (t.kind == 4) = false := by rw [hx]; rfl
    have b5 : (t.kind == 5) = true := by rw [hx]; rfl
    by_cases l20 : n ≤ 20
    · have l20i : ((n : Nat) : Int) ≤ 20 := by omega
      by_cases qn : q = n
      · have qni : (((q : Nat) : Int) == ((n : Nat) : Int)) = true := by simp; omega
        rcases hid_or (risingB smallB t.names) with rs | rs
        · skip
          have R : Hid (formT t = false) := Lib.hid (by
            rw [HF.out]
            unfold formW
            simp [hx, rs.out])
          clear HF
          clear hx qn
          as_aux_lemma =>
          rw [R.out]
          clear R
          go_enter Tryz.func163, Tryz.ntmps163
          go_wp2_with fail
          go_quiet (fail)
          go_wp2_with fail
          refine (rising_small An cn _ t.names _ HQ.out hzn (HNM.out.below (below_drewN (below_new (Below.refl _ _) _) _))).mono ?_; rintro e w0 ⟨rfl, rfl⟩; rw [rs.out]
          go_wp2_with fail
          go_ret
          exact ⟨rfl, below_drewN (below_new (Below.refl _ _) _) _⟩
        · skip
          rcases hid_or (noMore t) with um | um
          · skip
            have R : Hid (formT t = false) := Lib.hid (by
              rw [HF.out]
              unfold formW
              simp [hx, um.out])
            clear HF
            clear hx qn
            as_aux_lemma =>
            rw [R.out]
            clear R
            go_enter Tryz.func163, Tryz.ntmps163
            go_wp2_with fail
            go_quiet (fail)
            go_wp2_with fail
            refine (rising_small An cn _ t.names _ HQ.out hzn (HNM.out.below (below_drewN (below_new (Below.refl _ _) _) _))).mono ?_; rintro e w0 ⟨rfl, rfl⟩; rw [rs.out]
            go_wp2_with fail
            refine (unnamed_any t _ _ (HV.out.below (below_drewN (below_new (Below.refl _ _) _) _))).mono ?_; rintro e w1 ⟨rfl, hb1⟩; rw [um.out]
            go_wp2_with fail
            go_ret
            exact ⟨rfl, (below_drewN (below_new (Below.refl _ _) _) _).trans (hb1.mono (by simp))⟩
          · skip
            have R : Hid (formT t = true) := Lib.hid (by
              rw [HF.out]
              unfold formW
              simp [hx, l20, qn, rs.out, um.out])
            clear HF
            clear hx qn
            as_aux_lemma =>
            rw [R.out]
            clear R
            go_enter Tryz.func163, Tryz.ntmps163
            go_wp2_with fail
            go_quiet (fail)
            go_wp2_with fail
            refine (rising_small An cn _ t.names _ HQ.out hzn (HNM.out.below (below_drewN (below_new (Below.refl _ _) _) _))).mono ?_; rintro e w0 ⟨rfl, rfl⟩; rw [rs.out]
            go_wp2_with fail
            refine (unnamed_any t _ _ (HV.out.below (below_drewN (below_new (Below.refl _ _) _) _))).mono ?_; rintro e w1 ⟨rfl, hb1⟩; rw [um.out]
            go_wp2_with fail
            go_ret
            exact ⟨rfl, (below_drewN (below_new (Below.refl _ _) _) _).trans (hb1.mono (by simp))⟩
      · have qni : (((q : Nat) : Int) == ((n : Nat) : Int)) = false := by simp; omega
        have R : Hid (formT t = false) := Lib.hid (by
          rw [HF.out]
          unfold formW
          simp [hx, qn])
        clear HF
        clear hx qn
        as_aux_lemma =>
        rw [R.out]
        clear R
        go_enter Tryz.func163, Tryz.ntmps163
        go_wp2_with fail
        go_quiet (fail)
        go_wp2_with fail
        go_ret
        exact ⟨rfl, below_drewN (below_new (Below.refl _ _) _) _⟩
    · have l20i : ¬ (((n : Nat) : Int) ≤ 20) := by omega
      have R : Hid (formT t = false) := Lib.hid (by
        rw [HF.out]
        unfold formW
        simp [hx, l20])
      clear HF
      clear hx
      as_aux_lemma =>
      rw [R.out]
      clear R
      go_enter Tryz.func163, Tryz.ntmps163
      go_wp2_with fail
      go_quiet (fail)
      go_wp2_with fail
      go_ret
      exact ⟨rfl, below_drewN (below_new (Below.refl _ _) _) _⟩
  have c5 : ¬ t.kind = 5 := hx
  have d5 : (t.kind == 5) = false := by simpa using hx
  clear hx
  by_cases hx : t.kind = 6
  · skip
    have b1 : (t.kind == 1) = false := by rw [hx]; rfl
    have b2 : (t.kind == 2) = false := by rw [hx]; rfl
    have b3 : (t.kind == 3) = false := by rw [hx]; rfl
    have b4 : (t.kind == 4) = false := by rw [hx]; rfl
    have b5 : (t.kind == 5) = false := by rw [hx]; rfl
    have b6 : (t.kind == 6) = true := by rw [hx]; rfl
    by_cases l1 : 1 ≤ n
    · have l1i : (1 : Int) ≤ ((n : Nat) : Int) := by omega
      by_cases l20 : n ≤ 20
      · have l20i : ((n : Nat) : Int) ≤ 20 := by omega
        by_cases qn : q = n
        · have qni : (((q : Nat) : Int) == ((n : Nat) : Int)) = true := by simp; omega
          rcases hid_or (risingB greatB t.names) with rs | rs
          · skip
            have R : Hid (formT t = false) := Lib.hid (by
              rw [HF.out]
              unfold formW
              simp [hx, rs.out])
            clear HF
            clear hx qn
            as_aux_lemma =>
            rw [R.out]
            clear R
            go_enter Tryz.func163, Tryz.ntmps163
            go_wp2_with fail
            go_quiet (fail)
            go_wp2_with fail
            refine (rising_great An cn _ t.names _ HQ.out hzn (HNM.out.below (below_drewN (below_new (Below.refl _ _) _) _))).mono ?_; rintro e w0 ⟨rfl, rfl⟩; rw [rs.out]
            go_wp2_with fail
            go_ret
            exact ⟨rfl, below_drewN (below_new (Below.refl _ _) _) _⟩
          · skip
            rcases hid_or (noMore t) with um | um
            · skip
              have R : Hid (formT t = false) := Lib.hid (by
                rw [HF.out]
                unfold formW
                simp [hx, um.out])
              clear HF
              clear hx qn
              as_aux_lemma =>
              rw [R.out]
              clear R
              go_enter Tryz.func163, Tryz.ntmps163
              go_wp2_with fail
              go_quiet (fail)
              go_wp2_with fail
              refine (rising_great An cn _ t.names _ HQ.out hzn (HNM.out.below (below_drewN (below_new (Below.refl _ _) _) _))).mono ?_; rintro e w0 ⟨rfl, rfl⟩; rw [rs.out]
              go_wp2_with fail
              refine (unnamed_any t _ _ (HV.out.below (below_drewN (below_new (Below.refl _ _) _) _))).mono ?_; rintro e w1 ⟨rfl, hb1⟩; rw [um.out]
              go_wp2_with fail
              go_ret
              exact ⟨rfl, (below_drewN (below_new (Below.refl _ _) _) _).trans (hb1.mono (by simp))⟩
            · skip
              have R : Hid (formT t = true) := Lib.hid (by
                rw [HF.out]
                unfold formW
                simp [hx, l1, l20, qn, rs.out, um.out])
              clear HF
              clear hx qn
              as_aux_lemma =>
              rw [R.out]
              clear R
              go_enter Tryz.func163, Tryz.ntmps163
              go_wp2_with fail
              go_quiet (fail)
              go_wp2_with fail
              refine (rising_great An cn _ t.names _ HQ.out hzn (HNM.out.below (below_drewN (below_new (Below.refl _ _) _) _))).mono ?_; rintro e w0 ⟨rfl, rfl⟩; rw [rs.out]
              go_wp2_with fail
              refine (unnamed_any t _ _ (HV.out.below (below_drewN (below_new (Below.refl _ _) _) _))).mono ?_; rintro e w1 ⟨rfl, hb1⟩; rw [um.out]
              go_wp2_with fail
              go_ret
              exact ⟨rfl, (below_drewN (below_new (Below.refl _ _) _) _).trans (hb1.mono (by simp))⟩
        · have qni : (((q : Nat) : Int) == ((n : Nat) : Int)) = false := by simp; omega
          have R : Hid (formT t = false) := Lib.hid (by
            rw [HF.out]
            unfold formW
            simp [hx, qn])
          clear HF
          clear hx qn
          as_aux_lemma =>
          rw [R.out]
          clear R
          go_enter Tryz.func163, Tryz.ntmps163
          go_wp2_with fail
          go_quiet (fail)
          go_wp2_with fail
          go_ret
          exact ⟨rfl, below_drewN (below_new (Below.refl _ _) _) _⟩
      · have l20i : ¬ (((n : Nat) : Int) ≤ 20) := by omega
        have R : Hid (formT t = false) := Lib.hid (by
          rw [HF.out]
          unfold formW
          simp [hx, l20])
        clear HF
        clear hx
        as_aux_lemma =>
        rw [R.out]
        clear R
        go_enter Tryz.func163, Tryz.ntmps163
        go_wp2_with fail
        go_quiet (fail)
        go_wp2_with fail
        go_ret
        exact ⟨rfl, below_drewN (below_new (Below.refl _ _) _) _⟩
    · have l1i : ¬ ((1 : Int) ≤ ((n : Nat) : Int)) := by omega
      have R : Hid (formT t = false) := Lib.hid (by
        rw [HF.out]
        unfold formW
        simp [hx, l1])
      clear HF
      clear hx
      as_aux_lemma =>
      rw [R.out]
      clear R
      go_enter Tryz.func163, Tryz.ntmps163
      go_wp2_with fail
      go_quiet (fail)
      go_wp2_with fail
      go_ret
      exact ⟨rfl, below_drewN (below_new (Below.refl _ _) _) _⟩
  have c6 : ¬ t.kind = 6 := hx
  have d6 : (t.kind == 6) = false := by simpa using hx
  clear hx
  by_cases hx : t.kind = 7
  · skip
    have b1 : (t.kind == 1) = false := by rw [hx]; rfl
    have b2 : (t.kind == 2) = false := by rw [hx]; rfl
    have b3 : (t.kind == 3) = false := by rw [hx]; rfl
    have b4 : (t.kind == 4) = false := by rw [hx]; rfl
    have b5 : (t.kind == 5) = false := by rw [hx]; rfl
    have b6 : (t.kind == 6) = false := by rw [hx]; rfl
    have b7 : (t.kind == 7) = true := by rw [hx]; rfl
    by_cases l1 : 1 ≤ n
    · have l1i : (1 : Int) ≤ ((n : Nat) : Int) := by omega
      by_cases l20 : n ≤ 20
      · have l20i : ((n : Nat) : Int) ≤ 20 := by omega
        by_cases q0 : q = 0
        · have q0i : (((q : Nat) : Int) == 0) = true := by simp; omega
          rcases hid_or (noMore t) with um | um
          · skip
            have R : Hid (formT t = false) := Lib.hid (by
              rw [HF.out]
              unfold formW
              simp [hx, um.out])
            clear HF
            clear hx q0
            as_aux_lemma =>
            rw [R.out]
            clear R
            go_enter Tryz.func163, Tryz.ntmps163
            go_wp2_with fail
            go_quiet (fail)
            go_wp2_with fail
            refine (unnamed_any t _ _ (HV.out.below (below_drewN (below_new (Below.refl _ _) _) _))).mono ?_; rintro e w0 ⟨rfl, hb0⟩; rw [um.out]
            go_wp2_with fail
            go_ret
            exact ⟨rfl, (below_drewN (below_new (Below.refl _ _) _) _).trans (hb0.mono (by simp))⟩
          · skip
            have R : Hid (formT t = true) := Lib.hid (by
              rw [HF.out]
              unfold formW
              simp [hx, l1, l20, q0, um.out])
            clear HF
            clear hx q0
            as_aux_lemma =>
            rw [R.out]
            clear R
            go_enter Tryz.func163, Tryz.ntmps163
            go_wp2_with fail
            go_quiet (fail)
            go_wp2_with fail
            refine (unnamed_any t _ _ (HV.out.below (below_drewN (below_new (Below.refl _ _) _) _))).mono ?_; rintro e w0 ⟨rfl, hb0⟩; rw [um.out]
            go_wp2_with fail
            go_ret
            exact ⟨rfl, (below_drewN (below_new (Below.refl _ _) _) _).trans (hb0.mono (by simp))⟩
        · have q0i : (((q : Nat) : Int) == 0) = false := by simp; omega
          have R : Hid (formT t = false) := Lib.hid (by
            rw [HF.out]
            unfold formW
            simp [hx, q0])
          clear HF
          clear hx q0
          as_aux_lemma =>
          rw [R.out]
          clear R
          go_enter Tryz.func163, Tryz.ntmps163
          go_wp2_with fail
          go_quiet (fail)
          go_wp2_with fail
          go_ret
          exact ⟨rfl, below_drewN (below_new (Below.refl _ _) _) _⟩
      · have l20i : ¬ (((n : Nat) : Int) ≤ 20) := by omega
        have R : Hid (formT t = false) := Lib.hid (by
          rw [HF.out]
          unfold formW
          simp [hx, l20])
        clear HF
        clear hx
        as_aux_lemma =>
        rw [R.out]
        clear R
        go_enter Tryz.func163, Tryz.ntmps163
        go_wp2_with fail
        go_quiet (fail)
        go_wp2_with fail
        go_ret
        exact ⟨rfl, below_drewN (below_new (Below.refl _ _) _) _⟩
    · have l1i : ¬ ((1 : Int) ≤ ((n : Nat) : Int)) := by omega
      have R : Hid (formT t = false) := Lib.hid (by
        rw [HF.out]
        unfold formW
        simp [hx, l1])
      clear HF
      clear hx
      as_aux_lemma =>
      rw [R.out]
      clear R
      go_enter Tryz.func163, Tryz.ntmps163
      go_wp2_with fail
      go_quiet (fail)
      go_wp2_with fail
      go_ret
      exact ⟨rfl, below_drewN (below_new (Below.refl _ _) _) _⟩
  have c7 : ¬ t.kind = 7 := hx
  have d7 : (t.kind == 7) = false := by simpa using hx
  clear hx
  by_cases hx : t.kind = 8
  · skip
    have b1 : (t.kind == 1) = false := by rw [hx]; rfl
    have b2 : (t.kind == 2) = false := by rw [hx]; rfl
    have b3 : (t.kind == 3) = false := by rw [hx]; rfl
    have b4 : (t.kind == 4) = false := by rw [hx]; rfl
    have b5 : (t.kind == 5) = false := by rw [hx]; rfl
    have b6 : (t.kind == 6) = false := by rw [hx]; rfl
    have b7 : (t.kind == 7) = false := by rw [hx]; rfl
    have b8 : (t.kind == 8) = true := by rw [hx]; rfl
    by_cases n0 : n = 0
    · have n0i : (((n : Nat) : Int) == 0) = true := by simp; omega
      by_cases q0 : q = 0
      · have q0i : (((q : Nat) : Int) == 0) = true := by simp; omega
        rcases hid_or (localOk t) with lo | lo
        · skip
          have R : Hid (formT t = false) := Lib.hid (by
            rw [HF.out]
            unfold formW
            simp [hx, lo.out])
          clear HF
          clear hx n0 q0
          as_aux_lemma =>
          rw [R.out]
          clear R
          go_enter Tryz.func163, Tryz.ntmps163
          go_wp2_with fail
          go_quiet (fail)
          go_wp2_with fail
          refine (mayLocal_any t _ _ (HV.out.below (below_drewN (below_new (Below.refl _ _) _) _))).mono ?_; rintro e w0 ⟨rfl, hb0⟩; rw [lo.out]
          go_wp2_with fail
          go_ret
          exact ⟨rfl, (below_drewN (below_new (Below.refl _ _) _) _).trans (hb0.mono (by simp))⟩
        · skip
          have R : Hid (formT t = true) := Lib.hid (by
            rw [HF.out]
            unfold formW
            simp [hx, n0, q0, lo.out])
          clear HF
          clear hx n0 q0
          as_aux_lemma =>
          rw [R.out]
          clear R
          go_enter Tryz.func163, Tryz.ntmps163
          go_wp2_with fail
          go_quiet (fail)
          go_wp2_with fail
          refine (mayLocal_any t _ _ (HV.out.below (below_drewN (below_new (Below.refl _ _) _) _))).mono ?_; rintro e w0 ⟨rfl, hb0⟩; rw [lo.out]
          go_wp2_with fail
          go_ret
          exact ⟨rfl, (below_drewN (below_new (Below.refl _ _) _) _).trans (hb0.mono (by simp))⟩
      · have q0i : (((q : Nat) : Int) == 0) = false := by simp; omega
        have R : Hid (formT t = false) := Lib.hid (by
          rw [HF.out]
          unfold formW
          simp [hx, q0])
        clear HF
        clear hx n0 q0
        as_aux_lemma =>
        rw [R.out]
        clear R
        go_enter Tryz.func163, Tryz.ntmps163
        go_wp2_with fail
        go_quiet (fail)
        go_wp2_with fail
        go_ret
        exact ⟨rfl, below_drewN (below_new (Below.refl _ _) _) _⟩
    · have n0i : (((n : Nat) : Int) == 0) = false := by simp; omega
      have R : Hid (formT t = false) := Lib.hid (by
        rw [HF.out]
        unfold formW
        simp [hx, n0])
      clear HF
      clear hx n0
      as_aux_lemma =>
      rw [R.out]
      clear R
      go_enter Tryz.func163, Tryz.ntmps163
      go_wp2_with fail
      go_quiet (fail)
      go_wp2_with fail
      go_ret
      exact ⟨rfl, below_drewN (below_new (Below.refl _ _) _) _⟩
  have c8 : ¬ t.kind = 8 := hx
  have d8 : (t.kind == 8) = false := by simpa using hx
  clear hx
  by_cases hx : t.kind = 9
  · skip
    have b1 : (t.kind == 1) = false := by rw [hx]; rfl
    have b2 : (t.kind == 2) = false := by rw [hx]; rfl
    have b3 : (t.kind == 3) = false := by rw [hx]; rfl
    have b4 : (t.kind == 4) = false := by rw [hx]; rfl
    have b5 : (t.kind == 5) = false := by rw [hx]; rfl
    have b6 : (t.kind == 6) = false := by rw [hx]; rfl
    have b7 : (t.kind == 7) = false := by rw [hx]; rfl
    have b8 : (t.kind == 8) = false := by rw [hx]; rfl
    have b9 : (t.kind == 9) = true := by rw [hx]; rfl
    by_cases n0 : n = 0
    · have n0i : (((n : Nat) : Int) == 0) = true := by simp; omega
      by_cases q0 : q = 0
      · have q0i : (((q : Nat) : Int) == 0) = true := by simp; omega
        rcases hid_or (openOk t) with lo | lo
        · skip
          have R : Hid (formT t = false) := Lib.hid (by
            rw [HF.out]
            unfold formW
            simp [hx, lo.out])
          clear HF
          clear hx n0 q0
          as_aux_lemma =>
          rw [R.out]
          clear R
          go_enter Tryz.func163, Tryz.ntmps163
          go_wp2_with fail
          go_quiet (fail)
          go_wp2_with fail
          refine (mayOpen_any t _ _ (HV.out.below (below_drewN (below_new (Below.refl _ _) _) _))).mono ?_; rintro e w0 ⟨rfl, hb0⟩; rw [lo.out]
          go_wp2_with fail
          go_ret
          exact ⟨rfl, (below_drewN (below_new (Below.refl _ _) _) _).trans (hb0.mono (by simp))⟩
        · skip
          have R : Hid (formT t = true) := Lib.hid (by
            rw [HF.out]
            unfold formW
            simp [hx, n0, q0, lo.out])
          clear HF
          clear hx n0 q0
          as_aux_lemma =>
          rw [R.out]
          clear R
          go_enter Tryz.func163, Tryz.ntmps163
          go_wp2_with fail
          go_quiet (fail)
          go_wp2_with fail
          refine (mayOpen_any t _ _ (HV.out.below (below_drewN (below_new (Below.refl _ _) _) _))).mono ?_; rintro e w0 ⟨rfl, hb0⟩; rw [lo.out]
          go_wp2_with fail
          go_ret
          exact ⟨rfl, (below_drewN (below_new (Below.refl _ _) _) _).trans (hb0.mono (by simp))⟩
      · have q0i : (((q : Nat) : Int) == 0) = false := by simp; omega
        have R : Hid (formT t = false) := Lib.hid (by
          rw [HF.out]
          unfold formW
          simp [hx, q0])
        clear HF
        clear hx n0 q0
        as_aux_lemma =>
        rw [R.out]
        clear R
        go_enter Tryz.func163, Tryz.ntmps163
        go_wp2_with fail
        go_quiet (fail)
        go_wp2_with fail
        go_ret
        exact ⟨rfl, below_drewN (below_new (Below.refl _ _) _) _⟩
    · have n0i : (((n : Nat) : Int) == 0) = false := by simp; omega
      have R : Hid (formT t = false) := Lib.hid (by
        rw [HF.out]
        unfold formW
        simp [hx, n0])
      clear HF
      clear hx n0
      as_aux_lemma =>
      rw [R.out]
      clear R
      go_enter Tryz.func163, Tryz.ntmps163
      go_wp2_with fail
      go_quiet (fail)
      go_wp2_with fail
      go_ret
      exact ⟨rfl, below_drewN (below_new (Below.refl _ _) _) _⟩
  have c9 : ¬ t.kind = 9 := hx
  have d9 : (t.kind == 9) = false := by simpa using hx
  clear hx
  have R : Hid (formT t = false) := Lib.hid (by
    rw [HF.out]
    unfold formW
    simp [c1, c2, c3, c4, c5, c6, c7, c8, c9])
  clear HF
  as_aux_lemma =>
  rw [R.out]
  clear R
  go_enter Tryz.func163, Tryz.ntmps163
  go_wp2_with fail
  go_quiet (fail)
  go_wp2_with fail
  go_ret
  exact ⟨rfl, below_drewN (below_new (Below.refl _ _) _) _⟩

end Go.Proofs.YtpfoclpgcbjjoaaGreatDoor

/- The walk of package kind's count, and of Size, May. -/
namespace Go.Proofs.YtpfoclpgcbjjoaaGreatDoor
open Go.RowKit
open M

/-- The counter's block. -/
def Cnt (B : Nat) (c : Int) (w : World) : Prop := w.heap[B]? = some (.cells #[.int .i64 c] 3 (0, 0))
theorem Cnt.lt {B : Nat} {c : Int} {w : World} (h : Cnt B c w) : B < w.heap.size := (Array.getElem?_eq_some_iff.1 h).1
theorem Cnt.cell {B : Nat} {c : Int} {w : World} (h : Cnt B c w) : w.cell? ⟨B, 0, none⟩ = some (.int .i64 c) := Lib.cell_of_heap h 0
theorem Cnt.frozen {B : Nat} {c : Int} {w : World} (h : Cnt B c w) : w.frozen? ⟨B, 0, none⟩ = false := Lib.frozen_of_heap h 0
theorem Cnt.alloc {B : Nat} {c : Int} {w : World} (h : Cnt B c w) (o : Obj) : Cnt B c (w.alloc o) := (Lib.alloc_old w o B h.lt).trans h
theorem Cnt.put {B : Nat} {c : Int} {w : World} (h : Cnt B c w) (d : Int) : Cnt B d (w.setCell ⟨B, 0, none⟩ (.int .i64 d)) := one_setCell h
theorem Cnt.below {B : Nat} {c : Int} {w w' : World} (h : Cnt B c w) (hb : Below w.heap.size w w') : Cnt B c w' := (hb.block B h.lt).trans h

set_option maxRecDepth 100000 in
set_option maxHeartbeats 4000000 in
theorem count_any (N : Nat) : ∀ (t : Ty), many t ≤ N → ∀ (d c : Int), 0 ≤ d → d ≤ 33 → 0 ≤ c → c ≤ 500 → ∀ (B : Nat) (v : Value) (W w : World), TyV W v t → Below W.heap.size W w → W.heap.size ≤ B → Cnt B c w →
    Calls Tryz.prog 138 #[v, .int .i64 d, .pointer (some ⟨B, 0, none⟩)] w fun e w' => e = .returned (.bool (countT t d c).1) ∧ Cnt B (countT t d c).2 w' ∧ Below B w w' := by
  induction N with
  | zero => intro t h; have := many_pos t; omega
  | succ N ih =>
    intro t hN d c hd0 hd hc0 hc B v W w hv hW hWB hC
    have HV := Lib.hid hv
    obtain ⟨l, rfl, hT⟩ := hv
    obtain ⟨An, cn, As, cs, rfl, -, -, -, hzn, hz, -, hS⟩ := hT.parts
    have HS := Lib.hid hS
    clear hT hS
    have HE := Lib.hid (countT_eq t d c)
    generalize hn : t.subs.length = n at hz HV
    have HN := Lib.hid hn
    clear hn
    have hBl := hC.lt
    obtain ⟨w2, hw2⟩ : ∃ w2, w2 = (w.setCell ⟨B, 0, none⟩ (.int .i64 (c + 1))).alloc (.cells #[.int .i64 t.kind, .string t.pkg, .int .i64 t.major, .string t.mod, .string t.name, .slice An t.names.length cn, .slice As n cs] 42) := ⟨_, rfl⟩
    have hss : (w.setCell ⟨B, 0, none⟩ (.int .i64 (c + 1))).heap.size = w.heap.size := by simp
    have HC2 : Hid (Cnt B (c + 1) w2) := Lib.hid (by rw [hw2]; exact (hC.put (c + 1)).alloc _)
    have HBW : Hid (Below B w w2) := Lib.hid (by rw [hw2]; exact ((Below.refl B w).setCell (p := ⟨B, 0, none⟩) (Nat.le_refl _) _).alloc (by omega) _)
    have HWW0 := Lib.hid hW
    have HWW : Hid (Below W.heap.size W w2) := Lib.hid (hW.trans (HBW.out.mono hWB))
    have hsz : w.heap.size < w2.heap.size := by rw [hw2]; simp
    have HX : Hid (∀ i v, (#[.int .i64 t.kind, .string t.pkg, .int .i64 t.major, .string t.mod, .string t.name, .slice An t.names.length cn, .slice As n cs] : Array Value)[i]? = some v → w2.cell? ⟨w.heap.size, i, none⟩ = some v) := Lib.hid (fun i v hv => by
      rw [Lib.cell_of_heap (cs := #[.int .i64 t.kind, .string t.pkg, .int .i64 t.major, .string t.mod, .string t.name, .slice An t.names.length cn, .slice As n cs]) (T := 42) (fr := (0, 0))]
      · exact hv
      · rw [hw2, ← hss]
        exact heap_alloc_new _ _)
    have c0 := hC.cell
    have f0 := hC.frozen
    have HW2 := Lib.hid hw2
    clear hW hC hw2 hss
    go_enter Tryz.func138, Tryz.ntmps138
    go_upto_region 2 with fail
    rw [← HW2.out]
    clear c0 f0 HW2
    have c2 := HC2.out.cell
    have x0 := HX.out 0 _ rfl
    have x1 := HX.out 1 _ rfl
    have x2 := HX.out 2 _ rfl
    have x3 := HX.out 3 _ rfl
    have x4 := HX.out 4 _ rfl
    have x5 := HX.out 5 _ rfl
    have x6 := HX.out 6 _ rfl
    by_cases g1 : 500 < c + 1
    · have R : Hid (countT t d c = (false, c + 1)) := Lib.hid (by rw [HE.out, if_pos (.inl g1)])
      go_wp2_with fail
      go_ret
      exact ⟨ret_bool (by rw [R.out]), by rw [R.out]; exact HC2.out, HBW.out⟩
    by_cases g2 : 32 < d
    · have R : Hid (countT t d c = (false, c + 1)) := Lib.hid (by rw [HE.out, if_pos (.inr (.inl g2))])
      go_wp2_with fail
      go_ret
      exact ⟨ret_bool (by rw [R.out]), by rw [R.out]; exact HC2.out, HBW.out⟩
    rcases hid_or (formT t) with hf | hf
    · have R : Hid (countT t d c = (false, c + 1)) := Lib.hid (by rw [HE.out, if_pos (.inr (.inr hf.out))])
      go_wp2_with fail
      refine (formed_any t _ _ (HV.out.below HWW.out)).mono ?_; rintro e w3 ⟨rfl, hb3⟩; rw [hf.out]
      go_wp2_with fail
      go_ret
      exact ⟨ret_bool (by rw [R.out]), by rw [R.out]; exact HC2.out.below hb3, HBW.out.trans (hb3.mono (by omega))⟩
    have R : Hid (countT t d c = countL t.subs (d + 1) (c + 1)) := Lib.hid (by
      rw [HE.out, if_neg]
      rintro (x | x | x)
      · exact g1 x
      · exact g2 x
      · rw [hf.out] at x; cases x)
    go_wp2_with fail
    refine (formed_any t _ _ (HV.out.below HWW.out)).mono ?_; rintro e w3 ⟨rfl, hb3⟩; rw [hf.out]
    have y6 : w3.cell? ⟨w.heap.size, 6, none⟩ = some (.slice As n cs) := (hb3.cell (p := ⟨w.heap.size, 6, none⟩) hsz).trans x6
    have HC3 := Lib.hid (HC2.out.below hb3)
    have HB3 := Lib.hid (HBW.out.trans (hb3.mono (by omega)))
    have hd1 : d ≤ 32 := by omega
    have hc1 : c + 1 ≤ 500 := by omega
    clear x0 x1 x2 x3 x4 x5 x6 c2 hb3 HX HC2 HBW g1 g2 HE hsz
    go_wp2_with fail
    go_loopw [30] (fun i wr => ∃ (k : Nat) (ck : Int), k ≤ n ∧ i = .int .i64 k ∧ 0 ≤ ck ∧ ck ≤ 500 ∧ Hid (countT t d c = countL (t.subs.drop k) (d + 1) ck) ∧ Hid (Cnt B ck wr) ∧ Hid (Below B w wr)) (fun i _ => n - (intOf i).toNat)
    case atStart => exact ⟨0, c + 1, by omega, rfl, by omega, by omega, R, HC3, HB3⟩
    case round =>
      obtain ⟨k, ck, hk, rfl, hk0, hk5, HK, HCK, HBK⟩ := hrel
      obtain ⟨wo, rfl⟩ : ∃ wo : World, wo = wr := ⟨_, rfl⟩
      have HWK : Hid (Below W.heap.size W wo) := Lib.hid (HWW0.out.trans (HBK.out.mono hWB))
      by_cases hlt : k < n
      · obtain ⟨s, hs⟩ : ∃ s, t.subs[k]? = some s := ⟨_, List.getElem?_eq_getElem (by rw [HN.out]; exact hlt)⟩
        obtain ⟨g, o, v0, v1, v2, v3, v4, v5, v6, rfl, hg, e0, e1, e2, e3, e4, e5, e6, hs7⟩ := HS.out k s hs
        obtain ⟨Am, cm, At, ct, rfl, rfl, rfl, rfl, rfl, rfl, rfl⟩ := hs7.seven
        have tr : ∀ q v, W.cell? ⟨g, q, none⟩ = some v → wo.cell? ⟨g, q, none⟩ = some v := fun q v hv => (HWK.out.cell (p := ⟨g, _, none⟩) hg).trans hv
        have h0 := tr _ _ e0
        have h1 := tr _ _ e1
        have h2 := tr _ _ e2
        have h3 := tr _ _ e3
        have h4 := tr _ _ e4
        have h5 := tr _ _ e5
        have h6 := tr _ _ e6
        have hgo : g < wo.heap.size := Nat.lt_of_lt_of_le hg HWK.out.size
        clear e0 e1 e2 e3 e4 e5 e6 tr hg
        have hsm := sub_many hs
        have HKS := Lib.hid (countL_at hs (d + 1) ck)
        have HBs := Lib.hid (countT_is s (d + 1) ck hk5)
        have IH := Lib.hid (fun w' (hw' : Below W.heap.size W w') (hc' : Cnt B ck w') => ih s (by omega) (d + 1) ck (by omega) (by omega) hk0 hk5 B (.agg #[.int .i64 s.kind, .string s.pkg, .int .i64 s.major, .string s.mod, .string s.name, .slice Am s.names.length cm, .slice At s.subs.length ct]) W w' ⟨_, rfl, hs7⟩ hw' hWB hc')
        clear hs7 hs hsm
        have bds := HBs.out
        by_cases hg1 : (countT s (d + 1) ck).1 = true
        · have R2 : Hid (countT t d c = countL (t.subs.drop (k + 1)) (d + 1) (countT s (d + 1) ck).2) := Lib.hid (by rw [HK.out, HKS.out, if_pos hg1])
          have q2 : (countT s (d + 1) ck).2 ≤ 500 := by rw [bds.2.1 hg1]; exact (bds.1.1 hg1).2.1
          have q1 : 0 ≤ (countT s (d + 1) ck).2 := by have := bds.2.2.1; omega
          have HG := Lib.hid hg1
          clear bds hg1
          go_wp2_with fail
          refine (IH.out _ (HWK.out.alloc HWK.out.size _) (HCK.out.alloc _)).mono ?_; rintro e w5 ⟨rfl, hc5, hb5⟩; rw [HG.out]
          have HB5 : Hid (Below B w w5) := Lib.hid ((HBK.out.alloc (by have := HBK.out.size; omega) _).trans hb5)
          have HC5 := Lib.hid hc5
          clear h0 h1 h2 h3 h4 h5 h6 hc5 hb5 HBs IH
          go_wp2_with fail
          go_roundw
          case rel => exact ⟨k + 1, (countT s (d + 1) ck).2, by omega, by go_num, q1, q2, R2, HC5, HB5⟩
          case measure => simp [intOf]; omega
        · have R2 : Hid (countT t d c = (false, (countT s (d + 1) ck).2)) := Lib.hid (by rw [HK.out, HKS.out, if_neg hg1])
          have HG : Hid ((countT s (d + 1) ck).1 = false) := Lib.hid (by simpa using hg1)
          clear bds hg1
          go_wp2_with fail
          refine (IH.out _ (HWK.out.alloc HWK.out.size _) (HCK.out.alloc _)).mono ?_; rintro e w5 ⟨rfl, hc5, hb5⟩; rw [HG.out]
          have HB5 : Hid (Below B w w5) := Lib.hid ((HBK.out.alloc (by have := HBK.out.size; omega) _).trans hb5)
          have HC5 := Lib.hid hc5
          clear h0 h1 h2 h3 h4 h5 h6 hc5 hb5 HBs IH
          go_wp2_with fail
          go_ret
          exact ⟨ret_bool (by rw [R2.out]), by rw [R2.out]; exact HC5.out, HB5.out⟩
      · have R2 : Hid (countT t d c = (true, ck)) := Lib.hid (by
          rw [HK.out, List.drop_eq_nil_of_le (by rw [HN.out]; omega)]; rfl)
        go_wp2_with fail
        go_ret
        exact ⟨ret_bool (by rw [R2.out]), by rw [R2.out]; exact HCK.out, HBK.out⟩

set_option maxRecDepth 100000 in
set_option maxHeartbeats 4000000 in
theorem size_any (t : Ty) (v : Value) (w : World) (hv : TyV w v t) :
    Calls Tryz.prog 99 #[v] w fun e w' => e = .returned (.int .i64 (sizeT t : Nat)) ∧ Below w.heap.size w w' := by
  have HV := Lib.hid hv
  obtain ⟨l, rfl, hT⟩ := hv
  obtain ⟨An, cn, As, cs, rfl, -, -, -, hzn, hz, -, hS⟩ := hT.parts
  clear hT hS
  have HM := Lib.hid (may_iff t)
  have HI := Lib.hid (countT_is t 1 0 (by omega))
  obtain ⟨wb, hwb⟩ : ∃ wb, wb = w.alloc (.cells #[.int .i64 t.kind, .string t.pkg, .int .i64 t.major, .string t.mod, .string t.name, .slice An t.names.length cn, .slice As t.subs.length cs] 42) := ⟨_, rfl⟩
  have hbs : wb.heap.size = w.heap.size + 1 := by rw [hwb]; simp
  have HBB : Hid (Below w.heap.size w wb) := Lib.hid (by rw [hwb]; exact below_new (Below.refl _ _) _)
  have HC : Hid (Cnt (w.heap.size + 1) 0 (wb.alloc (.cells #[.int .i64 0] 3))) := Lib.hid (by rw [← hbs]; exact heap_alloc_new wb _)
  have hle : wb.heap.size ≤ w.heap.size + 1 := by omega
  have HWB := Lib.hid hwb
  rcases hid_or (countT t 1 0).1 with hg | hg
  · have R : Hid (sizeT t = 0) := Lib.hid (by unfold sizeT; rw [if_neg]; rw [HM.out, hg.out]; simp)
    rw [R.out]
    go_enter Tryz.func99, Tryz.ntmps99
    go_wp2_with fail
    rw [← HWB.out]
    refine (count_any _ t (Nat.le_refl _) 1 0 (by omega) (by omega) (by omega) (by omega) (w.heap.size + 1) _ wb _ (HV.out.below HBB.out) (below_new (Below.refl _ _) _) hle HC.out).mono ?_; rintro e w5 ⟨rfl, hc5, hb5⟩; rw [hg.out]
    have HB5 : Hid (Below w.heap.size w w5) := Lib.hid ((below_new HBB.out _).trans (hb5.mono (by omega)))
    clear hb5 hc5
    go_wp2_with fail
    go_ret
    exact ⟨rfl, HB5.out⟩
  · have R : Hid ((sizeT t : Int) = (countT t 1 0).2) := Lib.hid (by
      unfold sizeT; rw [if_pos (HM.out.2 hg.out), HI.out.2.1 hg.out]; omega)
    rw [R.out]
    go_enter Tryz.func99, Tryz.ntmps99
    go_wp2_with fail
    rw [← HWB.out]
    refine (count_any _ t (Nat.le_refl _) 1 0 (by omega) (by omega) (by omega) (by omega) (w.heap.size + 1) _ wb _ (HV.out.below HBB.out) (below_new (Below.refl _ _) _) hle HC.out).mono ?_; rintro e w5 ⟨rfl, hc5, hb5⟩; rw [hg.out]
    have HB5 : Hid (Below w.heap.size w w5) := Lib.hid ((below_new HBB.out _).trans (hb5.mono (by omega)))
    have c5 := hc5.cell
    clear hb5 hc5
    go_wp2_with fail
    go_ret
    exact ⟨rfl, HB5.out⟩

set_option maxRecDepth 100000 in
set_option maxHeartbeats 1000000 in
theorem mayK_any (t : Ty) (v : Value) (w : World) (hv : TyV w v t) :
    Calls Tryz.prog 58 #[v] w fun e w' => e = .returned (.bool (mayT t)) ∧ Below w.heap.size w w' := by
  have HV := Lib.hid hv
  obtain ⟨l, rfl, hT⟩ := hv
  obtain ⟨An, cn, As, cs, rfl, -, -, -, hzn, hz, -, hS⟩ := hT.parts
  clear hT hS
  have HP := Lib.hid (size_pos t)
  go_enter Tryz.func58, Tryz.ntmps58
  go_wp2_with fail
  refine (size_any t _ _ (HV.out.below (below_new (Below.refl _ _) _))).mono ?_; rintro e w2 ⟨rfl, hb2⟩
  go_wp2_with fail
  go_ret
  exact ⟨ret_bool HP.out.symm, (below_new (Below.refl _ _) _).trans (hb2.mono (by simp))⟩

end Go.Proofs.YtpfoclpgcbjjoaaGreatDoor

/- The code's May of declarations. -/
namespace Go.Proofs.YtpfoclpgcbjjoaaGreatDoor
open Go.RowKit
open Go.Sort
open M

theorem zero_iff (t : Ty) : sameT t noT = true ↔ t.kind = 0 ∧ t.pkg = ⟨#[]⟩ ∧ t.major = 0 ∧ t.mod = ⟨#[]⟩ ∧ t.name = ⟨#[]⟩ ∧ t.names.length = 0 ∧ t.subs.length = 0 := by
  rw [sameT_iff]
  obtain ⟨k, p, m, d, n, ns, ss⟩ := t
  simp only [noT, Ty.mk.injEq, Ty.kind, Ty.pkg, Ty.major, Ty.mod, Ty.name, Ty.names, Ty.subs, List.length_eq_zero_iff]
theorem ba_ne {s : ByteArray} (h : s ≠ ⟨#[]⟩) : (s.toList == ([] : List UInt8)) = false := by
  rw [beq_eq_false_iff_ne, ne_eq, Lib.toList_data]
  intro e
  exact h (by
    obtain ⟨a⟩ := s
    have : a = #[] := by cases a; simp at e; rw [e]
    rw [this])
theorem ba_nil : ((⟨#[]⟩ : ByteArray).toList == ([] : List UInt8)) = true := by rw [Lib.toList_data]; rfl

set_option maxRecDepth 100000 in
set_option maxHeartbeats 8000000 in
theorem cuntyped_any (k : Int) (s : ByteArray) (t : Ty) (An As : Option Addr) (cA cS : Nat) (w : World) (h5 : t.names.length ≤ 9223372036854775807) (h6 : t.subs.length ≤ 9223372036854775807) :
    Calls Tryz.prog 83 #[.agg #[.int .i64 k, .string s, .int .i64 t.kind, .string t.pkg, .int .i64 t.major, .string t.mod, .string t.name, .slice An t.names.length cA, .slice As t.subs.length cS]] w fun e w' => e = .returned (.bool (sameT t noT)) ∧ Below w.heap.size w w' := by
  obtain ⟨w0, hw0⟩ : ∃ w0, w0 = w.alloc (.cells #[.int .i64 k, .string s, .int .i64 t.kind, .string t.pkg, .int .i64 t.major, .string t.mod, .string t.name, .slice An t.names.length cA, .slice As t.subs.length cS] 52) := ⟨_, rfl⟩
  have B0 : Below w.heap.size w w0 := by rw [hw0]; exact below_new (Below.refl _ _) _
  have O0 : w0.heap[w.heap.size]? = some (.cells #[.int .i64 k, .string s, .int .i64 t.kind, .string t.pkg, .int .i64 t.major, .string t.mod, .string t.name, .slice An t.names.length cA, .slice As t.subs.length cS] 52 (0, 0)) := by rw [hw0]; exact heap_alloc_new w _
  obtain ⟨w1, hw1⟩ : ∃ w1, w1 = w0.alloc (.cells #[.int .i64 t.kind, .string t.pkg, .int .i64 t.major, .string t.mod, .string t.name, .slice An t.names.length cA, .slice As t.subs.length cS] 42) := ⟨_, rfl⟩
  have B1 : Below w0.heap.size w0 w1 := by rw [hw1]; exact below_new (Below.refl _ _) _
  have O1 : w1.heap[w0.heap.size]? = some (.cells #[.int .i64 t.kind, .string t.pkg, .int .i64 t.major, .string t.mod, .string t.name, .slice An t.names.length cA, .slice As t.subs.length cS] 42 (0, 0)) := by rw [hw1]; exact heap_alloc_new w0 _
  have s0 : w0.heap.size = w.heap.size + 1 := by rw [hw0]; simp
  have FIN := Lib.hid (below_over B0 B1)
  obtain ⟨V, hV⟩ : ∃ V, sameT t noT = V := ⟨_, rfl⟩
  rw [hV]
  have HV := Lib.hid hV
  have y0 := Lib.cell_of_heap O0 0
  have y1 := Lib.cell_of_heap O0 1
  have y2 := Lib.cell_of_heap O0 2
  have y3 := Lib.cell_of_heap O0 3
  have y4 := Lib.cell_of_heap O0 4
  have y5 := Lib.cell_of_heap O0 5
  have y6 := Lib.cell_of_heap O0 6
  have y7 := Lib.cell_of_heap O0 7
  have y8 := Lib.cell_of_heap O0 8
  simp at y0 y1 y2 y3 y4 y5 y6 y7 y8
  have x0 := Lib.cell_of_heap O1 0
  have x1 := Lib.cell_of_heap O1 1
  have x2 := Lib.cell_of_heap O1 2
  have x3 := Lib.cell_of_heap O1 3
  have x4 := Lib.cell_of_heap O1 4
  have x5 := Lib.cell_of_heap O1 5
  have x6 := Lib.cell_of_heap O1 6
  simp at x0 x1 x2 x3 x4 x5 x6
  have HW0 := Lib.hid hw0
  have HW1 := Lib.hid hw1
  have HZ := Lib.hid (zero_iff t)
  have NO : Hid ((¬ (t.kind = 0 ∧ t.pkg = ⟨#[]⟩ ∧ t.major = 0 ∧ t.mod = ⟨#[]⟩ ∧ t.name = ⟨#[]⟩ ∧ t.names.length = 0 ∧ t.subs.length = 0)) → V = false) := Lib.hid (fun h => by
    rw [← HV.out, Bool.eq_false_iff]
    exact fun e => h ((zero_iff t).1 e))
  have YES : Hid ((t.kind = 0 ∧ t.pkg = ⟨#[]⟩ ∧ t.major = 0 ∧ t.mod = ⟨#[]⟩ ∧ t.name = ⟨#[]⟩ ∧ t.names.length = 0 ∧ t.subs.length = 0) → V = true) := Lib.hid (fun h => by
    rw [← HV.out]
    exact (zero_iff t).2 h)
  clear hV hw0 hw1 B0 B1 O0 O1 s0 HZ HV
  generalize t.kind = tk at *
  generalize t.pkg = tp at *
  generalize t.major = tm at *
  generalize t.mod = td at *
  generalize t.name = tn at *
  generalize t.names.length = n5 at *
  generalize t.subs.length = n6 at *
  go_enter Tryz.func83, Tryz.ntmps83
  go_upto_region 1 with fail
  rw [← HW0.out]
  go_upto_region 2 with fail
  rw [← HW1.out]
  clear HW0 HW1 y0 y1 y2 y3 y4 y5 y6 y7 y8
  by_cases htk : tk = 0
  rotate_left
  · have RV : V = false := NO.out (fun e => htk e.1)
    subst RV
    have e1 : (tk == 0) = false := by simpa using htk
    clear htk NO YES
    go_wp2_with fail
    go_ret
    exact ⟨rfl, FIN.out⟩
  subst htk
  by_cases htp : tp = ⟨#[]⟩
  rotate_left
  · have RV : V = false := NO.out (fun e => htp e.2.1)
    subst RV
    have e1 := ba_ne htp
    clear htp NO YES
    go_wp2_with fail
    go_ret
    exact ⟨rfl, FIN.out⟩
  subst htp
  by_cases htm : tm = 0
  rotate_left
  · have RV : V = false := NO.out (fun e => htm e.2.2.1)
    subst RV
    have e1 : (tm == 0) = false := by simpa using htm
    clear htm NO YES
    go_wp2_with fail
    go_ret
    exact ⟨rfl, FIN.out⟩
  subst htm
  by_cases htd : td = ⟨#[]⟩
  rotate_left
  · have RV : V = false := NO.out (fun e => htd e.2.2.2.1)
    subst RV
    have e1 := ba_ne htd
    clear htd NO YES
    go_wp2_with fail
    go_ret
    exact ⟨rfl, FIN.out⟩
  subst htd
  by_cases htn : tn = ⟨#[]⟩
  rotate_left
  · have RV : V = false := NO.out (fun e => htn e.2.2.2.2.1)
    subst RV
    have e1 := ba_ne htn
    clear htn NO YES
    go_wp2_with fail
    go_ret
    exact ⟨rfl, FIN.out⟩
  subst htn
  by_cases hn5 : n5 = 0
  rotate_left
  · have RV : V = false := NO.out (fun e => hn5 e.2.2.2.2.2.1)
    subst RV
    have e1 : ((n5 : Int) == 0) = false := by simp; omega
    clear hn5 NO YES
    go_wp2_with fail
    go_ret
    exact ⟨rfl, FIN.out⟩
  subst hn5
  by_cases hn6 : n6 = 0
  rotate_left
  · have RV : V = false := NO.out (fun e => hn6 e.2.2.2.2.2.2)
    subst RV
    have e1 : ((n6 : Int) == 0) = false := by simp; omega
    clear hn6 NO YES
    go_wp2_with fail
    go_ret
    exact ⟨rfl, FIN.out⟩
  subst hn6
  have RV : V = true := YES.out ⟨rfl, rfl, rfl, rfl, rfl, rfl, rfl⟩
  subst RV
  clear NO YES
  go_wp2_with fail
  go_ret
  exact ⟨rfl, FIN.out⟩

end Go.Proofs.YtpfoclpgcbjjoaaGreatDoor
