/-
  Plain mathematics for layer 1: two texts with two points between are parted there, where what is read on both sides are versions.
-/
import Derived.Test.YtihaggghmanamaaDoorSvN
namespace Go.Proofs.YtihaggghmanamaaDoor.M

/-- A text parted at its first two points. -/
def sp2 : List UInt8 → List UInt8 × List UInt8 × Bool
  | [] => ([], [], false)
  | c :: l => if ([46, 46] : List UInt8).isPrefixOf (c :: l) then ([], (c :: l).drop 2, true) else (c :: (sp2 l).1, (sp2 l).2.1, (sp2 l).2.2)

theorem cut_sp2 : ∀ (l : List UInt8), Lib.cut l [46, 46] = sp2 l
  | [] => rfl
  | c :: l => by
    have ih := cut_sp2 l
    have hge := Lib.index_ge l [46, 46]
    unfold Lib.cut at ih ⊢
    unfold sp2 Lib.index
    by_cases hc : ([46, 46] : List UInt8).isPrefixOf (c :: l) = true
    · rw [if_pos hc, if_pos hc, if_pos (by omega)]; simp
    · rw [if_neg hc, if_neg hc, ← ih]
      by_cases hi : Lib.index l [46, 46] = -1
      · simp [hi]
      · have h1 : (Lib.index l [46, 46] == -1) = false := by simpa using hi
        simp only [h1, Bool.false_eq_true, if_false]
        rw [if_pos (by omega), if_pos (by omega)]
        rw [show (Lib.index l [46, 46] + 1).toNat = (Lib.index l [46, 46]).toNat + 1 by omega]
        simp only [List.take_succ_cons, List.length_cons, List.length_nil]
        rw [show (Lib.index l [46, 46]).toNat + 1 + (0 + 1 + 1) = ((Lib.index l [46, 46]).toNat + (0 + 1 + 1)) + 1 by omega, List.drop_succ_cons]

/-- Behind each point stands something that is none. -/
def nd : List UInt8 → Bool
  | [] => true
  | c :: l => (c != 46 || match l with | [] => false | d :: _ => d != 46) && nd l

theorem sp2_hit : ∀ (p q : List UInt8), nd p = true → sp2 (p ++ 46 :: 46 :: q) = (p, q, true)
  | [], q, _ => by simp [sp2, List.isPrefixOf]
  | c :: p, q, h => by
    simp only [nd, Bool.and_eq_true] at h
    have ih := sp2_hit p q h.2
    have hn : ¬ ([46, 46] : List UInt8).isPrefixOf (c :: (p ++ 46 :: 46 :: q)) = true := by
      intro e
      by_cases hc : c = 46
      · subst hc
        cases p with
        | nil => simp at h
        | cons d t =>
          simp only [List.cons_append, List.isPrefixOf, Bool.and_eq_true, beq_iff_eq] at e
          have h1 := h.1
          simp at h1
          exact h1 e.2.1.symm
      · simp only [List.isPrefixOf, Bool.and_eq_true, beq_iff_eq] at e
        exact hc e.1.symm
    simp only [List.cons_append, sp2, if_neg hn, ih]

theorem sp2_cases : ∀ (l : List UInt8), (sp2 l).2.1 = [] ∧ (sp2 l).1 = l ∨ l = (sp2 l).1 ++ 46 :: 46 :: (sp2 l).2.1
  | [] => .inl ⟨rfl, rfl⟩
  | c :: l => by
    by_cases hc : ([46, 46] : List UInt8).isPrefixOf (c :: l) = true
    · right
      simp only [sp2, if_pos hc]
      cases l with
      | nil => simp [List.isPrefixOf] at hc
      | cons d t =>
        simp only [List.isPrefixOf, Bool.and_eq_true, beq_iff_eq] at hc
        simp [← hc.1, ← hc.2.1]
    · simp only [sp2, if_neg hc]
      rcases sp2_cases l with ⟨h1, h2⟩ | h
      · left; exact ⟨h1, by rw [h2]⟩
      · right; rw [List.cons_append, ← h]

theorem nd_app : ∀ (p q : List UInt8), (∀ c ∈ p, c ≠ 46) → nd q = true → nd (p ++ q) = true
  | [], _, _, hq => hq
  | c :: p, q, h, hq => by
    have hc : c ≠ 46 := h c (by simp)
    simp only [List.cons_append, nd, Bool.and_eq_true]
    exact ⟨by simp [hc], nd_app p q (fun d hd => h d (by simp [hd])) hq⟩
theorem nd_dot (u : Nat) (q : List UInt8) (hq : nd (Lib.decDigits u ++ q) = true) : nd (46 :: (Lib.decDigits u ++ q)) = true := by
  have hm := dd_dot u
  cases hd : Lib.decDigits u with
  | nil => exact absurd hd (dd_ne u)
  | cons d t =>
    rw [hd] at hq hm
    have : d ≠ 46 := hm d (by simp)
    simp only [List.cons_append] at hq ⊢
    simp only [nd, Bool.and_eq_true] at hq ⊢
    exact ⟨by simp [this], hq⟩
theorem nd_vt (a b c : Int) : nd (vt a b c) = true := by
  unfold vt
  refine nd_app _ _ (dd_dot _) (nd_dot _ _ (nd_app _ _ (dd_dot _) ?_))
  have := nd_dot c.toNat [] (by simpa using nd_app (Lib.decDigits c.toNat) [] (dd_dot _) rfl)
  simpa using this
theorem nd_not (p q : List UInt8) : nd (p ++ 46 :: 46 :: q) = false := by
  induction p with
  | nil => simp [nd]
  | cons c p ih => simp [nd, ih]
theorem nd_last (p : List UInt8) : nd (p ++ [46]) = false := by
  induction p with
  | nil => rfl
  | cons c p ih => simp [nd, ih]
theorem vt_head (a b c : Int) (t : List UInt8) : vt a b c ≠ 46 :: t := by
  intro e
  have hm := dd_dot a.toNat
  unfold vt at e
  cases hd : Lib.decDigits a.toNat with
  | nil => exact absurd hd (dd_ne _)
  | cons d u =>
    rw [hd] at e hm
    simp only [List.cons_append, List.cons.injEq] at e
    exact hm d (by simp) e.1

/-- Two texts with two points between, parted: the same two, if the first is a version's .. -/
theorem cut_vt (a b c : Int) (q : List UInt8) : (Lib.cut (vt a b c ++ 46 :: 46 :: q) [46, 46]).1 = vt a b c ∧ (Lib.cut (vt a b c ++ 46 :: 46 :: q) [46, 46]).2.1 = q := by
  rw [cut_sp2, sp2_hit _ _ (nd_vt a b c)]; exact ⟨rfl, rfl⟩
/-- .. or if both that come out are versions'. -/
theorem cut_back (p q : List UInt8) (a b c x y z : Int) (h1 : (Lib.cut (p ++ 46 :: 46 :: q) [46, 46]).1 = vt a b c) (h2 : (Lib.cut (p ++ 46 :: 46 :: q) [46, 46]).2.1 = vt x y z) : p = vt a b c ∧ q = vt x y z := by
  rw [cut_sp2] at h1 h2
  rcases sp2_cases (p ++ 46 :: 46 :: q) with ⟨h, _⟩ | h
  · rw [h2] at h
    exfalso
    have := nd_vt x y z
    rw [vt] at h
    simp at h
  · rw [h1, h2] at h
    rcases List.append_eq_append_iff.1 h with ⟨t, e1, e2⟩ | ⟨t, e1, e2⟩
    · -- vt a b c = p ++ t
      match t, e1, e2 with
      | [], e1, e2 =>
        rw [List.append_nil] at e1
        simp only [List.nil_append, List.cons.injEq, true_and] at e2
        exact ⟨e1.symm, e2⟩
      | [d], e1, e2 =>
        simp only [List.cons_append, List.nil_append, List.cons.injEq] at e2
        have := nd_vt a b c
        rw [e1, ← e2.1, nd_last] at this
        cases this
      | d :: f :: t, e1, e2 =>
        simp only [List.cons_append, List.cons.injEq] at e2
        have := nd_vt a b c
        rw [e1, ← e2.1, ← e2.2.1, nd_not] at this
        cases this
    · match t, e1, e2 with
      | [], e1, e2 =>
        rw [List.append_nil] at e1
        simp only [List.nil_append, List.cons.injEq, true_and] at e2
        exact ⟨e1, e2.symm⟩
      | [d], e1, e2 =>
        simp only [List.cons_append, List.nil_append, List.cons.injEq] at e2
        exact absurd e2.2.2 (vt_head _ _ _ _)
      | d :: f :: t, e1, e2 =>
        simp only [List.cons_append, List.cons.injEq] at e2
        have := nd_vt x y z
        rw [e2.2.2, nd_not] at this
        cases this

end Go.Proofs.YtihaggghmanamaaDoor.M
