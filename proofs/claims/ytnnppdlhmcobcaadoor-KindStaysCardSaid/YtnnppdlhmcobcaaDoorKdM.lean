/-
  Plain mathematics for layer 4: how package kind counts a type's types.
-/
import Derived.Test.YtnnppdlhmcobcaaDoorKdF
namespace Go.Proofs.YtnnppdlhmcobcaaDoor
open Go.RowKit
open M

mutual
def countT : Ty → Int → Int → Bool × Int
  | .mk k p m d n ns ss, depth, c =>
    if 500 < c + 1 ∨ 32 < depth ∨ formT (.mk k p m d n ns ss) = false then (false, c + 1) else countL ss (depth + 1) (c + 1)
def countL : List Ty → Int → Int → Bool × Int
  | [], _, c => (true, c)
  | t :: r, depth, c => if (countT t depth c).1 = true then countL r depth (countT t depth c).2 else (false, (countT t depth c).2)
end
theorem countT_eq (t : Ty) (d c : Int) : countT t d c = if 500 < c + 1 ∨ 32 < d ∨ formT t = false then (false, c + 1) else countL t.subs (d + 1) (c + 1) := by cases t; rfl
theorem countL_at {l : List Ty} {k : Nat} {s : Ty} (h : l[k]? = some s) (d c : Int) : countL (l.drop k) d c = if (countT s d c).1 = true then countL (l.drop (k + 1)) d (countT s d c).2 else (false, (countT s d c).2) := by
  have hk := (List.getElem?_eq_some_iff.1 h).1
  have e : l.drop k = s :: l.drop (k + 1) := by
    rw [List.drop_eq_getElem_cons hk]
    congr 1
    exact (List.getElem?_eq_some_iff.1 h).2
  rw [e]; rfl

mutual
theorem countT_is : ∀ (t : Ty) (d c : Int), c ≤ 500 → ((countT t d c).1 = true ↔ allOk t = true ∧ c + many t ≤ 500 ∧ d + deep t ≤ 33) ∧ ((countT t d c).1 = true → (countT t d c).2 = c + many t) ∧ c ≤ (countT t d c).2 ∧ (countT t d c).2 ≤ 501
  | .mk k p m d' n ns ss, d, c, hc => by
    have hm : many (.mk k p m d' n ns ss) = 1 + manyL ss := rfl
    have hd : deep (.mk k p m d' n ns ss) = deepL ss + 1 := rfl
    have ha : allOk (.mk k p m d' n ns ss) = (ownOk (.mk k p m d' n ns ss) && allOkL ss) := rfl
    have he : countT (.mk k p m d' n ns ss) d c = if 500 < c + 1 ∨ 32 < d ∨ formT (.mk k p m d' n ns ss) = false then (false, c + 1) else countL ss (d + 1) (c + 1) := rfl
    rw [he, hm, hd, ha, ← formT_own]
    by_cases h : 500 < c + 1 ∨ 32 < d ∨ formT (.mk k p m d' n ns ss) = false
    · rw [if_pos h]
      refine ⟨⟨fun h => by simp at h, fun ⟨h1, h2, h3⟩ => ?_⟩, fun h => by simp at h, by simp; omega, by simp; omega⟩
      exfalso
      rcases h with h | h | h
      · omega
      · omega
      · rw [h] at h1; simp at h1
    · rw [if_neg h]
      have hf : formT (.mk k p m d' n ns ss) = true := by
        rcases hid_or (formT (.mk k p m d' n ns ss)) with e | e
        · exact absurd (.inr (.inr e.out)) h
        · exact e.out
      have h1 : ¬ 500 < c + 1 := fun x => h (.inl x)
      have h2 : ¬ 32 < d := fun x => h (.inr (.inl x))
      obtain ⟨a, b, l, u⟩ := countL_is ss (d + 1) (c + 1) (by omega) (by omega)
      refine ⟨?_, fun x => by rw [b x]; omega, by omega, u⟩
      rw [a, hf]
      simp only [Bool.true_and]
      constructor
      · rintro ⟨x, y, z⟩; exact ⟨x, by omega, by omega⟩
      · rintro ⟨x, y, z⟩; exact ⟨x, by omega, by omega⟩
theorem countL_is : ∀ (l : List Ty) (d c : Int), c ≤ 500 → d ≤ 33 → ((countL l d c).1 = true ↔ allOkL l = true ∧ c + manyL l ≤ 500 ∧ d + deepL l ≤ 33) ∧ ((countL l d c).1 = true → (countL l d c).2 = c + manyL l) ∧ c ≤ (countL l d c).2 ∧ (countL l d c).2 ≤ 501
  | [], d, c, hc, hd => by
    have hm : manyL [] = 0 := rfl
    have h2 : deepL [] = 0 := rfl
    have ha : allOkL [] = true := rfl
    have he : countL [] d c = (true, c) := rfl
    rw [he, hm, h2, ha]
    exact ⟨⟨fun _ => ⟨rfl, by omega, by omega⟩, fun _ => rfl⟩, fun _ => by simp, by simp, by simp; omega⟩
  | t :: r, d, c, hc, hd => by
    have hm : manyL (t :: r) = many t + manyL r := rfl
    have h2 : deepL (t :: r) = max (deep t) (deepL r) := rfl
    have ha : allOkL (t :: r) = (allOk t && allOkL r) := rfl
    have he : countL (t :: r) d c = if (countT t d c).1 = true then countL r d (countT t d c).2 else (false, (countT t d c).2) := rfl
    obtain ⟨a, b, l, u⟩ := countT_is t d c hc
    rw [he, hm, h2, ha]
    by_cases h : (countT t d c).1 = true
    · rw [if_pos h]
      have e := b h
      obtain ⟨x, y, z⟩ := a.1 h
      obtain ⟨a2, b2, l2, u2⟩ := countL_is r d (countT t d c).2 (by omega) hd
      refine ⟨?_, fun x => by rw [b2 x]; omega, by omega, u2⟩
      rw [a2, x, e]
      simp only [Bool.true_and]
      constructor
      · rintro ⟨x', y', z'⟩; exact ⟨x', by omega, by omega⟩
      · rintro ⟨x', y', z'⟩; exact ⟨x', by omega, by omega⟩
    · rw [if_neg h]
      refine ⟨⟨fun h => by simp at h, fun ⟨x, y, z⟩ => ?_⟩, fun h => by simp at h, l, u⟩
      exfalso
      simp only [Bool.and_eq_true] at x
      exact h (a.2 ⟨x.1, by omega, by omega⟩)
end
/-- How many types there are, if it may be. -/
def sizeT (t : Ty) : Nat := if mayT t = true then many t else 0
theorem may_iff (t : Ty) : mayT t = true ↔ (countT t 1 0).1 = true := by
  rw [(countT_is t 1 0 (by omega)).1]
  unfold mayT
  simp only [Bool.and_eq_true, decide_eq_true_eq]
  constructor
  · rintro ⟨⟨a, b⟩, c⟩; exact ⟨a, by omega, by omega⟩
  · rintro ⟨a, b, c⟩; exact ⟨⟨a, by omega⟩, by omega⟩
theorem size_pos (t : Ty) : decide (0 < sizeT t) = mayT t := by
  have := many_pos t
  unfold sizeT
  rcases hid_or (mayT t) with h | h
  · rw [h.out]; rfl
  · rw [h.out]; simp; omega

end Go.Proofs.YtnnppdlhmcobcaaDoor
