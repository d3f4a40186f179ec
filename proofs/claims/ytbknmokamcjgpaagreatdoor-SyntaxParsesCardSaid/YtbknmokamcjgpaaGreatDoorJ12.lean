/-
  Plain: a type ends behind where it began; one step of a function's parameters, of its end. What stands while the reference reads a function.
-/
import Derived.Test.YtbknmokamcjgpaaGreatDoorJ11
namespace Go.Proofs.YtbknmokamcjgpaaGreatDoor
open Go.RowKit
open Go.Sort
open M

/-- It ends further on. -/
def Res.fw {α : Type} : Res α → Nat → Prop
  | .ok _ j _, i => i < j
  | .err _ _, _ => True
theorem fw_mono {α : Type} {r : Res α} {i j : Nat} (h : i ≤ j) (hr : Res.fw r j) : Res.fw r i := by
  cases r with
  | ok x a b => exact Nat.lt_of_le_of_lt h hr
  | err a b => trivial
theorem fw_ite {α : Type} {p : Prop} [Decidable p] {x y : Res α} {i : Nat} (hx : Res.fw x i) (hy : Res.fw y i) : Res.fw (if p then x else y) i := by split; exact hx; exact hy
theorem fw_err {α : Type} (b j i : Nat) : Res.fw (Res.err b j : Res α) i := trivial
theorem fw_all (S : Toks) : ∀ f, (∀ d i c, Res.fw (pT S f d i c) i) ∧ (∀ k z d i c ns ss, Res.fw (pParts S k z f d i c ns ss) i) ∧ (∀ d i c ss, Res.fw (pSubs S f d i c ss) i) ∧ (∀ d i c ss, Res.fw (pEnd S f d i c ss) i) := by
  intro f
  induction f with
  | zero => exact ⟨fun d i c => by unfold pT; trivial, fun k z d i c ns ss => by unfold pParts; trivial, fun d i c ss => by unfold pSubs; trivial, fun d i c ss => by unfold pEnd; trivial⟩
  | succ f ih =>
    obtain ⟨iT, iP, iS, iE⟩ := ih
    refine ⟨fun d i c => ?_, fun k z d i c ns ss => ?_, fun d i c ss => ?_, fun d i c ss => ?_⟩
    · unfold pT
      refine fw_ite (fw_err _ _ _) (fw_ite (fw_err _ _ _) (fw_ite ?_ (fw_ite (fw_ite (fw_ite (fw_err _ _ _) ?_) (fw_ite ?_ ?_)) (fw_ite (fw_ite ?_ ?_) (fw_ite ?_ (fw_ite ?_ (fw_ite ?_ ?_)))))))
      · unfold pLocal
        exact fw_ite (fw_err _ _ _) (fw_ite (fw_err _ _ _) (show i < i + 1 + 2 by omega))
      · have h1 := iT (d + 1) (i + 2) (c + 1)
        cases e : pT S f (d + 1) (i + 2) (c + 1) with
        | err b j => trivial
        | ok s j c' =>
          rw [e] at h1
          have h1' : i + 2 < j := h1
          exact fw_ite (fw_err _ _ _) (show i < j + 1 by omega)
      · show i < i + 1; omega
      · show i < i + 1; omega
      · show i < i + 2; omega
      · exact fw_mono (by omega) (iP _ _ _ (i + 1) _ _ _)
      · exact fw_mono (by omega) (iP _ _ _ (i + 1) _ _ _)
      · unfold pOpen
        exact fw_ite (fw_err _ _ _) (fw_ite (fw_err _ _ _) (fw_ite (fw_err _ _ _) (fw_ite (fw_err _ _ _) (fw_ite (fw_err _ _ _) (show i < i + 1 + 5 by omega)))))
      · exact fw_mono (by omega) (iE _ (i + 2) _ _)
      · exact fw_mono (by omega) (iS _ (i + 1) _ _)
    · unfold pParts
      refine fw_ite (fw_err _ _ _) (fw_ite (fw_err _ _ _) (fw_ite (fw_err _ _ _) (fw_ite (fw_err _ _ _) ?_)))
      have h1 := iT (d + 1) (i + 2) c
      cases e : pT S f (d + 1) (i + 2) c with
      | err b j => trivial
      | ok s j c' =>
        rw [e] at h1
        have h1' : i + 2 < j := h1
        exact fw_ite (show i < j + 1 by omega) (fw_ite (fw_err _ _ _) (fw_mono (by omega) (iP _ _ _ (j + 1) _ _ _)))
    · unfold pSubs
      refine fw_ite (fw_err _ _ _) ?_
      have h1 := iT (d + 1) i c
      cases e : pT S f (d + 1) i c with
      | err b j => trivial
      | ok s j c' =>
        rw [e] at h1
        have h1' : i < j := h1
        exact fw_ite (fw_mono (by omega) (iE _ (j + 1) _ _)) (fw_ite (fw_err _ _ _) (fw_mono (by omega) (iS _ (j + 1) _ _)))
    · unfold pEnd
      refine fw_ite (fw_err _ _ _) (fw_ite (fw_err _ _ _) ?_)
      have h1 := iT (d + 1) (i + 1) c
      cases e : pT S f (d + 1) (i + 1) c with
      | err b j => trivial
      | ok s j c' =>
        rw [e] at h1
        have h1' : i + 1 < j := h1
        show i < j; omega
theorem pT_begins {S : Toks} {f d i c j c' : Nat} {t : Ty} (h : pT S f d i c = .ok t j c') : S.begins i = true := by
  cases f with
  | zero => unfold pT at h; cases h
  | succ f =>
    rw [pT_eq] at h
    by_cases hb : S.begins i = false
    · rw [if_pos hb] at h; cases h
    · simpa using hb
theorem one_ok {S : Toks} {f d i c n j c' : Nat} {t : Ty} (h : oneR S f d i c n = .ok t j c') : n < 20 ∧ i < j ∧ i < S.n := by
  unfold oneR at h
  split at h
  · cases h
  · rename_i hn
    have hb := pT_begins h
    have hf := (fw_all S f).1 (d + 1) i c
    rw [h] at hf
    refine ⟨?_, hf, begins_lt hb⟩
    rcases Nat.lt_or_ge n 20 with h1 | h1
    · exact h1
    · exact absurd ⟨hb, h1⟩ hn

theorem subs_eq (S : Toks) (f d i c : Nat) (ss : List Ty) : pSubs S (f + 1) d i c ss = match oneR S f d i c ss.length with
    | .err b j => .err b j
    | .ok s j c' => if S.sign j [41] = true then pEnd S f d (j + 1) c' (ss ++ [s]) else if S.sign j [44] = false then .err 2 j else pSubs S f d (j + 1) c' (ss ++ [s]) := by
  conv => lhs; unfold pSubs
  unfold oneR
  split <;> rfl
theorem end_eq (S : Toks) (f d i c : Nat) (ss : List Ty) : pEnd S (f + 1) d i c ss = if S.sign i [45, 62] = false then .err 2 i else match oneR S f d (i + 1) c ss.length with
    | .err b j => .err b j
    | .ok s j c' => .ok (.mk 7 ⟨#[]⟩ 0 ⟨#[]⟩ ⟨#[]⟩ [] (ss ++ [s])) j c' := by
  conv => lhs; unfold pEnd
  unfold oneR
  split
  · rfl
  · split <;> rfl
theorem subs_more {S : Toks} {f d i c b2 i2 c2 : Nat} {ss : List Ty} {t : Ty} (h : oneR S f d i c ss.length = badR b2 i2 (.ok t i2 c2)) (hq : (decide (b2 = 0) && S.sign i2 [41]) = false) :
    pSubs S (f + 1) d i c ss = badR (psB b2 (S.sign i2 [44])) (psI b2 (S.sign i2 [44]) i2) (pSubs S f d (psI b2 (S.sign i2 [44]) i2) c2 (ss ++ [t])) := by
  rw [sign_res (S.sign i2 [44]) b2 i2 (fun j => pSubs S f d j c2 (ss ++ [t])), subs_eq, h]
  by_cases hb : b2 = 0
  · subst hb
    rw [badR_0, badR_0]
    have h4 : ¬ S.sign i2 [41] = true := by simpa using hq
    show (if _ then _ else _) = _
    rw [if_neg h4]
  · rw [badR_ne _ _ hb, badR_ne _ _ hb]
theorem subs_last {S : Toks} {f d i c b2 i2 c2 : Nat} {ss : List Ty} {t : Ty} (h : oneR S f d i c ss.length = badR b2 i2 (.ok t i2 c2)) (hq : (decide (b2 = 0) && S.sign i2 [41]) = true) :
    b2 = 0 ∧ pSubs S (f + 1) d i c ss = pEnd S f d (i2 + 1) c2 (ss ++ [t]) := by
  simp at hq
  obtain ⟨rfl, h4⟩ := hq
  refine ⟨rfl, ?_⟩
  rw [subs_eq, h, badR_0]
  show (if _ then _ else _) = _
  rw [if_pos h4]
theorem end_res {S : Toks} {f d i c b b2 i2 c2 : Nat} {ss : List Ty} {t : Ty} (h : badR (psB b (S.sign i [45, 62])) (psI b (S.sign i [45, 62]) i) (oneR S f d (psI b (S.sign i [45, 62]) i) c ss.length) = badR b2 i2 (.ok t i2 c2)) :
    badR b i (pEnd S (f + 1) d i c ss) = badR b2 i2 (.ok (.mk 7 ⟨#[]⟩ 0 ⟨#[]⟩ ⟨#[]⟩ [] (ss ++ [t])) i2 c2) := by
  rw [sign_res (S.sign i [45, 62]) b i (fun j => oneR S f d j c ss.length)] at h
  rw [end_eq]
  by_cases hb : b = 0
  · subst hb
    rw [badR_0] at h ⊢
    by_cases hq : S.sign i [45, 62] = false
    · rw [if_pos hq] at h ⊢
      by_cases hb2 : b2 = 0
      · subst hb2; cases h
      · rw [badR_ne _ _ hb2] at h ⊢; exact h
    · rw [if_neg hq] at h ⊢
      rw [h]
      by_cases hb2 : b2 = 0
      · subst hb2; rfl
      · rw [badR_ne _ _ hb2, badR_ne _ _ hb2]
  · rw [badR_ne _ _ hb] at h ⊢
    by_cases hb2 : b2 = 0
    · subst hb2; cases h
    · rw [badR_ne _ _ hb2] at h ⊢; exact h

/-- How far the reader still may go. -/
def rdM (r n : Nat) (w : World) : Nat :=
  match w.heap[r]? with
  | some (Obj.cells cs _ _) => (match cs[1]?, cs[3]? with
    | some (Value.int _ i), some (Value.int _ b) => if b = 0 then n + 3 - i.toNat + 1 else 0
    | _, _ => 0)
  | _ => 0
theorem Rd.m {r : Nat} {A : Option Addr} {n cn i c b : Nat} {w : World} (h : Rd r A n cn i c b w) : rdM r n w = if b = 0 then n + 3 - i + 1 else 0 := by
  unfold rdM
  unfold Rd at h
  rw [h]
  simp

/-- While the reference reads a function. -/
structure FnI (w : World) (r : Nat) (A : Option Addr) (S : Toks) (cn d f : Nat) (F : Res Ty) (ss : List Ty) (n6 : Nat) (A6 : Option Addr) (c6 i c b g : Nat) (mb : Bool) (wr : World) : Prop where
  kp : Kp r w wr
  box : wr.heap[w.heap.size + 1]? = some (.cells #[.int .i64 7, .string ⟨#[]⟩, .int .i64 0, .string ⟨#[]⟩, .string ⟨#[]⟩, .slice none 0 0, .slice A6 n6 c6] 26 (0, 0))
  res : wr.heap[w.heap.size]? = some (.cells #[.int .i64 0, .string ⟨#[]⟩, .int .i64 0, .string ⟨#[]⟩, .string ⟨#[]⟩, .slice none 0 0, .slice none 0 0] 26 (0, 0))
  rows : GrR (w.heap.size + 2) [] 0 ss n6 (.slice none 0 0) (.slice A6 n6 c6) wr
  rd : Rd r A S.n cn i c b wr
  fin : F = badR b i (if mb = true then pSubs S g d i c ss else pEnd S g d i c ss)
  fuel : g ≤ f
  some : n6 ≤ 21
  most : b = 0 → n6 ≤ 20
  cnt : c ≤ 500

end Go.Proofs.YtbknmokamcjgpaaGreatDoor
