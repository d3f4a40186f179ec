/-
  Several texts in one: The code's read, over what the others tell. · The walk of the reference's Type, over what it calls. · Plain: a type ends behind where it began; one step of a function's parameters, of its end. What stands while the reference reads a function. · The walk of the reference's function, over its Type. · The code's parameters: types that grow in new memory. · The code's function, over what read tells. · Plain: one step of what stands in a record, or a variant; a name put among names. Rows in which names, and subs, are set. · Plain: names with their types, each put among those ahead; a list sorted by names is the same, if no name is there twice. · The code's fields in memory: names with types, that grow in new memory; whether a name is among them. · The code's field: a name and its type. · The code's fields: names with types, one behind another. · Nothing of slices.SortFunc: this translation has none. · The code's sort of names with types. · The code's type of fields. · The code's record and variant; so its read, whatever begins. · The code's read, whatever begins.
-/
import Derived.Test.YtapjhmfbmkckaaaGreatDoorJ03
import Derived.Test.YtapjhmfbmkckaaaGreatDoorJ02
import Derived.LoopTactic
import Derived.Deep.AppendLies
import Derived.Deep.DeepCutAuto
import Derived.Deep.MidRow
import Derived.Shelf.SlSortCmp.InsertionK
import Derived.Sort.OwnSorted
/- The code's read, over what the others tell. -/
namespace Go.Proofs.YtapjhmfbmkckaaaGreatDoor
open Go.RowKit
open Go.Sort
open M

theorem read_no {S : Toks} {f d n i c b : Nat} {q : Bool} (hq : mustB b (begunK (kAt S b i) (tAt S b i) != 0) 2 = 0 → q = (decide ((d : Int) ≤ 32) && (decide (((c + 1 : Nat) : Int) ≤ 500) && decide ((n : Int) ≤ 20))))
    (h : mustB (mustB b (begunK (kAt S b i) (tAt S b i) != 0) 2) q 3 ≠ 0) (t : Ty) (j : Nat) : badR (mustB (mustB b (begunK (kAt S b i) (tAt S b i) != 0) 2) q 3) i (.ok t i j) = badR b i (readR S (f + 1) d n i c) := by
  by_cases hb : b = 0
  rotate_left
  · rw [mustB_bad _ _ hb, mustB_bad _ _ hb, badR_ne _ _ hb, badR_ne _ _ hb]
  subst hb
  rw [badR_ne _ _ h, badR_0]
  unfold readR
  by_cases hbg : S.begins i = true
  · have hi := begins_lt hbg
    have e1 : kAt S 0 i = S.K i := if_pos ⟨rfl, hi⟩
    have e2 : tAt S 0 i = S.T i := if_pos ⟨rfl, hi⟩
    have hk : (begunK (kAt S 0 i) (tAt S 0 i) != 0) = true := by
      rw [e1, e2]; rw [begins_iff S hi] at hbg; simpa using hbg
    rw [hk, mustB_yes] at hq h ⊢
    have hqf : q = false := by
      cases q with
      | true => rw [mustB_yes] at h; exact absurd rfl h
      | false => rfl
    subst hqf
    rw [mustB_no]
    have := hq rfl
    by_cases hn : 20 < n
    · rw [if_pos ⟨hbg, hn⟩]
    · rw [if_neg (fun x => hn x.2), pT_eq, if_neg (by rw [hbg]; decide), if_pos]
      have hn' : decide ((n : Int) ≤ 20) = true := by simp; omega
      rw [hn'] at this
      simp at this
      omega
  · have hbg' : S.begins i = false := by simpa using hbg
    rw [if_neg (fun x => hbg x.1), pT_eq, if_pos hbg']
    have hk : (begunK (kAt S 0 i) (tAt S 0 i) != 0) = false := by
      by_cases hi : i < S.n
      · have e1 : kAt S 0 i = S.K i := if_pos ⟨rfl, hi⟩
        have e2 : tAt S 0 i = S.T i := if_pos ⟨rfl, hi⟩
        rw [e1, e2]; rw [begins_iff S hi] at hbg'; simpa using hbg'
      · have e1 : kAt S 0 i = 0 := if_neg (fun x => hi x.2)
        have e2 : tAt S 0 i = ⟨#[]⟩ := if_neg (fun x => hi x.2)
        rw [e1, e2]; decide
    rw [hk, mustB_no, mustB_bad _ _ (by decide)]
theorem read_yes {S : Toks} {f d n i c b : Nat} {q : Bool} (hq : mustB b (begunK (kAt S b i) (tAt S b i) != 0) 2 = 0 → q = (decide ((d : Int) ≤ 32) && (decide (((c + 1 : Nat) : Int) ≤ 500) && decide ((n : Int) ≤ 20))))
    (h : mustB (mustB b (begunK (kAt S b i) (tAt S b i) != 0) 2) q 3 = 0) : b = 0 ∧ i < S.n ∧ S.begins i = true ∧ d ≤ 32 ∧ c + 1 ≤ 500 ∧ n ≤ 20 ∧ badR b i (readR S (f + 1) d n i c) = kindR S f d i c (begunK (kAt S b i) (tAt S b i)) := by
  by_cases hb : b = 0
  rotate_left
  · rw [mustB_bad _ _ hb, mustB_bad _ _ hb] at h; exact absurd h hb
  subst hb
  cases hk : (begunK (kAt S 0 i) (tAt S 0 i) != 0) with
  | false => rw [hk, mustB_no, mustB_bad _ _ (by decide)] at h; cases h
  | true =>
    rw [hk, mustB_yes] at hq h
    have hqt : q = true := by
      cases q with
      | true => rfl
      | false => cases h
    have hq' := hq rfl
    rw [hqt] at hq'
    have h3 : (d : Int) ≤ 32 ∧ ((c + 1 : Nat) : Int) ≤ 500 ∧ (n : Int) ≤ 20 := by simpa using hq'.symm
    have hi : i < S.n := by
      by_cases hi : i < S.n
      · exact hi
      · have e1 : kAt S 0 i = 0 := if_neg (fun x => hi x.2)
        have e2 : tAt S 0 i = ⟨#[]⟩ := if_neg (fun x => hi x.2)
        rw [e1, e2] at hk; exact absurd hk (by decide)
    have e1 : kAt S 0 i = S.K i := if_pos ⟨rfl, hi⟩
    have e2 : tAt S 0 i = S.T i := if_pos ⟨rfl, hi⟩
    have hbg : S.begins i = true := by rw [begins_iff S hi, ← e1, ← e2]; simpa using hk
    refine ⟨rfl, hi, hbg, by omega, by omega, by omega, ?_⟩
    rw [badR_0, e1, e2]
    unfold readR
    rw [if_neg (by omega), pT_eq, if_neg (by rw [hbg]; decide), if_neg (by omega), rest_kind S hi hbg]

theorem sign_of_kind {S : Toks} {i : Nat} {k : Int} {l : List UInt8} (hi : i < S.n) (hk : begunK (kAt S 0 i) (tAt S 0 i) = k) (hl : (k = 5 ∧ l = [123]) ∨ (k = 6 ∧ l = [91]) ∨ (k = 7 ∧ l = [40]) ∨ (k = 9 ∧ l = [60])) : S.sign i l = true := by
  have e1 : kAt S 0 i = S.K i := if_pos ⟨rfl, hi⟩
  have e2 : tAt S 0 i = S.T i := if_pos ⟨rfl, hi⟩
  rw [e1, e2] at hk
  have h8 : k ≠ 8 := by omega
  have h0 : k ≠ 0 := by omega
  have h4 : ¬ k ≤ 4 := by omega
  unfold begunK at hk
  split at hk
  · exact absurd hk.symm h8
  split at hk
  · rcases baseT_range (S.T i).data.toList with q | q | q | q | q <;> (rw [q] at hk; omega)
  split at hk
  · rename_i k4
    unfold Toks.sign
    unfold signK at hk
    have : (S.T i).data.toList = l := by
      rcases hl with ⟨rfl, rfl⟩ | ⟨rfl, rfl⟩ | ⟨rfl, rfl⟩ | ⟨rfl, rfl⟩
      all_goals (repeat' split at hk)
      all_goals (first | assumption | omega)
    simp [hi, k4, this]
  · omega

end Go.Proofs.YtapjhmfbmkckaaaGreatDoor

/- The walk of the reference's Type, over what it calls. -/
namespace Go.Proofs.YtapjhmfbmkckaaaGreatDoor
open Go.RowKit
open Go.Sort
open M

theorem tok0 : (⟨#[]⟩ : ByteArray).size ≤ 9223372036854775807 := by decide
end Go.Proofs.YtapjhmfbmkckaaaGreatDoor

/- Plain: a type ends behind where it began; one step of a function's parameters, of its end. What stands while the reference reads a function. -/
namespace Go.Proofs.YtapjhmfbmkckaaaGreatDoor
open Go.RowKit
open Go.Sort
open M

/-- It ends further on. -/
def Res.fw {α : Type} : Res α → Nat → Prop
  | .ok _ j _, i => i < j
  | .err _ _, _ => True
theorem fw_mono {α : Type} {r : Res α} {i j : Nat} (h : i ≤ j) (hr : Res.fw r j) : Res.fw r i := by
  cases r with
  | ok x a b => exact Nat.lt_of_le_of_lt h hr
  | err a b => trivial
theorem fw_ite {α : Type} {p : Prop} [Decidable p] {x y : Res α} {i : Nat} (hx : Res.fw x i) (hy : Res.fw y i) : Res.fw (if p then x else y) i := by split; exact hx; exact hy
theorem fw_err {α : Type} (b j i : Nat) : Res.fw (Res.err b j : Res α) i := trivial
theorem fw_all (S : Toks) : ∀ f, (∀ d i c, Res.fw (pT S f d i c) i) ∧ (∀ k z d i c ns ss, Res.fw (pParts S k z f d i c ns ss) i) ∧ (∀ d i c ss, Res.fw (pSubs S f d i c ss) i) ∧ (∀ d i c ss, Res.fw (pEnd S f d i c ss) i) := by
  intro f
  induction f with
  | zero => exact ⟨fun d i c => by unfold pT; trivial, fun k z d i c ns ss => by unfold pParts; trivial, fun d i c ss => by unfold pSubs; trivial, fun d i c ss => by unfold pEnd; trivial⟩
  | succ f ih =>
    obtain ⟨iT, iP, iS, iE⟩ := ih
    refine ⟨fun d i c => ?_, fun k z d i c ns ss => ?_, fun d i c ss => ?_, fun d i c ss => ?_⟩
    · unfold pT
      refine fw_ite (fw_err _ _ _) (fw_ite (fw_err _ _ _) (fw_ite ?_ (fw_ite (fw_ite (fw_ite (fw_err _ _ _) ?_) (fw_ite ?_ ?_)) (fw_ite (fw_ite ?_ ?_) (fw_ite ?_ (fw_ite ?_ (fw_ite ?_ ?_)))))))
      · unfold pLocal
        exact fw_ite (fw_err _ _ _) (fw_ite (fw_err _ _ _) (show i < i + 1 + 2 by omega))
      · have h1 := iT (d + 1) (i + 2) (c + 1)
        cases e : pT S f (d + 1) (i + 2) (c + 1) with
        | err b j => trivial
        | ok s j c' =>
          rw [e] at h1
          have h1' : i + 2 < j := h1
          exact fw_ite (fw_err _ _ _) (show i < j + 1 by omega)
      · show i < i + 1; omega
      · show i < i + 1; omega
      · show i < i + 2; omega
      · exact fw_mono (by omega) (iP _ _ _ (i + 1) _ _ _)
      · exact fw_mono (by omega) (iP _ _ _ (i + 1) _ _ _)
      · unfold pOpen
        exact fw_ite (fw_err _ _ _) (fw_ite (fw_err _ _ _) (fw_ite (fw_err _ _ _) (fw_ite (fw_err _ _ _) (fw_ite (fw_err _ _ _) (show i < i + 1 + 5 by omega)))))
      · exact fw_mono (by omega) (iE _ (i + 2) _ _)
      · exact fw_mono (by omega) (iS _ (i + 1) _ _)
    · unfold pParts
      refine fw_ite (fw_err _ _ _) (fw_ite (fw_err _ _ _) (fw_ite (fw_err _ _ _) (fw_ite (fw_err _ _ _) ?_)))
      have h1 := iT (d + 1) (i + 2) c
      cases e : pT S f (d + 1) (i + 2) c with
      | err b j => trivial
      | ok s j c' =>
        rw [e] at h1
        have h1' : i + 2 < j := h1
        exact fw_ite (show i < j + 1 by omega) (fw_ite (fw_err _ _ _) (fw_mono (by omega) (iP _ _ _ (j + 1) _ _ _)))
    · unfold pSubs
      refine fw_ite (fw_err _ _ _) ?_
      have h1 := iT (d + 1) i c
      cases e : pT S f (d + 1) i c with
      | err b j => trivial
      | ok s j c' =>
        rw [e] at h1
        have h1' : i < j := h1
        exact fw_ite (fw_mono (by omega) (iE _ (j + 1) _ _)) (fw_ite (fw_err _ _ _) (fw_mono (by omega) (iS _ (j + 1) _ _)))
    · unfold pEnd
      refine fw_ite (fw_err _ _ _) (fw_ite (fw_err _ _ _) ?_)
      have h1 := iT (d + 1) (i + 1) c
      cases e : pT S f (d + 1) (i + 1) c with
      | err b j => trivial
      | ok s j c' =>
        rw [e] at h1
        have h1' : i + 1 < j := h1
        show i < j; omega
theorem pT_begins {S : Toks} {f d i c j c' : Nat} {t : Ty} (h : pT S f d i c = .ok t j c') : S.begins i = true := by
  cases f with
  | zero => unfold pT at h; cases h
  | succ f =>
    rw [pT_eq] at h
    by_cases hb : S.begins i = false
    · rw [if_pos hb] at h; cases h
    · simpa using hb
theorem one_ok {S : Toks} {f d i c n j c' : Nat} {t : Ty} (h : oneR S f d i c n = .ok t j c') : n < 20 ∧ i < j ∧ i < S.n := by
  unfold oneR at h
  split at h
  · cases h
  · rename_i hn
    have hb := pT_begins h
    have hf := (fw_all S f).1 (d + 1) i c
    rw [h] at hf
    refine ⟨?_, hf, begins_lt hb⟩
    rcases Nat.lt_or_ge n 20 with h1 | h1
    · exact h1
    · exact absurd ⟨hb, h1⟩ hn

theorem subs_eq (S : Toks) (f d i c : Nat) (ss : List Ty) : pSubs S (f + 1) d i c ss = match oneR S f d i c ss.length with
    | .err b j => .err b j
    | .ok s j c' => if S.sign j [41] = true then pEnd S f d (j + 1) c' (ss ++ [s]) else if S.sign j [44] = false then .err 2 j else pSubs S f d (j + 1) c' (ss ++ [s]) := by
  conv => lhs; unfold pSubs
  unfold oneR
  split <;> rfl
theorem end_eq (S : Toks) (f d i c : Nat) (ss : List Ty) : pEnd S (f + 1) d i c ss = if S.sign i [45, 62] = false then .err 2 i else match oneR S f d (i + 1) c ss.length with
    | .err b j => .err b j
    | .ok s j c' => .ok (.mk 7 ⟨#[]⟩ 0 ⟨#[]⟩ ⟨#[]⟩ [] (ss ++ [s])) j c' := by
  conv => lhs; unfold pEnd
  unfold oneR
  split
  · rfl
  · split <;> rfl
theorem subs_more {S : Toks} {f d i c b2 i2 c2 : Nat} {ss : List Ty} {t : Ty} (h : oneR S f d i c ss.length = badR b2 i2 (.ok t i2 c2)) (hq : (decide (b2 = 0) && S.sign i2 [41]) = false) :
    pSubs S (f + 1) d i c ss = badR (psB b2 (S.sign i2 [44])) (psI b2 (S.sign i2 [44]) i2) (pSubs S f d (psI b2 (S.sign i2 [44]) i2) c2 (ss ++ [t])) := by
  rw [sign_res (S.sign i2 [44]) b2 i2 (fun j => pSubs S f d j c2 (ss ++ [t])), subs_eq, h]
  by_cases hb : b2 = 0
  · subst hb
    rw [badR_0, badR_0]
    have h4 : ¬ S.sign i2 [41] = true := by simpa using hq
    show (if _ then _ else _) = _
    rw [if_neg h4]
  · rw [badR_ne _ _ hb, badR_ne _ _ hb]
theorem subs_last {S : Toks} {f d i c b2 i2 c2 : Nat} {ss : List Ty} {t : Ty} (h : oneR S f d i c ss.length = badR b2 i2 (.ok t i2 c2)) (hq : (decide (b2 = 0) && S.sign i2 [41]) = true) :
    b2 = 0 ∧ pSubs S (f + 1) d i c ss = pEnd S f d (i2 + 1) c2 (ss ++ [t]) := by
  simp at hq
  obtain ⟨rfl, h4⟩ := hq
  refine ⟨rfl, ?_⟩
  rw [subs_eq, h, badR_0]
  show (if _ then _ else _) = _
  rw [if_pos h4]
theorem end_res {S : Toks} {f d i c b b2 i2 c2 : Nat} {ss : List Ty} {t : Ty} (h : badR (psB b (S.sign i [45, 62])) (psI b (S.sign i [45, 62]) i) (oneR S f d (psI b (S.sign i [45, 62]) i) c ss.length) = badR b2 i2 (.ok t i2 c2)) :
    badR b i (pEnd S (f + 1) d i c ss) = badR b2 i2 (.ok (.mk 7 ⟨#[]⟩ 0 ⟨#[]⟩ ⟨#[]⟩ [] (ss ++ [t])) i2 c2) := by
  rw [sign_res (S.sign i [45, 62]) b i (fun j => oneR S f d j c ss.length)] at h
  rw [end_eq]
  by_cases hb : b = 0
  · subst hb
    rw [badR_0] at h ⊢
    by_cases hq : S.sign i [45, 62] = false
    · rw [if_pos hq] at h ⊢
      by_cases hb2 : b2 = 0
      · subst hb2; cases h
      · rw [badR_ne _ _ hb2] at h ⊢; exact h
    · rw [if_neg hq] at h ⊢
      rw [h]
      by_cases hb2 : b2 = 0
      · subst hb2; rfl
      · rw [badR_ne _ _ hb2, badR_ne _ _ hb2]
  · rw [badR_ne _ _ hb] at h ⊢
    by_cases hb2 : b2 = 0
    · subst hb2; cases h
    · rw [badR_ne _ _ hb2] at h ⊢; exact h

/-- How far the reader still may go. -/
def rdM (r n : Nat) (w : World) : Nat :=
  match w.heap[r]? with
  | some (Obj.cells cs _ _) => (match cs[1]?, cs[3]? with
    | some (Value.int _ i), some (Value.int _ b) => if b = 0 then n + 3 - i.toNat + 1 else 0
    | _, _ => 0)
  | _ => 0
end Go.Proofs.YtapjhmfbmkckaaaGreatDoor

/- The walk of the reference's function, over its Type. -/
namespace Go.Proofs.YtapjhmfbmkckaaaGreatDoor
open Go.RowKit
open Go.Sort
open M

theorem one_hne {S : Toks} {g d i c : Nat} {ss : List Ty} (h : ∀ j, pSubs S (g + 1) d i c ss ≠ .err 99 j) : ∀ j, oneR S g d i c ss.length ≠ .err 99 j := fun j e => h j (by rw [subs_eq, e])
theorem end_hne {S : Toks} {g d i c : Nat} {ss : List Ty} (h : ∀ j, pEnd S (g + 1) d i c ss ≠ .err 99 j) : psB 0 (S.sign i [45, 62]) = 0 → ∀ j, oneR S g d (psI 0 (S.sign i [45, 62]) i) c ss.length ≠ .err 99 j := fun hq j e => h j (by
  rw [end_eq]
  by_cases hs : S.sign i [45, 62] = false
  · rw [hs] at hq; cases hq
  · rw [if_neg hs]
    have : S.sign i [45, 62] = true := by simpa using hs
    rw [this, psI_yes] at e
    rw [e])

end Go.Proofs.YtapjhmfbmkckaaaGreatDoor

/- The code's parameters: types that grow in new memory. -/
namespace Go.Proofs.YtapjhmfbmkckaaaGreatDoor
open Go.RowKit
open Go.Sort
open M

/-- The first type of a row: the block that a literal of one makes. -/
theorem GrR.first {lo g : Nat} {l : List Value} {t : Ty} {w : World} (hl : l.length = 7) (hlo : lo ≤ g) (hg : w.heap[g]? = some (.cells l.toArray 29 (0, 0))) (hT : TyAt (strike (fun b => b < lo ∨ b = g) w) l t) :
    GrR lo [] 0 [t] 1 (.slice none 0 0) (.slice (some ⟨g, 0, none⟩) 1 1) w := by
  refine ⟨rfl, rfl, World.ownsRow_nil _ _ _ _, fun s h => by simp at h, ⟨[l], rfl, fun x h => by simp at h; subst h; exact hl, ⟨by simp [hl], .inr ⟨g, 1, l.toArray, rfl, hlo, hg, Nat.le_refl _, by decide, by simp [hl], ?_⟩⟩, fun i x u hx hu => ?_⟩, fun b h => by simp [Value.ownBlock] at h⟩
  · simp [← hl]
  · have hi := (List.getElem?_eq_some_iff.1 hx).1
    obtain rfl : i = 0 := by simp at hi; omega
    simp at hx hu
    subst hx hu
    refine TyAt.move hT (Nat.le_refl _) fun b _ hS => ⟨?_, rfl⟩
    rintro (e | e | e)
    · exact hS (.inl e)
    · simp [Value.ownBlock] at e
    · simp [Value.ownBlock] at e; exact hS (.inr e.symm)

/-- One type more, of a row that lies in no box. -/
theorem GrR.moreK {cu r lo g cap n6 c6 : Nat} {ss : List Ty} {A6 : Option Addr} {w wo w1 w3 : World} {o : Obj} {l : List Value} {t : Ty} {C : List (List Value)}
    (h : GrR lo [] 0 ss n6 (.slice none 0 0) (.slice A6 n6 c6) w1) (hlo : lo ≤ wo.heap.size) (hz : wo.heap.size ≤ w1.heap.size) (hwo : ∀ b, (Value.slice A6 n6 c6).ownBlock = some b → b < wo.heap.size)
    (hC1 : C.length = n6) (hC2 : ∀ l, l ∈ C → l.length = 7) (hC4 : ∀ (i : Nat) (l : List Value) (t : Ty), C[i]? = some l → ss[i]? = some t → GrT lo (.slice none 0 0) (.slice A6 n6 c6) w1 l t) (hl : l.length = 7)
    (hT : TyAt (strike (· < wo.heap.size) w1) l t) (hown : w3.ownsRow lo 29 7 (.slice (some ⟨g, 0, none⟩) (n6 + 1) cap) (n6 + 1) (C.flatten ++ l)) (hgrow : (w1.alloc o).grownBy w3 (Value.slice A6 n6 c6).ownBlock)
    (hat : (Value.slice A6 n6 c6).ownBlock = some g ∨ g = (w1.alloc o).heap.size) (hK : KQ cu r w w1) (hw : w.heap.size ≤ lo) :
    GrR lo [] 0 (ss ++ [t]) (n6 + 1) (.slice none 0 0) (.slice (some ⟨g, 0, none⟩) (n6 + 1) cap) w3 ∧ KQ cu r w w3 ∧ (∀ b, b < lo → b < w1.heap.size → w3.heap[b]? = w1.heap[b]?) ∧
    (∀ b, (∀ vs fr, w1.heap[b]? ≠ some (Obj.cells vs 29 fr)) → b < w1.heap.size → w3.heap[b]? = w1.heap[b]?) ∧ w1.heap.size ≤ w3.heap.size := by
  obtain ⟨C', h1', h2', h3, h4'⟩ := h.subs
  have hlow : ∀ b, (Value.slice A6 n6 c6).ownBlock = some b → lo ≤ b := fun b e => (h3.lt b e).1
  have hGT : GrT lo (.slice none 0 0) (.slice A6 n6 c6) w1 l t := TyAt.move hT (Nat.le_refl _) fun b hlt hS => ⟨by
    rintro (e | e | e)
    · omega
    · simp [Value.ownBlock] at e
    · have := hwo b e; omega, rfl⟩
  have R3 := h.addSub hC1 hC2 hC4 hl hGT hown rfl hgrow hat
  have hsz : (w1.alloc o).heap.size = w1.heap.size + 1 := by simp
  have hsz3 := hgrow.size
  refine ⟨R3, (hK.alloc o).grow hgrow fun b e => by have := hlow b e; omega, fun b hb hlt => ?_, fun b hb hlt => ?_, by omega⟩
  · rw [hgrow.block b (by omega) (fun e => by have := hlow b e.symm; omega)]
    exact Lib.alloc_old w1 o b hlt
  · rw [hgrow.block b (by omega) (fun e => ?_)]
    · exact Lib.alloc_old w1 o b hlt
    · rcases h3.2 with ⟨e1, -⟩ | ⟨g6, cap6, cur6, hv, -, hg6, -⟩
      · rw [e1] at e; simp [Value.ownBlock] at e
      · rw [hv] at e; simp [Value.ownBlock] at e
        subst e
        exact hb _ _ hg6

/-- How far a cursor is from its end. -/
def cuM (q n : Nat) (w : World) : Nat :=
  match w.heap[q]? with
  | some (Obj.cells cs _ _) => (match cs[1]?, cs[2]? with
    | some (Value.int _ i), some Value.nilIface => n + 3 - i.toNat + 1
    | _, _ => 0)
  | _ => 0
theorem one_read {S : Toks} {f d i c n : Nat} : readR S f (d + 1) (n + 1) i c = oneR S f d i c n := by
  unfold readR oneR
  by_cases h : S.begins i = true ∧ 20 ≤ n
  · rw [if_pos h, if_pos ⟨h.1, by omega⟩]
  · rw [if_neg h, if_neg (fun x => h ⟨x.1, by omega⟩)]
/-- What stands behind a parameter. -/
def contR (S : Toks) (f d i c : Nat) (ss : List Ty) : Res Ty := if S.sign i [41] = true then pEnd S f d (i + 1) c ss else if S.sign i [44] = false then .err 2 i else pSubs S f d (i + 1) c ss
/-- What stands behind the last one. -/
def shutR (S : Toks) (f d i c : Nat) (ss : List Ty) : Res Ty := if S.sign i [41] = true then pEnd S f d (i + 1) c ss else .err 2 i
theorem sign_one {S : Toks} {i : Nat} {l m : List UInt8} (h : S.sign i l = true) (hne : l ≠ m) : S.sign i m = false := by
  unfold Toks.sign at h ⊢
  simp only [Bool.and_eq_true, decide_eq_true_eq, beq_iff_eq] at h
  rw [h.2]
  have : (l == m) = false := by rw [beq_eq_false_iff_ne]; exact hne
  rw [this, Bool.and_false]
theorem subs_cont {S : Toks} {f d i c b2 i2 c2 : Nat} {ss : List Ty} {t : Ty} (h : oneR S f d i c ss.length = badR b2 i2 (.ok t i2 c2)) :
    pSubs S (f + 1) d i c ss = badR b2 i2 (contR S f d i2 c2 (ss ++ [t])) := by
  rw [subs_eq, h]
  by_cases hb : b2 = 0
  · subst hb; rfl
  · rw [badR_ne _ _ hb, badR_ne _ _ hb]
theorem cont_no {S : Toks} {f d i c b : Nat} {ss : List Ty} (h : (decide (b = 0) && S.sign i [44]) = false) : badR b i (contR S f d i c ss) = badR b i (shutR S f d i c ss) := by
  by_cases hb : b = 0
  · subst hb
    have h4 : S.sign i [44] = false := by simpa using h
    unfold contR shutR
    rw [if_pos h4]
  · exact badR_bad hb
theorem cont_yes {S : Toks} {f d i c b : Nat} {ss : List Ty} (h : (decide (b = 0) && S.sign i [44]) = true) : b = 0 ∧ S.sign i [44] = true ∧ badR b i (contR S f d i c ss) = pSubs S f d (i + 1) c ss := by
  simp at h
  obtain ⟨rfl, h4⟩ := h
  refine ⟨rfl, h4, ?_⟩
  rw [badR_0]
  unfold contR
  rw [if_neg (by rw [sign_one h4 (by decide)]; decide), if_neg (by rw [h4]; decide)]
theorem shut_res {S : Toks} {f d i c b : Nat} {ss : List Ty} : badR b i (shutR S f d i c ss) = badR (psB b (S.sign i [41])) (psI b (S.sign i [41]) i) (pEnd S f d (psI b (S.sign i [41]) i) c ss) := by
  rw [sign_res (S.sign i [41]) b i (fun j => pEnd S f d j c ss)]
  unfold shutR
  by_cases h : S.sign i [41] = true
  · rw [if_pos h, if_neg (by rw [h]; decide)]
  · rw [if_neg h, if_pos (by simpa using h)]

end Go.Proofs.YtapjhmfbmkckaaaGreatDoor

/- The code's function, over what read tells. -/
namespace Go.Proofs.YtapjhmfbmkckaaaGreatDoor
open Go.RowKit
open Go.Sort
open M

theorem own_lower {w : World} {lo lo' : Nat} {e : TypeId} {z : Nat} {v : Value} {n : Nat} {xs : List Value} (h : w.ownsRow lo e z v n xs) (hl : lo' ≤ lo) : w.ownsRow lo' e z v n xs := by
  refine ⟨h.1, ?_⟩
  rcases h.2 with h | ⟨g, cap, cur, hv, hB, rest⟩
  · exact .inl h
  · exact .inr ⟨g, cap, cur, hv, Nat.le_trans hl hB, rest⟩
theorem GrR.lower {lo lo' : Nat} {ns : List ByteArray} {n5 : Nat} {ss : List Ty} {n6 : Nat} {v5 v6 : Value} {w : World} (h : GrR lo ns n5 ss n6 v5 v6 w) (hl : lo' ≤ lo) : GrR lo' ns n5 ss n6 v5 v6 w := by
  obtain ⟨C, h1, h2, h3, h4⟩ := h.subs
  exact ⟨h.len5, h.len6, own_lower h.names hl, h.szs, ⟨C, h1, h2, own_lower h3 hl, fun i l t hx ht => (h4 i l t hx ht).move (Nat.le_refl _) fun b _ hS => ⟨fun e => hS (by
    rcases e with e | e
    · exact .inl (by omega)
    · exact .inr e), rfl⟩⟩, h.apart⟩

end Go.Proofs.YtapjhmfbmkckaaaGreatDoor

/- Plain: one step of what stands in a record, or a variant; a name put among names. Rows in which names, and subs, are set. -/
namespace Go.Proofs.YtapjhmfbmkckaaaGreatDoor
open Go.RowKit
open Go.Sort
open M

/-- Behind a name that may stand there. -/
def behindR (S : Toks) (k : Int) (z : List UInt8) (f d i c : Nat) (ns : List ByteArray) (ss : List Ty) : Res Ty :=
  if S.sign (i + 1) [58] = false then .err 2 (i + 1)
  else match pT S f (d + 1) (i + 2) c with
    | .err b j => .err b j
    | .ok s j c' =>
      if S.sign j z = true then .ok (Ty.mk k ⟨#[]⟩ 0 ⟨#[]⟩ ⟨#[]⟩ (putAt (posOf (S.T i) ns ns.length) (S.T i) ns) (putAt (posOf (S.T i) ns ns.length) s ss)) (j + 1) c'
      else if S.sign j [44] = false then .err 2 j
      else pParts S k z f d (j + 1) c' (putAt (posOf (S.T i) ns ns.length) (S.T i) ns) (putAt (posOf (S.T i) ns ns.length) s ss)
theorem parts_eq (S : Toks) (k : Int) (z : List UInt8) (f d i c : Nat) (ns : List ByteArray) (ss : List Ty) : pParts S k z (f + 1) d i c ns ss =
    if S.nameOk k i = false then .err 2 i else if 20 ≤ ns.length then .err 3 i else if twice (S.T i) ns = true then .err 5 i else behindR S k z f d i c ns ss := by
  conv => lhs; unfold pParts
  rfl
theorem behind_hne {S : Toks} {k : Int} {z : List UInt8} {f d i c : Nat} {ns : List ByteArray} {ss : List Ty} (h : ∀ j, behindR S k z f d i c ns ss ≠ .err 99 j) (hq : psB 0 (S.sign (i + 1) [58]) = 0) : ∀ j, pT S f (d + 1) (psI 0 (S.sign (i + 1) [58]) (i + 1)) c ≠ .err 99 j := fun j e => h j (by
  unfold behindR
  by_cases hs : S.sign (i + 1) [58] = false
  · rw [hs] at hq; cases hq
  · rw [if_neg hs]
    have : S.sign (i + 1) [58] = true := by simpa using hs
    rw [this, psI_yes] at e
    rw [e])
theorem behind_more {S : Toks} {k : Int} {z : List UInt8} {f d i c b2 i2 c2 : Nat} {ns : List ByteArray} {ss : List Ty} {t : Ty}
    (h : badR (psB 0 (S.sign (i + 1) [58])) (psI 0 (S.sign (i + 1) [58]) (i + 1)) (pT S f (d + 1) (psI 0 (S.sign (i + 1) [58]) (i + 1)) c) = badR b2 i2 (.ok t i2 c2)) (hq : (decide (b2 = 0) && S.sign i2 z) = false) :
    behindR S k z f d i c ns ss = badR (psB b2 (S.sign i2 [44])) (psI b2 (S.sign i2 [44]) i2) (pParts S k z f d (psI b2 (S.sign i2 [44]) i2) c2 (putAt (posOf (S.T i) ns ns.length) (S.T i) ns) (putAt (posOf (S.T i) ns ns.length) t ss)) := by
  rw [sign_res (S.sign i2 [44]) b2 i2 (fun j => pParts S k z f d j c2 (putAt (posOf (S.T i) ns ns.length) (S.T i) ns) (putAt (posOf (S.T i) ns ns.length) t ss))]
  rw [sign_res (S.sign (i + 1) [58]) 0 (i + 1) (fun j => pT S f (d + 1) j c), badR_0] at h
  unfold behindR
  by_cases hs : S.sign (i + 1) [58] = false
  · rw [if_pos hs] at h ⊢
    by_cases hb : b2 = 0
    · subst hb; cases h
    · rw [badR_ne _ _ hb] at h ⊢; exact h
  · rw [if_neg hs] at h ⊢
    rw [h]
    by_cases hb : b2 = 0
    · subst hb
      rw [badR_0, badR_0]
      have h4 : ¬ S.sign i2 z = true := by simpa using hq
      show (if _ then _ else _) = _
      rw [if_neg h4]
    · rw [badR_ne _ _ hb, badR_ne _ _ hb]
theorem behind_last {S : Toks} {k : Int} {z : List UInt8} {f d i c b2 i2 c2 : Nat} {ns : List ByteArray} {ss : List Ty} {t : Ty}
    (h : badR (psB 0 (S.sign (i + 1) [58])) (psI 0 (S.sign (i + 1) [58]) (i + 1)) (pT S f (d + 1) (psI 0 (S.sign (i + 1) [58]) (i + 1)) c) = badR b2 i2 (.ok t i2 c2)) (hq : (decide (b2 = 0) && S.sign i2 z) = true) :
    b2 = 0 ∧ behindR S k z f d i c ns ss = .ok (Ty.mk k ⟨#[]⟩ 0 ⟨#[]⟩ ⟨#[]⟩ (putAt (posOf (S.T i) ns ns.length) (S.T i) ns) (putAt (posOf (S.T i) ns ns.length) t ss)) (i2 + 1) c2 := by
  simp only [Bool.and_eq_true, decide_eq_true_eq] at hq
  obtain ⟨rfl, h4⟩ := hq
  refine ⟨rfl, ?_⟩
  rw [sign_res (S.sign (i + 1) [58]) 0 (i + 1) (fun j => pT S f (d + 1) j c), badR_0, badR_0] at h
  unfold behindR
  by_cases hs : S.sign (i + 1) [58] = false
  · rw [if_pos hs] at h; cases h
  · rw [if_neg hs] at h ⊢
    rw [h]
    show (if _ then _ else _) = _
    rw [if_pos h4]
theorem behind_fw {S : Toks} {f d i c b2 i2 c2 : Nat} {t : Ty} (h : badR (psB 0 (S.sign (i + 1) [58])) (psI 0 (S.sign (i + 1) [58]) (i + 1)) (pT S f (d + 1) (psI 0 (S.sign (i + 1) [58]) (i + 1)) c) = badR b2 i2 (.ok t i2 c2)) (hb : b2 = 0) : i < i2 ∧ i < S.n := by
  subst hb
  rw [badR_0] at h
  obtain ⟨h1, h2⟩ := badR_ok h
  have := (fw_all S f).1 (d + 1) (psI 0 (S.sign (i + 1) [58]) (i + 1)) c
  rw [h2] at this
  have h3 : psI 0 (S.sign (i + 1) [58]) (i + 1) < i2 := this
  have hs : S.sign (i + 1) [58] = true := by
    cases hq : S.sign (i + 1) [58] with
    | true => rfl
    | false => rw [hq] at h1; cases h1
  rw [hs, psI_yes] at h3
  have := sign_lt hs
  exact ⟨by omega, by omega⟩

/-! A name among names -/
theorem put_len {α : Type} (p : Nat) (x : α) (l : List α) (h : p ≤ l.length) : (putAt p x l).length = l.length + 1 := by unfold putAt; simp; omega
theorem put_end {α : Type} (x : α) (l : List α) : putAt l.length x l = l ++ [x] := by unfold putAt; simp
theorem put_at {α : Type} (p : Nat) (x : α) (l : List α) (h : p ≤ l.length) : (putAt p x l)[p]? = some x := by
  unfold putAt
  rw [List.getElem?_append_right (by simp; omega)]
  simp [Nat.min_eq_left h]
theorem put_ahead {α : Type} (m : Nat) (x : α) (l : List α) (h : m < l.length) : (putAt (m + 1) x l)[m]? = l[m]? := by
  unfold putAt
  rw [List.getElem?_append_left (by simp; omega), List.getElem?_take_of_lt (by omega)]
theorem put_step {α : Type} (m : Nat) (x y : α) (l : List α) (h : l[m]? = some y) : ((putAt (m + 1) x l).set (m + 1) y).set m x = putAt m x l := by
  have hm := (List.getElem?_eq_some_iff.1 h).1
  have hy : l[m] = y := (List.getElem?_eq_some_iff.1 h).2
  apply List.ext_getElem?
  intro j
  unfold putAt
  rcases Nat.lt_or_ge j m with hj | hj
  · rw [List.getElem?_set_ne (by omega), List.getElem?_set_ne (by omega), List.getElem?_append_left (by simp; omega), List.getElem?_append_left (by simp; omega), List.getElem?_take_of_lt (by omega), List.getElem?_take_of_lt hj]
  · rcases Nat.eq_or_lt_of_le hj with rfl | hj
    · rw [List.getElem?_set_self (by simp; omega), List.getElem?_append_right (by rw [List.length_take]; omega)]
      simp [Nat.min_eq_left (Nat.le_of_lt hm)]
    · rw [List.getElem?_set_ne (by omega)]
      rcases Nat.eq_or_lt_of_le (Nat.succ_le_of_lt hj) with e | hj2
      · have e : j = m + 1 := e.symm
        subst e
        rw [List.getElem?_set_self (by simp; omega), List.getElem?_append_right (by simp; omega)]
        simp [Nat.min_eq_left (Nat.le_of_lt hm), hy, hm]
      · rw [List.getElem?_set_ne (by omega), List.getElem?_append_right (by simp; omega), List.getElem?_append_right (by simp; omega)]
        simp only [List.length_take, Nat.min_eq_left (show m + 1 ≤ l.length by omega), Nat.min_eq_left (Nat.le_of_lt hm)]
        obtain ⟨q, rfl⟩ : ∃ q, j = m + 2 + q := ⟨j - (m + 2), by omega⟩
        rw [show m + 2 + q - (m + 1) = q + 1 by omega, show m + 2 + q - m = (q + 1) + 1 by omega]
        simp [List.getElem?_drop]
        congr 1; omega
theorem posOf_le (s : ByteArray) (ns : List ByteArray) : ∀ k, posOf s ns k ≤ k
  | 0 => Nat.le_refl _
  | k + 1 => by
    unfold posOf
    split
    · have := posOf_le s ns k; omega
    · exact Nat.le_refl _

/-! Rows in which one is set -/
theorem GrR.setName {lo g5 : Nat} {ns : List ByteArray} {n5 c5 : Nat} {ss : List Ty} {n6 : Nat} {v6 : Value} {w : World} (h : GrR lo ns n5 ss n6 (.slice (some ⟨g5, 0, none⟩) n5 c5) v6 w) (i : Nat) {s : ByteArray} (hs : s.size ≤ 9223372036854775807) :
    GrR lo (ns.set i s) n5 ss n6 (.slice (some ⟨g5, 0, none⟩) n5 c5) v6 (w.setCell ⟨g5, i, none⟩ (.string s)) ∧ ∀ l t, GrT lo (.slice (some ⟨g5, 0, none⟩) n5 c5) v6 w l t → GrT lo (.slice (some ⟨g5, 0, none⟩) n5 c5) v6 (w.setCell ⟨g5, i, none⟩ (.string s)) l t := by
  have ot : ∀ b, b ≠ g5 → (w.setCell ⟨g5, i, none⟩ (.string s)).heap[b]? = w.heap[b]? := fun b hb => Below.heap_setCell _ _ _ _ hb
  have mv : ∀ l t, GrT lo (.slice (some ⟨g5, 0, none⟩) n5 c5) v6 w l t → GrT lo (.slice (some ⟨g5, 0, none⟩) n5 c5) v6 (w.setCell ⟨g5, i, none⟩ (.string s)) l t := fun l t hT =>
    TyAt.move hT (by simp) fun b _ hS => ⟨hS, ot b (fun e => hS (.inr (.inl (by rw [e]; rfl))))⟩
  obtain ⟨C, h1, h2, h3, h4⟩ := h.subs
  refine ⟨⟨by rw [List.length_set]; exact h.len5, h.len6, ?_, fun x hx => ?_, ⟨C, h1, h2, ?_, fun i l t hl ht => mv l t (h4 i l t hl ht)⟩, h.apart⟩, mv⟩
  · rw [List.map_set]
    exact (h.names.stored i (.string s)).1
  · rcases List.mem_or_eq_of_mem_set hx with hx | rfl
    · exact h.szs x hx
    · exact hs
  · refine ⟨h3.1, ?_⟩
    rcases h3.2 with e | ⟨g6, cap6, cur6, hv, hB, hg6, rest⟩
    · exact .inl e
    · refine .inr ⟨g6, cap6, cur6, hv, hB, (ot g6 fun e => ?_).trans hg6, rest⟩
      exact h.apart g5 rfl (by rw [hv, ← e]; rfl)
theorem setCells7 (w : World) (g o : Nat) (v0 v1 v2 v3 v4 v5 v6 : Value) : w.setCells g o [v0, v1, v2, v3, v4, v5, v6] = ((((((w.setCell ⟨g, o, none⟩ v0).setCell ⟨g, o + 1, none⟩ v1).setCell ⟨g, o + 2, none⟩ v2).setCell ⟨g, o + 3, none⟩ v3).setCell ⟨g, o + 4, none⟩ v4).setCell ⟨g, o + 5, none⟩ v5).setCell ⟨g, o + 6, none⟩ v6 := by
  simp [World.setCells]
theorem setCells7_other {w : World} {g o b : Nat} {l : List Value} (hl : l.length = 7) (hne : b ≠ g) : (w.setCells g o l).heap[b]? = w.heap[b]? := by
  obtain ⟨v0, v1, v2, v3, v4, v5, v6, rfl⟩ := list7 l hl
  rw [setCells7, Below.heap_setCell _ _ _ _ hne, Below.heap_setCell _ _ _ _ hne, Below.heap_setCell _ _ _ _ hne, Below.heap_setCell _ _ _ _ hne, Below.heap_setCell _ _ _ _ hne, Below.heap_setCell _ _ _ _ hne, Below.heap_setCell _ _ _ _ hne]
theorem setCells7_size {w : World} {g o : Nat} {l : List Value} (hl : l.length = 7) : (w.setCells g o l).heap.size = w.heap.size := by
  obtain ⟨v0, v1, v2, v3, v4, v5, v6, rfl⟩ := list7 l hl
  rw [setCells7]; simp
theorem Kp.putCells {r : Nat} {w a : World} (h : Kp r w a) (g o : Nat) (hp : w.heap.size ≤ g) {l : List Value} (hl : l.length = 7) : Kp r w (a.setCells g o l) := by
  obtain ⟨v0, v1, v2, v3, v4, v5, v6, rfl⟩ := list7 l hl
  rw [setCells7]
  exact ((((((h.putNew _ hp _).putNew _ hp _).putNew _ hp _).putNew _ hp _).putNew _ hp _).putNew _ hp _).putNew _ hp _
theorem GrR.setSub {lo g6 : Nat} {ns : List ByteArray} {n5 : Nat} {ss : List Ty} {n6 c6 : Nat} {v5 : Value} {w : World} (h : GrR lo ns n5 ss n6 v5 (.slice (some ⟨g6, 0, none⟩) n6 c6) w) (i : Nat) (hi : i < n6) {l : List Value} {t : Ty} (hl : l.length = 7) (hT : GrT lo v5 (.slice (some ⟨g6, 0, none⟩) n6 c6) w l t) :
    GrR lo ns n5 (ss.set i t) n6 v5 (.slice (some ⟨g6, 0, none⟩) n6 c6) (w.setCells g6 (i * 7) l) ∧ ∀ l' t', GrT lo v5 (.slice (some ⟨g6, 0, none⟩) n6 c6) w l' t' → GrT lo v5 (.slice (some ⟨g6, 0, none⟩) n6 c6) (w.setCells g6 (i * 7) l) l' t' := by
  have ot : ∀ b, b ≠ g6 → (w.setCells g6 (i * 7) l).heap[b]? = w.heap[b]? := fun b hb => setCells7_other hl hb
  have mv : ∀ l' t', GrT lo v5 (.slice (some ⟨g6, 0, none⟩) n6 c6) w l' t' → GrT lo v5 (.slice (some ⟨g6, 0, none⟩) n6 c6) (w.setCells g6 (i * 7) l) l' t' := fun l' t' hT =>
    TyAt.move hT (by rw [setCells7_size hl]; exact Nat.le_refl _) fun b _ hS => ⟨hS, ot b (fun e => hS (.inr (.inr (by rw [e]; rfl))))⟩
  obtain ⟨C, h1, h2, h3, h4⟩ := h.subs
  refine ⟨⟨h.len5, by rw [List.length_set]; exact h.len6, ?_, h.szs, ⟨C.set i l, by rw [List.length_set]; exact h1, fun x hx => ?_, ?_, fun j x u hx hu => ?_⟩, h.apart⟩, mv⟩
  · refine ⟨h.names.1, ?_⟩
    rcases h.names.2 with e | ⟨g5, cap5, cur5, hv, hB, hg5, rest⟩
    · exact .inl e
    · refine .inr ⟨g5, cap5, cur5, hv, hB, (ot g5 fun e => ?_).trans hg5, rest⟩
      exact h.apart g5 (by rw [hv]; rfl) (by rw [e]; rfl)
  · rcases List.mem_or_eq_of_mem_set hx with hx | rfl
    · exact h2 x hx
    · exact hl
  · obtain ⟨v0, v1, v2, v3, v4, v5, v6, rfl⟩ := list7 l hl
    rw [flat7_set C h2 i (by omega), setCells7]
    exact ((((((((h3.stored _ v0).1.stored _ v1).1.stored _ v2).1.stored _ v3).1.stored _ v4).1.stored _ v5).1).stored _ v6).1
  · by_cases hij : i = j
    · subst hij
      rw [List.getElem?_set_self (by omega)] at hx
      rw [List.getElem?_set_self (by rw [h.len6]; exact hi)] at hu
      obtain rfl := Option.some.inj hx
      obtain rfl := Option.some.inj hu
      exact mv _ _ hT
    · rw [List.getElem?_set_ne hij] at hx hu
      exact mv _ _ (h4 j x u hx hu)

/-- One name more: what stands behind. -/
theorem GrR.moreName {w : World} {r : Nat} {ns : List ByteArray} {n5 : Nat} {A5 : Option Addr} {c5 : Nat} {ss : List Ty} {n6 : Nat} {A6 : Option Addr} {c6 g cap lo : Nat} {w1 w3 : World} {o : Obj} {s : ByteArray}
    (h : GrR lo ns n5 ss n6 (.slice A5 n5 c5) (.slice A6 n6 c6) w1) (hlo : lo ≤ w1.heap.size) (hs : s.size ≤ 9223372036854775807)
    (hown : w3.ownsRow lo 9 1 (.slice (some ⟨g, 0, none⟩) (n5 + 1) cap) (n5 + 1) (ns.map Value.string ++ [.string s])) (hgrow : (w1.alloc o).grownBy w3 (Value.slice A5 n5 c5).ownBlock)
    (hat : (Value.slice A5 n5 c5).ownBlock = some g ∨ g = (w1.alloc o).heap.size) {B : Nat} (hB : B < lo) {u0 u1 u2 u3 u4 u5 u6 : Value} (hbox : w1.heap[B]? = some (.cells #[u0, u1, u2, u3, u4, u5, u6] 29 (0, 0)))
    (hK : Kp r w w1) (hw : w.heap.size ≤ B) :
    GrR lo (ns ++ [s]) (n5 + 1) ss n6 (.slice (some ⟨g, 0, none⟩) (n5 + 1) cap) (.slice A6 n6 c6) (w3.setCell ⟨B, 5, none⟩ (.slice (some ⟨g, 0, none⟩) (n5 + 1) cap)) ∧
    (∀ l t, GrT lo (.slice A5 n5 c5) (.slice A6 n6 c6) w1 l t → GrT lo (.slice (some ⟨g, 0, none⟩) (n5 + 1) cap) (.slice A6 n6 c6) (w3.setCell ⟨B, 5, none⟩ (.slice (some ⟨g, 0, none⟩) (n5 + 1) cap)) l t) ∧
    (w3.setCell ⟨B, 5, none⟩ (.slice (some ⟨g, 0, none⟩) (n5 + 1) cap)).heap[B]? = some (.cells #[u0, u1, u2, u3, u4, .slice (some ⟨g, 0, none⟩) (n5 + 1) cap, u6] 29 (0, 0)) ∧
    Kp r w (w3.setCell ⟨B, 5, none⟩ (.slice (some ⟨g, 0, none⟩) (n5 + 1) cap)) ∧ (∀ b, b < w1.heap.size → b ≠ B → (Value.slice A5 n5 c5).ownBlock ≠ some b → (w3.setCell ⟨B, 5, none⟩ (.slice (some ⟨g, 0, none⟩) (n5 + 1) cap)).heap[b]? = w1.heap[b]?) ∧
    w3.cell? ⟨B, 5, none⟩ = some u5 ∧ w3.frozen? ⟨B, 5, none⟩ = false ∧ w1.heap.size ≤ (w3.setCell ⟨B, 5, none⟩ (.slice (some ⟨g, 0, none⟩) (n5 + 1) cap)).heap.size := by
  have hlow : ∀ b, (Value.slice A5 n5 c5).ownBlock = some b → lo ≤ b := fun b e => (h.names.lt b e).1
  obtain ⟨R3, mv⟩ := h.addName hown rfl hgrow hat hs
  have hsz : (w1.alloc o).heap.size = w1.heap.size + 1 := by simp
  have hsz3 := hgrow.size
  have old3 : ∀ b, b < w1.heap.size → (Value.slice A5 n5 c5).ownBlock ≠ some b → w3.heap[b]? = w1.heap[b]? := fun b hb hne => by
    rw [hgrow.block b (by omega) (fun e => hne e.symm)]
    exact Lib.alloc_old w1 o b hb
  have hb3 := (old3 B (by omega) (fun e => by have := hlow B e; omega)).trans hbox
  refine ⟨R3.keep (by simp) (fun b hb _ => Below.heap_setCell _ _ _ _ (by show b ≠ B; omega)), fun l t hT => (mv l t hT).keep (by simp) (fun b hb _ => Below.heap_setCell _ _ _ _ (by show b ≠ B; omega)), ?_, ?_,
    fun b hb hne hno => (Below.heap_setCell _ _ _ _ (by show b ≠ B; omega)).trans (old3 b hb hno), Lib.cell_of_heap hb3 5, Lib.frozen_of_heap hb3 5, by simp; omega⟩
  · have := Joins.block_setCell (i := 5) hb3 (.slice (some ⟨g, 0, none⟩) (n5 + 1) cap); simpa using this
  · refine Kp.putNew ((hK.alloc o).grow hgrow fun b e => ?_) _ hw _
    have := hlow b e; omega
/-- One type more, beside both rows. -/
theorem GrR.moreSub {w : World} {r : Nat} {ns : List ByteArray} {n5 : Nat} {A5 : Option Addr} {c5 : Nat} {ss : List Ty} {n6 : Nat} {A6 : Option Addr} {c6 g cap lo : Nat} {w1 w3 : World} {o : Obj} {l : List Value} {t : Ty} {C : List (List Value)}
    (h : GrR lo ns n5 ss n6 (.slice A5 n5 c5) (.slice A6 n6 c6) w1) (hlo : lo ≤ w1.heap.size)
    (hC1 : C.length = n6) (hC2 : ∀ l, l ∈ C → l.length = 7) (hC4 : ∀ (i : Nat) (l : List Value) (t : Ty), C[i]? = some l → ss[i]? = some t → GrT lo (.slice A5 n5 c5) (.slice A6 n6 c6) w1 l t) (hl : l.length = 7)
    (hGT : GrT lo (.slice A5 n5 c5) (.slice A6 n6 c6) w1 l t) (hown : w3.ownsRow lo 29 7 (.slice (some ⟨g, 0, none⟩) (n6 + 1) cap) (n6 + 1) (C.flatten ++ l)) (hgrow : (w1.alloc o).grownBy w3 (Value.slice A6 n6 c6).ownBlock)
    (hat : (Value.slice A6 n6 c6).ownBlock = some g ∨ g = (w1.alloc o).heap.size) {B : Nat} (hB : B < lo) {u0 u1 u2 u3 u4 u5 u6 : Value} (hbox : w1.heap[B]? = some (.cells #[u0, u1, u2, u3, u4, u5, u6] 29 (0, 0)))
    (hK : Kp r w w1) (hw : w.heap.size ≤ B) :
    GrR lo ns n5 (ss ++ [t]) (n6 + 1) (.slice A5 n5 c5) (.slice (some ⟨g, 0, none⟩) (n6 + 1) cap) (w3.setCell ⟨B, 6, none⟩ (.slice (some ⟨g, 0, none⟩) (n6 + 1) cap)) ∧
    (w3.setCell ⟨B, 6, none⟩ (.slice (some ⟨g, 0, none⟩) (n6 + 1) cap)).heap[B]? = some (.cells #[u0, u1, u2, u3, u4, u5, .slice (some ⟨g, 0, none⟩) (n6 + 1) cap] 29 (0, 0)) ∧
    Kp r w (w3.setCell ⟨B, 6, none⟩ (.slice (some ⟨g, 0, none⟩) (n6 + 1) cap)) ∧ (∀ b, b < lo → b ≠ B → (w3.setCell ⟨B, 6, none⟩ (.slice (some ⟨g, 0, none⟩) (n6 + 1) cap)).heap[b]? = w1.heap[b]?) ∧
    w3.cell? ⟨B, 6, none⟩ = some u6 ∧ w3.frozen? ⟨B, 6, none⟩ = false ∧ w1.heap.size ≤ (w3.setCell ⟨B, 6, none⟩ (.slice (some ⟨g, 0, none⟩) (n6 + 1) cap)).heap.size := by
  have hlow : ∀ b, (Value.slice A6 n6 c6).ownBlock = some b → lo ≤ b := fun b e => by
    obtain ⟨C', -, -, h3, -⟩ := h.subs
    exact (h3.lt b e).1
  have R3 := h.addSub hC1 hC2 hC4 hl hGT hown rfl hgrow hat
  have hsz : (w1.alloc o).heap.size = w1.heap.size + 1 := by simp
  have hsz3 := hgrow.size
  have old3 : ∀ b, b < lo → w3.heap[b]? = w1.heap[b]? := fun b hb => by
    rw [hgrow.block b (by omega) (fun e => by have := hlow b e.symm; omega)]
    exact Lib.alloc_old w1 o b (by omega)
  have hb3 := (old3 B hB).trans hbox
  refine ⟨R3.keep (by simp) (fun b hb _ => Below.heap_setCell _ _ _ _ (by show b ≠ B; omega)), ?_, ?_, fun b hb hne => (Below.heap_setCell _ _ _ _ (by show b ≠ B; omega)).trans (old3 b hb), Lib.cell_of_heap hb3 6, Lib.frozen_of_heap hb3 6, by simp; omega⟩
  · have := Joins.block_setCell (i := 6) hb3 (.slice (some ⟨g, 0, none⟩) (n6 + 1) cap); simpa using this
  · refine Kp.putNew ((hK.alloc o).grow hgrow fun b e => ?_) _ hw _
    have := hlow b e; omega

end Go.Proofs.YtapjhmfbmkckaaaGreatDoor

/- Plain: names with their types, each put among those ahead; a list sorted by names is the same, if no name is there twice. -/
namespace Go.Proofs.YtapjhmfbmkckaaaGreatDoor.M
open Go

/-- Bytes in their order: the same facts of the model's '<'. -/
theorem bl_irrefl : ∀ a : List UInt8, Op.bytesLess a a = false
  | [] => rfl
  | x :: a => by
    have : ¬ x < x := by simp
    simp [Op.bytesLess, bl_irrefl a]
theorem bl_trans : ∀ a b c : List UInt8, Op.bytesLess a b = true → Op.bytesLess b c = true → Op.bytesLess a c = true
  | [], [], _, h, _ => by simp [Op.bytesLess] at h
  | [], _ :: _, [], _, h => by simp [Op.bytesLess] at h
  | [], _ :: _, _ :: _, _, _ => by simp [Op.bytesLess]
  | _ :: _, [], _, h, _ => by simp [Op.bytesLess] at h
  | _ :: _, _ :: _, [], _, h => by simp [Op.bytesLess] at h
  | x :: a, y :: b, z :: c, h1, h2 => by
    simp only [Op.bytesLess, Bool.or_eq_true, Bool.and_eq_true, decide_eq_true_eq, beq_iff_eq] at h1 h2 ⊢
    rcases h1 with h1 | ⟨rfl, h1⟩
    · rcases h2 with h2 | ⟨rfl, h2⟩
      · exact .inl (UInt8.lt_trans h1 h2)
      · exact .inl h1
    · rcases h2 with h2 | ⟨rfl, h2⟩
      · exact .inl h2
      · exact .inr ⟨rfl, bl_trans a b c h1 h2⟩
theorem bl_tri : ∀ a b : List UInt8, Op.bytesLess a b = false → Op.bytesLess b a = false → a = b
  | [], [], _, _ => rfl
  | [], _ :: _, h, _ => by simp [Op.bytesLess] at h
  | _ :: _, [], _, h => by simp [Op.bytesLess] at h
  | x :: a, y :: b, h1, h2 => by
    simp only [Op.bytesLess, Bool.or_eq_false_iff, Bool.and_eq_false_iff, decide_eq_false_iff_not, beq_eq_false_iff_ne] at h1 h2
    have hxy : x = y := UInt8.le_antisymm (UInt8.not_lt.1 h2.1) (UInt8.not_lt.1 h1.1)
    subst hxy
    have := bl_tri a b (by rcases h1.2 with h | h; exact absurd rfl h; exact h) (by rcases h2.2 with h | h; exact absurd rfl h; exact h)
    rw [this]
theorem bl_ntrans (a b c : List UInt8) (h1 : Op.bytesLess a b = false) (h2 : Op.bytesLess b c = false) : Op.bytesLess a c = false := by
  cases h : Op.bytesLess a c with
  | false => rfl
  | true =>
    exfalso
    cases hb : Op.bytesLess b a with
    | true => have := bl_trans b a c hb h; rw [this] at h2; cases h2
    | false =>
      have := bl_tri a b h1 hb
      subst this
      rw [h] at h2; cases h2

abbrev FdT := ByteArray × Ty
/-- Not behind. -/
def leF (x y : FdT) : Prop := Op.bytesLess y.1.toList x.1.toList = false
/-- One more, put among those ahead. -/
def stepF (a : List ByteArray × List Ty) (x : FdT) : List ByteArray × List Ty := (putAt (posOf x.1 a.1 a.1.length) x.1 a.1, putAt (posOf x.1 a.1 a.1.length) x.2 a.2)
def pIns (P : List FdT) : List ByteArray × List Ty := P.foldl stepF ([], [])
def insN (P : List FdT) : List ByteArray := (pIns P).1
def insS (P : List FdT) : List Ty := (pIns P).2
theorem pIns_snoc (P : List FdT) (x : FdT) : pIns (P ++ [x]) = stepF (pIns P) x := by unfold pIns; rw [List.foldl_append]; rfl
theorem insN_snoc (P : List FdT) (x : FdT) : insN (P ++ [x]) = putAt (posOf x.1 (insN P) (insN P).length) x.1 (insN P) := by unfold insN; rw [pIns_snoc]; rfl
theorem insS_snoc (P : List FdT) (x : FdT) : insS (P ++ [x]) = putAt (posOf x.1 (insN P) (insN P).length) x.2 (insS P) := by unfold insS insN; rw [pIns_snoc]; rfl

theorem putAt_zip {α β : Type} (p : Nat) (x : α) (y : β) (l : List α) (m : List β) (h : l.length = m.length) : (putAt p x l).zip (putAt p y m) = putAt p (x, y) (l.zip m) := by
  unfold putAt
  rw [List.zip_append (by simp [h]), List.zip_cons_cons]
  simp only [List.zip_eq_zipWith, List.take_zipWith, List.drop_zipWith]
theorem putAt_perm {α : Type} (p : Nat) (x : α) (l : List α) : (putAt p x l).Perm (x :: l) := by
  unfold putAt
  have := (List.perm_middle (a := x) (l₁ := l.take p) (l₂ := l.drop p))
  rw [List.take_append_drop] at this
  exact this
theorem ins_rev (Q : List FdT) : (insN Q.reverse).length = Q.reverse.length ∧ (insS Q.reverse).length = Q.reverse.length ∧ ((insN Q.reverse).zip (insS Q.reverse)).Perm Q.reverse ∧ ((insN Q.reverse).zip (insS Q.reverse)).Pairwise leF := by
  induction Q with
  | nil => exact ⟨rfl, rfl, List.Perm.nil, List.Pairwise.nil⟩
  | cons x Q ih =>
    rw [List.reverse_cons]
    generalize Q.reverse = P at ih ⊢
    obtain ⟨h1, h2, h3, h4⟩ := ih
    have hle := posOf_le x.1 (insN P) (insN P).length
    rw [insN_snoc, insS_snoc]
    refine ⟨by rw [put_len _ _ _ hle, h1]; simp, by rw [put_len _ _ _ (by omega), h2]; simp, ?_, ?_⟩
    · rw [putAt_zip _ _ _ _ _ (by omega)]
      exact (putAt_perm _ _ _).trans ((List.Perm.cons x h3).trans (List.perm_append_singleton x P).symm)
    · rw [putAt_zip _ _ _ _ _ (by omega)]
      obtain ⟨Z, hZ⟩ : ∃ Z, Z = (insN P).zip (insS P) := ⟨_, rfl⟩
      have hn : insN P = Z.map (·.1) := by rw [hZ, List.map_fst_zip (by omega)]
      rw [← hZ] at h4 ⊢
      rw [hn]
      clear hZ hn h1 h2 h3 hle
      -- ahead of the place nothing is greater, behind it all is
      have key : ∀ k, k ≤ Z.length → (∀ j z, Z[j]? = some z → posOf x.1 (Z.map (·.1)) k ≤ j → j < k → Op.bytesLess x.1.toList z.1.toList = true) ∧ (∀ j z, Z[j]? = some z → j < posOf x.1 (Z.map (·.1)) k → Op.bytesLess x.1.toList z.1.toList = false) := by
        intro k
        induction k with
        | zero => exact fun _ => ⟨fun j z _ _ h => by omega, fun j z _ h => by unfold posOf at h; omega⟩
        | succ k ihk =>
          intro hk
          have hZk : Z[k]? = some Z[k] := List.getElem?_eq_getElem (by omega)
          have hna : nameAt (Z.map (·.1)) k = Z[k].1 := by unfold nameAt; simp [hZk]
          obtain ⟨i1, i2⟩ := ihk (by omega)
          unfold posOf
          rw [hna]
          split
          · rename_i hlt
            refine ⟨fun j z hz h1 h2 => ?_, i2⟩
            rcases Nat.lt_or_ge j k with h | h
            · exact i1 j z hz h1 h
            · have : j = k := by omega
              subst this
              rw [hZk] at hz; cases hz
              exact hlt
          · rename_i hlt
            refine ⟨fun j z hz h1 h2 => by omega, fun j z hz h1 => ?_⟩
            have hlt' : Op.bytesLess x.1.toList Z[k].1.toList = false := by simpa using hlt
            rcases Nat.lt_or_ge j k with h | h
            · have hp := (List.pairwise_iff_getElem.1 h4) j k (by omega) (by omega) h
              have hj : Z[j]? = some Z[j] := List.getElem?_eq_getElem (by omega)
              rw [hj] at hz; cases hz
              exact bl_ntrans _ _ _ hlt' hp
            · have : j = k := by omega
              subst this
              rw [hZk] at hz; cases hz
              exact hlt'
      obtain ⟨k1, k2⟩ := key Z.length (Nat.le_refl _)
      have hpl := posOf_le x.1 (Z.map (·.1)) Z.length
      rw [show (Z.map (·.1)).length = Z.length by simp]
      generalize posOf x.1 (Z.map (·.1)) Z.length = p at k1 k2 hpl
      unfold putAt
      rw [List.pairwise_append]
      have hbehind : ∀ b ∈ Z.drop p, Op.bytesLess x.1.toList b.1.toList = true := fun b hb => by
        obtain ⟨j, hj⟩ := List.getElem?_of_mem hb
        rw [List.getElem?_drop] at hj
        exact k1 (p + j) b hj (by omega) (List.getElem?_eq_some_iff.1 hj).1
      have hahead : ∀ a ∈ Z.take p, Op.bytesLess x.1.toList a.1.toList = false := fun a ha => by
        obtain ⟨j, hj⟩ := List.getElem?_of_mem ha
        rw [List.getElem?_take] at hj
        split at hj
        · rename_i hjp; exact k2 j a hj hjp
        · cases hj
      refine ⟨h4.sublist (List.take_sublist _ _), List.pairwise_cons.2 ⟨fun b hb => ?_, h4.sublist (List.drop_sublist _ _)⟩, fun a ha b hb => ?_⟩
      · show Op.bytesLess b.1.toList x.1.toList = false
        cases h : Op.bytesLess b.1.toList x.1.toList with
        | false => rfl
        | true =>
          have := bl_trans _ _ _ (hbehind b hb) h
          rw [bl_irrefl] at this; cases this
      · rcases List.mem_cons.1 hb with rfl | hb
        · exact hahead a ha
        · have : Z = Z.take p ++ Z.drop p := (List.take_append_drop _ _).symm
          rw [this, List.pairwise_append] at h4
          exact h4.2.2 a ha b hb
theorem ins_all (P : List FdT) : (insN P).length = P.length ∧ (insS P).length = P.length ∧ ((insN P).zip (insS P)).Perm P ∧ ((insN P).zip (insS P)).Pairwise leF := by
  have := ins_rev P.reverse
  rwa [List.reverse_reverse] at this
theorem insN_len (P : List FdT) : (insN P).length = P.length := (ins_all P).1
theorem insS_len (P : List FdT) : (insS P).length = P.length := (ins_all P).2.1
theorem twice_ins (s : ByteArray) (P : List FdT) : twice s (insN P) = P.any (fun x => x.1.data.toList == s.data.toList) := by
  obtain ⟨h1, h2, h3, -⟩ := ins_all P
  have hn : insN P = ((insN P).zip (insS P)).map (·.1) := by rw [List.map_fst_zip (by omega)]
  unfold twice
  rw [hn, List.any_map]
  exact h3.any_eq
/-- Sorted by names, none of which is there twice: just as they were put. -/
theorem ins_sorted {P Q : List FdT} (hp : Q.Perm P) (hs : Q.Pairwise leF) (hd : (P.map (·.1)).Nodup) : Q.map (·.1) = insN P ∧ Q.map (·.2) = insS P := by
  obtain ⟨h1, h2, h3, h4⟩ := ins_all P
  have e : Q = (insN P).zip (insS P) := by
    refine List.Perm.eq_of_pairwise (le := leF) (fun a b ha hb hab hba => ?_) hs h4 (hp.trans h3.symm)
    have hab' : a.1.toList = b.1.toList := bl_tri _ _ hba hab
    have hn : a.1 = b.1 := by
      have e1 := Lib.toList_data a.1
      have e2 := Lib.toList_data b.1
      rw [e1, e2] at hab'
      have : a.1.data = b.1.data := by apply Array.ext'; exact hab'
      cases ha' : a.1; cases hb' : b.1; rw [ha', hb'] at this; simp at this; rw [this]
    have ma : a ∈ P := hp.subset ha
    have mb : b ∈ P := h3.subset hb
    obtain ⟨i, hi⟩ := List.getElem?_of_mem ma
    obtain ⟨j, hj⟩ := List.getElem?_of_mem mb
    have hij : i = j := by
      have hi' := (List.getElem?_eq_some_iff.1 hi).1
      have hj' := (List.getElem?_eq_some_iff.1 hj).1
      have e1 := (List.getElem?_eq_some_iff.1 hi).2
      have e2 := (List.getElem?_eq_some_iff.1 hj).2
      have hpw := List.pairwise_iff_getElem.1 hd
      rcases Nat.lt_trichotomy i j with h | h | h
      · exact (hpw i j (by simpa using hi') (by simpa using hj') h (by rw [List.getElem_map, List.getElem_map, e1, e2]; exact hn)).elim
      · exact h
      · exact (hpw j i (by simpa using hj') (by simpa using hi') h (by rw [List.getElem_map, List.getElem_map, e1, e2]; exact hn.symm)).elim
    subst hij
    rw [hi] at hj; cases hj; rfl
  rw [e]
  exact ⟨List.map_fst_zip (by omega), List.map_snd_zip (by omega)⟩

/-- A permutation of what a list is turned into. -/
theorem perm_lift {α β : Type} (f : α → β) : ∀ {l : List α} {m : List β}, m.Perm (l.map f) → ∃ k : List α, k.Perm l ∧ k.map f = m := by
  intro l m h
  generalize hx : l.map f = x at h
  induction h generalizing l with
  | nil =>
    have : l = [] := by simpa using hx
    subst this
    exact ⟨[], List.Perm.nil, rfl⟩
  | cons a h ih =>
    cases l with
    | nil => simp at hx
    | cons b l =>
      simp at hx
      obtain ⟨k, hk, hm⟩ := ih hx.2
      exact ⟨b :: k, List.Perm.cons b hk, by simp [hx.1, hm]⟩
  | swap a b t =>
    cases l with
    | nil => simp at hx
    | cons u l =>
      cases l with
      | nil => simp at hx
      | cons v l =>
        simp at hx
        exact ⟨v :: u :: l, List.Perm.swap u v l, by simp [hx.1, hx.2.1, hx.2.2]⟩
  | trans h1 h2 ih1 ih2 =>
    obtain ⟨k, hk, hm⟩ := ih2 hx
    obtain ⟨k', hk', hm'⟩ := ih1 hm
    exact ⟨k', hk'.trans hk, hm'⟩

end Go.Proofs.YtapjhmfbmkckaaaGreatDoor.M

/- The code's fields in memory: names with types, that grow in new memory; whether a name is among them. -/
namespace Go.Proofs.YtapjhmfbmkckaaaGreatDoor
open Go.RowKit
open Go.Sort
open M

/-- A name with a type, as its eight cells are. -/
structure Nv where
  s : ByteArray
  k : Int
  p : ByteArray
  m : Int
  d : ByteArray
  n : ByteArray
  A5 : Option Addr
  n5 : Nat
  c5 : Nat
  A6 : Option Addr
  n6 : Nat
  c6 : Nat
instance : Inhabited Nv := ⟨⟨⟨#[]⟩, 0, ⟨#[]⟩, 0, ⟨#[]⟩, ⟨#[]⟩, none, 0, 0, none, 0, 0⟩⟩
def Nv.ty (x : Nv) : List Value := [.int .i64 x.k, .string x.p, .int .i64 x.m, .string x.d, .string x.n, .slice x.A5 x.n5 x.c5, .slice x.A6 x.n6 x.c6]
def Nv.enc (x : Nv) : List Value := [.string x.s, .int .i64 x.k, .string x.p, .int .i64 x.m, .string x.d, .string x.n, .slice x.A5 x.n5 x.c5, .slice x.A6 x.n6 x.c6]
theorem Nv.len (x : Nv) : x.enc.length = 8 := rfl
theorem Nv.one (x : Nv) : ∀ v ∈ x.enc, v.oneCell' = true := fun v hv => by
  simp [Nv.enc] at hv
  rcases hv with rfl | rfl | rfl | rfl | rfl | rfl | rfl | rfl <;> rfl
abbrev Nt := Nv × Ty
def rowN (P : List Nt) : List Value := (P.map (fun x => x.1.enc)).flatten
theorem rowN_snoc (P : List Nt) (x : Nt) : rowN (P ++ [x]) = rowN P ++ x.1.enc := by unfold rowN; simp
theorem rowN_len : ∀ P : List Nt, (rowN P).length = P.length * 8
  | [] => rfl
  | x :: P => by
    have := rowN_len P
    unfold rowN at this ⊢
    rw [List.map_cons, List.flatten_cons, List.length_append, this, x.1.len, List.length_cons]; omega
theorem rowN_at : ∀ (P : List Nt) (i q : Nat) (x : Nt), P[i]? = some x → q < 8 → (rowN P)[i * 8 + q]? = x.1.enc[q]?
  | [], i, q, x, h, _ => by simp at h
  | y :: P, 0, q, x, h, hq => by
    simp at h; subst h
    unfold rowN
    rw [List.map_cons, List.flatten_cons, List.getElem?_append_left (by rw [y.1.len]; omega)]
    simp
  | y :: P, i + 1, q, x, h, hq => by
    have h' : P[i]? = some x := by simpa using h
    have := rowN_at P i q x h' hq
    unfold rowN at this ⊢
    rw [List.map_cons, List.flatten_cons, List.getElem?_append_right (by rw [y.1.len]; omega), y.1.len, show (i + 1) * 8 + q - 8 = i * 8 + q by omega]
    exact this
/-- What they are to the document: names with types. -/
def fdOf (P : List Nt) : List FdT := P.map (fun x => (x.1.s, x.2))
theorem fdOf_snoc (P : List Nt) (x : Nt) : fdOf (P ++ [x]) = fdOf P ++ [(x.1.s, x.2)] := by unfold fdOf; simp
theorem fdOf_len (P : List Nt) : (fdOf P).length = P.length := by unfold fdOf; simp

/-- Fields that grow in new memory. -/
structure NmR (lo : Nat) (P : List Nt) (n : Nat) (v : Value) (w : World) : Prop where
  len : P.length = n
  own : w.ownsRow lo 62 8 v n (rowN P)
  szs : ∀ x, x ∈ P → x.1.s.size ≤ 281474976710656
  trees : ∀ x, x ∈ P → TyAt (strike (fun b => b < lo ∨ v.ownBlock = some b) w) x.1.ty x.2
theorem NmR.start (lo : Nat) (w : World) : NmR lo [] 0 (.slice none 0 0) w := ⟨rfl, World.ownsRow_nil _ _ _ _, fun x h => by simp at h, fun x h => by simp at h⟩
theorem NmR.keep {lo : Nat} {P : List Nt} {n : Nat} {v : Value} {w w' : World} (h : NmR lo P n v w) (hz : w.heap.size ≤ w'.heap.size) (hb : ∀ b, lo ≤ b → b < w.heap.size → w'.heap[b]? = w.heap[b]?) : NmR lo P n v w' :=
  ⟨h.len, own_from h.own hb, h.szs, fun x hx => (h.trees x hx).move hz fun b hlt hS => ⟨hS, hb b (by
    rcases Nat.lt_or_ge b lo with h | h
    · exact absurd (.inl h) hS
    · exact h) hlt⟩⟩
theorem NmR.lower {lo lo' : Nat} {P : List Nt} {n : Nat} {v : Value} {w : World} (h : NmR lo P n v w) (hl : lo' ≤ lo) : NmR lo' P n v w :=
  ⟨h.len, own_lower h.own hl, h.szs, fun x hx => (h.trees x hx).move (Nat.le_refl _) fun b _ hS => ⟨fun e => hS (by
    rcases e with e | e
    · exact .inl (by omega)
    · exact .inr e), rfl⟩⟩
theorem NmR.first {lo g : Nat} {x : Nt} {w : World} (hlo : lo ≤ g) (hg : w.heap[g]? = some (.cells x.1.enc.toArray 62 (0, 0))) (hs : x.1.s.size ≤ 281474976710656) (hT : TyAt (strike (fun b => b < lo ∨ b = g) w) x.1.ty x.2) :
    NmR lo [x] 1 (.slice (some ⟨g, 0, none⟩) 1 1) w := by
  refine ⟨rfl, ⟨by simp [rowN, x.1.len], .inr ⟨g, 1, x.1.enc.toArray, rfl, hlo, hg, Nat.le_refl _, by decide, by simp [x.1.len], ?_⟩⟩, fun y hy => by simp at hy; subst hy; exact hs, fun y hy => ?_⟩
  · simp [rowN, ← x.1.len]
  · simp at hy; subst hy
    refine TyAt.move hT (Nat.le_refl _) fun b _ hS => ⟨?_, rfl⟩
    rintro (e | e)
    · exact hS (.inl e)
    · simp [Value.ownBlock] at e; exact hS (.inr e.symm)
/-- One more. -/
theorem NmR.moreK {cu r lo g cap n : Nat} {P : List Nt} {v : Value} {w wo w1 w3 : World} {o : Obj} {x : Nt}
    (h : NmR lo P n v w1) (hlo : lo ≤ wo.heap.size) (hwo : ∀ b, v.ownBlock = some b → b < wo.heap.size) (hs : x.1.s.size ≤ 281474976710656)
    (hT : TyAt (strike (· < wo.heap.size) w1) x.1.ty x.2) (hown : w3.ownsRow lo 62 8 (.slice (some ⟨g, 0, none⟩) (n + 1) cap) (n + 1) (rowN P ++ x.1.enc)) (hgrow : (w1.alloc o).grownBy w3 v.ownBlock)
    (hat : v.ownBlock = some g ∨ g = (w1.alloc o).heap.size) (hK : KQ cu r w w1) (hw : w.heap.size ≤ lo) :
    NmR lo (P ++ [x]) (n + 1) (.slice (some ⟨g, 0, none⟩) (n + 1) cap) w3 ∧ KQ cu r w w3 ∧ (∀ b, b < lo → b < w1.heap.size → w3.heap[b]? = w1.heap[b]?) ∧
    (∀ b, (∀ vs fr, w1.heap[b]? ≠ some (Obj.cells vs 62 fr)) → b < w1.heap.size → w3.heap[b]? = w1.heap[b]?) ∧ w1.heap.size ≤ w3.heap.size := by
  have hlow : ∀ b, v.ownBlock = some b → lo ≤ b := fun b e => (h.own.lt b e).1
  have hsz : (w1.alloc o).heap.size = w1.heap.size + 1 := by simp
  have hsz3 := hgrow.size
  have hold : ∀ b, b < w1.heap.size → v.ownBlock ≠ some b → w3.heap[b]? = w1.heap[b]? := fun b hb hne => by
    rw [hgrow.block b (by omega) (fun e => hne e.symm)]
    exact Lib.alloc_old w1 o b hb
  have mv : ∀ l t, TyAt (strike (fun b => b < lo ∨ v.ownBlock = some b) w1) l t → TyAt (strike (fun b => b < lo ∨ (Value.slice (some ⟨g, 0, none⟩) (n + 1) cap).ownBlock = some b) w3) l t := fun l t hT => by
    refine TyAt.move hT (by omega) fun b hb hS => ⟨?_, hold b hb (fun e => hS (.inr e))⟩
    rintro (e | e)
    · exact hS (.inl e)
    · simp [Value.ownBlock] at e
      subst e
      rcases hat with e | e
      · exact hS (.inr e)
      · omega
  refine ⟨⟨by simp [h.len], by rw [rowN_snoc]; exact hown, fun y hy => ?_, fun y hy => mv _ _ ?_⟩, (hK.alloc o).grow hgrow fun b e => by have := hlow b e; omega, fun b hb hlt => hold b hlt (fun e => by have := hlow b e; omega), fun b hb hlt => hold b hlt (fun e => ?_), by omega⟩
  · rcases List.mem_append.1 hy with hy | hy
    · exact h.szs y hy
    · rw [List.mem_singleton.1 hy]; exact hs
  · rcases List.mem_append.1 hy with hy | hy
    · exact h.trees y hy
    · rw [List.mem_singleton.1 hy]
      refine TyAt.move hT (Nat.le_refl _) fun b hlt hS => ⟨?_, rfl⟩
      rintro (e | e)
      · omega
      · have := hwo b e; omega
  · rcases h.own.2 with ⟨e1, -⟩ | ⟨g6, cap6, cur6, hv, -, hg6, -⟩
    · rw [e1] at e; simp [Value.ownBlock] at e
    · rw [hv] at e; simp [Value.ownBlock] at e
      subst e
      exact hb _ _ hg6
/-- Where its cells lie. -/
theorem NmR.cell {lo : Nat} {P : List Nt} {n : Nat} {v : Value} {w : World} (h : NmR lo P n v w) : ∃ A cap, v = .slice A n cap ∧
    ∀ k x, P[k]? = some x → ∃ g, A = some ⟨g, 0, none⟩ ∧ lo ≤ g ∧ g < w.heap.size ∧ ∀ q u, x.1.enc[q]? = some u → w.cell? ⟨g, 0 + k * 8 + q, none⟩ = some u := by
  have hl := h.len
  rcases h.own.2 with ⟨rfl, h0⟩ | ⟨g, cap, cur, rfl, hB, hg, hnc, hcm, hcs, htake⟩
  · subst h0
    exact ⟨none, 0, rfl, fun k x hx => by have := (List.getElem?_eq_some_iff.1 hx).1; omega⟩
  · refine ⟨_, _, rfl, fun k x hx => ⟨g, rfl, hB, (Array.getElem?_eq_some_iff.1 hg).1, fun q u hu => ?_⟩⟩
    have hk := (List.getElem?_eq_some_iff.1 hx).1
    have hq : q < 8 := by have := (List.getElem?_eq_some_iff.1 hu).1; rwa [x.1.len] at this
    rw [Lib.cell_of_heap hg, ← Array.getElem?_toList]
    have e2 := rowN_at P k q x hx hq
    rw [← htake, List.getElem?_take] at e2
    split at e2
    · rw [show 0 + k * 8 + q = k * 8 + q by omega, e2]; exact hu
    · rename_i hn; omega

end Go.Proofs.YtapjhmfbmkckaaaGreatDoor

/- The code's field: a name and its type. -/
namespace Go.Proofs.YtapjhmfbmkckaaaGreatDoor
open Go.RowKit
open Go.Sort
open M

/-- What a field tells, behind those of these names. -/
def fieldR (S : Toks) (k : Int) (g d i c : Nat) (ns : List ByteArray) : Res FdT :=
  if S.nameOk k i = false then .err 2 i else if 20 ≤ ns.length then .err 3 i else if twice (S.T i) ns = true then .err 5 i
  else if S.sign (i + 1) [58] = false then .err 2 (i + 1) else match pT S g (d + 1) (i + 2) c with
    | .err b j => .err b j
    | .ok s j c' => .ok (S.T i, s) j c'
theorem name_lt {S : Toks} {k : Int} {i : Nat} (h : S.nameOk k i = true) : i < S.n := by
  unfold Toks.nameOk at h
  by_cases hk : k = 5
  · rw [if_pos hk] at h; exact small_lt h
  · rw [if_neg hk] at h; exact great_lt h

/-- What is so at the colon. -/
structure FdAt (S : Toks) (k : Int) (i b n : Nat) (ns : List ByteArray) (q1 tw : Bool) (b3 : Nat) (s : ByteArray) (i4 b4 i5 b5 : Nat) : Prop where
  len : ns.length = n
  is : b = 0 → q1 = S.nameOk k i
  two : b = 0 → i < S.n → tw = twice (S.T i) ns
  must : b3 = mustB (mustB (mustB b q1 2) (decide ((n : Int) < 20)) 3) (!tw) 5
  word : NameOut S (S.nameOk k i) i b3 s i4 b4
  i5e : psI b4 (S.sign i4 [58]) i4 = i5
  b5e : psB b4 (S.sign i4 [58]) = b5
theorem FdAt.no {S : Toks} {k : Int} {i b n g d c : Nat} {ns : List ByteArray} {q1 tw : Bool} {b3 : Nat} {s : ByteArray} {i4 b4 i5 b5 : Nat} (h : FdAt S k i b n ns q1 tw b3 s i4 b4 i5 b5) (hb : b5 ≠ 0) : badR b i (fieldR S k g d i c ns) = .err b5 i5 := by
  have stuck : b3 ≠ 0 → b5 = b3 ∧ i5 = i := fun h3 => by
    rcases h.word with ⟨e, -⟩ | ⟨e, -⟩ | ⟨-, e1, e2⟩
    · exact absurd e h3
    · exact absurd e h3
    · subst e1 e2
      refine ⟨?_, ?_⟩
      · rw [← h.b5e, psB_bad _ h3]
      · rw [← h.i5e, psI_bad _ _ h3]
  by_cases hb0 : b = 0
  rotate_left
  · have : b3 = b := by rw [h.must, mustB_bad _ _ hb0, mustB_bad _ _ hb0, mustB_bad _ _ hb0]
    obtain ⟨e1, e2⟩ := stuck (by omega)
    rw [badR_ne _ _ hb0, e1, e2, this]
  subst hb0
  rw [badR_0]
  have h1 := h.is rfl
  have hm := h.must
  unfold fieldR
  cases hn : S.nameOk k i with
  | false =>
    rw [h1, hn, mustB_no, mustB_bad (b := 2) (decide ((n : Int) < 20)) 3 (by decide), mustB_bad (b := 2) (!tw) 5 (by decide)] at hm
    obtain ⟨e1, e2⟩ := stuck (by omega)
    rw [if_pos rfl, e1, e2, hm]
  | true =>
    rw [h1, hn, mustB_yes] at hm
    rw [if_neg (by decide)]
    by_cases h20 : 20 ≤ ns.length
    · have : decide ((n : Int) < 20) = false := by have := h.len; simp; omega
      rw [this, mustB_no, mustB_bad _ _ (by decide)] at hm
      obtain ⟨e1, e2⟩ := stuck (by omega)
      rw [if_pos h20, e1, e2, hm]
    · have : decide ((n : Int) < 20) = true := by have := h.len; simp; omega
      rw [this, mustB_yes] at hm
      rw [if_neg h20]
      have ht := h.two rfl (name_lt hn)
      rw [← ht]
      cases tw with
      | true =>
        have hm5 : b3 = 5 := hm
        obtain ⟨e1, e2⟩ := stuck (by omega)
        rw [if_pos rfl, e1, e2, hm5]
      | false =>
        have hm0 : b3 = 0 := hm
        rw [if_neg (by decide)]
        rcases h.word with ⟨-, -, -, rfl, rfl⟩ | ⟨-, e, -⟩ | ⟨e, -⟩
        · cases hs : S.sign (i + 1) [58] with
          | true => have := h.b5e; rw [hs] at this; exact absurd this.symm hb
          | false =>
            have e1 := h.b5e
            have e2 := h.i5e
            rw [hs] at e1 e2
            rw [if_pos rfl, ← e1, ← e2]
            rfl
        · rw [hn] at e; cases e
        · exact absurd hm0 e
theorem FdAt.yes {S : Toks} {k : Int} {i b n g d c : Nat} {ns : List ByteArray} {q1 tw : Bool} {b3 : Nat} {s : ByteArray} {i4 b4 i5 b5 : Nat} (h : FdAt S k i b n ns q1 tw b3 s i4 b4 i5 b5) (hb : b5 = 0) :
    b = 0 ∧ n < 20 ∧ s = S.T i ∧ i5 = i + 2 ∧ i + 1 < S.n ∧ twice (S.T i) ns = false ∧ S.nameOk k i = true ∧ badR b i (fieldR S k g d i c ns) = (match pT S g (d + 1) i5 c with
    | .err b j => .err b j
    | .ok t j c' => .ok (s, t) j c') := by
  have hb4 : b4 = 0 := psB_0 (h.b5e.trans hb)
  have hb3 : b3 = 0 := by
    rcases h.word with ⟨e, -⟩ | ⟨e, -⟩ | ⟨-, -, e⟩
    · exact e
    · exact e
    · omega
  have hm := h.must
  rw [hb3] at hm
  have m2 := mustB_0 (by decide) hm.symm
  have m1 := mustB_0 (by decide) m2
  have m0 := mustB_0 (by decide) m1
  subst m0
  rw [m2] at hm
  have htw : tw = false := by
    cases tw with
    | false => rfl
    | true => cases hm
  have hq : q1 = true := by
    cases q1 with
    | true => rfl
    | false => cases m1
  have h20 : n < 20 := by
    rw [m1] at m2
    by_cases e : (n : Int) < 20
    · omega
    · have : decide ((n : Int) < 20) = false := by simpa using e
      rw [this] at m2; cases m2
  have hn : S.nameOk k i = true := by rw [← h.is rfl]; exact hq
  have htf : twice (S.T i) ns = false := by rw [← h.two rfl (name_lt hn)]; exact htw
  rcases h.word with ⟨-, -, rfl, rfl, -⟩ | ⟨-, e, -⟩ | ⟨e, -⟩
  rotate_left
  · rw [hn] at e; cases e
  · exact absurd hb3 e
  have hs : S.sign (i + 1) [58] = true := by
    cases hs : S.sign (i + 1) [58] with
    | true => rfl
    | false =>
      have e1 := h.b5e
      rw [hs, hb4] at e1
      have : (2 : Nat) = b5 := e1
      omega
  have hi5 : i5 = i + 2 := by
    have e2 := h.i5e
    rw [hs, hb4] at e2
    exact e2.symm
  subst hi5
  refine ⟨rfl, h20, rfl, rfl, sign_lt hs, htf, hn, ?_⟩
  rw [badR_0]
  unfold fieldR
  rw [if_neg (by rw [hn]; decide), if_neg (by have := h.len; omega), if_neg (by rw [htf]; decide), if_neg (by rw [hs]; decide)]
theorem FdAt.res {S : Toks} {k : Int} {i b n g d c : Nat} {ns : List ByteArray} {q1 tw : Bool} {b3 : Nat} {s : ByteArray} {i4 b4 i5 b5 b6 i6 c6 : Nat} {t : Ty} (h : FdAt S k i b n ns q1 tw b3 s i4 b4 i5 b5)
    (hr : badR b6 i6 (.ok t i6 c6) = badR b5 i5 (oneR S g d i5 c n)) : badR b6 i6 (.ok (s, t) i6 c6) = badR b i (fieldR S k g d i c ns) := by
  by_cases hb : b5 = 0
  · obtain ⟨rfl, h20, -, -, -, -, -, he⟩ := h.yes (g := g) (d := d) (c := c) hb
    rw [he]
    rw [hb, badR_0] at hr
    unfold oneR at hr
    rw [if_neg (fun x => by omega)] at hr
    rw [← hr]
    by_cases h6 : b6 = 0
    · subst h6; rfl
    · rw [badR_ne _ _ h6, badR_ne _ _ h6]
  · rw [h.no hb]
    rw [badR_ne _ _ hb] at hr
    by_cases h6 : b6 = 0
    · subst h6; cases hr
    · rw [badR_ne _ _ h6] at hr ⊢
      cases hr; rfl
theorem FdAt.hne {S : Toks} {k : Int} {i b n g d c : Nat} {ns : List ByteArray} {q1 tw : Bool} {b3 : Nat} {s : ByteArray} {i4 b4 i5 b5 : Nat} (h : FdAt S k i b n ns q1 tw b3 s i4 b4 i5 b5)
    (hne : b = 0 → ∀ j, fieldR S k g d i c ns ≠ .err 99 j) (hb : b5 = 0) : ∀ j, oneR S g d i5 c n ≠ .err 99 j := fun j e => by
  obtain ⟨rfl, h20, -, -, -, -, -, he⟩ := h.yes (g := g) (d := d) (c := c) hb
  rw [badR_0] at he
  unfold oneR at e
  rw [if_neg (fun x => by omega)] at e
  rw [e] at he
  exact hne rfl j he

theorem nmSize : (Tryz.prog.info? 62).map (·.size) = some 8 := by kernel_rfl
theorem nmOne {s : ByteArray} {k m : Int} {p d n : ByteArray} {A5 A6 : Option Addr} {n5 c5 n6 c6 : Nat} : (#[.string s, .int .i64 k, .string p, .int .i64 m, .string d, .string n, .slice A5 n5 c5, .slice A6 n6 c6] : Array Value).all (·.oneCell') = true := Array.all_eq_true_iff_forall_mem.2 (fun v hv => by simp at hv; rcases hv with rfl | rfl | rfl | rfl | rfl | rfl | rfl | rfl <;> rfl)
theorem cell8 {w : World} {b : Nat} {v0 v1 v2 v3 v4 v5 v6 v7 : Value} {T : TypeId} {fr : Nat × Nat} (h : w.heap[b]? = some (.cells #[v0, v1, v2, v3, v4, v5, v6, v7] T fr)) : ∀ i v, ([v0, v1, v2, v3, v4, v5, v6, v7] : List Value)[i]? = some v → w.cell? ⟨b, i, none⟩ = some v := fun i v hv => by
  rw [Lib.cell_of_heap h, ← hv, ← List.getElem?_toArray]

end Go.Proofs.YtapjhmfbmkckaaaGreatDoor

/- The code's fields: names with types, one behind another. -/
namespace Go.Proofs.YtapjhmfbmkckaaaGreatDoor
open Go.RowKit
open Go.Sort
open M

theorem nm_info : (Tryz.prog.info? 62).map (fun i => (i.zero, i.size, i.bytes)) = some (some (.agg #[.string ⟨#[]⟩, .int .i64 0, .string ⟨#[]⟩, .int .i64 0, .string ⟨#[]⟩, .string ⟨#[]⟩, .slice none 0 0, .slice none 0 0]), 8, 128) := by kernel_rfl
theorem field_ok {S : Toks} {k : Int} {g d i c j c' : Nat} {ns : List ByteArray} {s : ByteArray} {t : Ty} (h : fieldR S k g d i c ns = .ok (s, t) j c') : ns.length < 20 ∧ twice (S.T i) ns = false ∧ s = S.T i ∧ i < j ∧ i < S.n := by
  unfold fieldR at h
  split at h
  · cases h
  rename_i hn
  split at h
  · cases h
  rename_i h20
  split at h
  · cases h
  rename_i ht
  split at h
  · cases h
  have hf := (fw_all S g).1 (d + 1) (i + 2) c
  cases e : pT S g (d + 1) (i + 2) c with
  | err b q => rw [e] at h; cases h
  | ok u q cq =>
    rw [e] at h hf
    cases h
    have hf' : i + 2 < j := hf
    exact ⟨by omega, by simpa using ht, rfl, by omega, name_lt (by simpa using hn)⟩
/-- What stands behind a field. -/
def contP (S : Toks) (k : Int) (z : List UInt8) (g d i c : Nat) (P : List FdT) : Res Ty :=
  if S.sign i z = true then .ok (Ty.mk k ⟨#[]⟩ 0 ⟨#[]⟩ ⟨#[]⟩ (insN P) (insS P)) (i + 1) c else if S.sign i [44] = false then .err 2 i else pParts S k z g d (i + 1) c (insN P) (insS P)
/-- What stands behind the last one. -/
def shutP (S : Toks) (k : Int) (z : List UInt8) (i c : Nat) (P : List FdT) : Res Ty := if S.sign i z = true then .ok (Ty.mk k ⟨#[]⟩ 0 ⟨#[]⟩ ⟨#[]⟩ (insN P) (insS P)) (i + 1) c else .err 2 i
theorem parts_field (S : Toks) (k : Int) (z : List UInt8) (g d i c : Nat) (P : List FdT) : pParts S k z (g + 1) d i c (insN P) (insS P) = match fieldR S k g d i c (insN P) with
    | .err b j => .err b j
    | .ok x j c' => contP S k z g d j c' (P ++ [x]) := by
  rw [parts_eq]
  unfold fieldR behindR
  split
  · rfl
  split
  · rfl
  split
  · rfl
  split
  · rfl
  cases pT S g (d + 1) (i + 2) c with
  | err b j => rfl
  | ok s j c' =>
    show (if _ then _ else _) = contP S k z g d j c' (P ++ [(S.T i, s)])
    unfold contP
    rw [insN_snoc, insS_snoc]
theorem parts_cont {S : Toks} {k : Int} {z : List UInt8} {g d i c b2 i2 c2 : Nat} {P : List FdT} {x : FdT} (h : fieldR S k g d i c (insN P) = badR b2 i2 (.ok x i2 c2)) :
    pParts S k z (g + 1) d i c (insN P) (insS P) = badR b2 i2 (contP S k z g d i2 c2 (P ++ [x])) := by
  rw [parts_field, h]
  by_cases hb : b2 = 0
  · subst hb; rfl
  · rw [badR_ne _ _ hb, badR_ne _ _ hb]
theorem contP_no {S : Toks} {k : Int} {z : List UInt8} {g d i c b : Nat} {P : List FdT} (h : (decide (b = 0) && S.sign i [44]) = false) : badR b i (contP S k z g d i c P) = badR b i (shutP S k z i c P) := by
  by_cases hb : b = 0
  · subst hb
    have h4 : S.sign i [44] = false := by simpa using h
    unfold contP shutP
    rw [if_pos h4]
  · exact badR_bad hb
theorem contP_yes {S : Toks} {k : Int} {z : List UInt8} {g d i c b : Nat} {P : List FdT} (hz : z ≠ [44]) (h : (decide (b = 0) && S.sign i [44]) = true) : b = 0 ∧ S.sign i [44] = true ∧ badR b i (contP S k z g d i c P) = pParts S k z g d (i + 1) c (insN P) (insS P) := by
  simp at h
  obtain ⟨rfl, h4⟩ := h
  refine ⟨rfl, h4, ?_⟩
  rw [badR_0]
  unfold contP
  rw [if_neg (by rw [sign_one h4 hz.symm]; decide), if_neg (by rw [h4]; decide)]
theorem shutP_res {S : Toks} {k : Int} {z : List UInt8} {i c b : Nat} {P : List FdT} : badR b i (shutP S k z i c P) = badR (psB b (S.sign i z)) (psI b (S.sign i z) i) (.ok (Ty.mk k ⟨#[]⟩ 0 ⟨#[]⟩ ⟨#[]⟩ (insN P) (insS P)) (psI b (S.sign i z) i) c) := by
  rw [sign_res (S.sign i z) b i (fun j => Res.ok (Ty.mk k ⟨#[]⟩ 0 ⟨#[]⟩ ⟨#[]⟩ (insN P) (insS P)) j c)]
  unfold shutP
  by_cases h : S.sign i z = true
  · rw [if_pos h, if_neg (by rw [h]; decide)]
  · rw [if_neg h, if_pos (by simpa using h)]
theorem any_fd (P : List Nt) (s : ByteArray) : P.any (fun x => x.1.s.data.toList == s.data.toList) = twice s (insN (fdOf P)) := by
  rw [twice_ins]
  unfold fdOf
  rw [List.any_map]
  rfl
theorem nodup_snoc {P : List Nt} {x : Nt} (h : ((fdOf P).map (·.1)).Nodup) (ht : twice x.1.s (insN (fdOf P)) = false) : ((fdOf (P ++ [x])).map (·.1)).Nodup := by
  rw [fdOf_snoc, List.map_append]
  refine List.nodup_append.2 ⟨h, by simp, fun a ha b hb e => ?_⟩
  subst e
  simp at hb
  rw [twice_ins, List.any_eq_false] at ht
  obtain ⟨y, hy, rfl⟩ := List.mem_map.1 ha
  refine ht y hy ?_
  rw [hb]; simp

end Go.Proofs.YtapjhmfbmkckaaaGreatDoor

/- Nothing of slices.SortFunc: this translation has none. -/
namespace Go.Proofs.YtapjhmfbmkckaaaGreatDoor
end Go.Proofs.YtapjhmfbmkckaaaGreatDoor

/- The code's sort of names with types. -/
namespace Go.Proofs.YtapjhmfbmkckaaaGreatDoor
open Go.RowKit
open Go.Sort
open M

theorem cmp_less : ∀ a b : List UInt8, decide (Lib.compareBytes a b < 0) = Op.bytesLess a b
  | [], [] => rfl
  | [], _ :: _ => rfl
  | _ :: _, [] => rfl
  | a :: ar, b :: br => by
    have ih := cmp_less ar br
    unfold Lib.compareBytes Op.bytesLess
    by_cases h1 : a < b
    · simp [h1]
    · rw [if_neg h1]
      by_cases h2 : b < a
      · rw [if_pos h2]
        have hne : a ≠ b := fun e => by subst e; exact h1 h2
        simp [h1, hne]
      · rw [if_neg h2]
        have e : a = b := UInt8.le_antisymm (UInt8.not_lt.1 h2) (UInt8.not_lt.1 h1)
        subst e
        simpa using ih
def cmpN (x y : Nv) : Int := Lib.compareBytes x.s.data.toList y.s.data.toList
theorem ltN (x y : Nv) : ltOf cmpN x y = Op.bytesLess x.s.toList y.s.toList := by
  unfold ltOf cmpN
  rw [cmp_less, Lib.toList_data, Lib.toList_data]
theorem swoN : SWO (ltOf cmpN) where
  irrefl x := by rw [ltN]; exact bl_irrefl _
  trans x y z h1 h2 := by rw [ltN] at *; exact bl_trans _ _ _ h1 h2
  ntrans x y z h1 h2 := by rw [ltN] at *; exact bl_ntrans _ _ _ h1 h2

theorem grown_sortedN {w : World} {g n : Nat} {os : Array Obj} (d : Array Nv) : w.grownBy (sortWorldK Nv.enc 8 w g 0 n d os) (some g) := by
  unfold sortWorldK putRowK
  refine ⟨rfl, rfl, rfl, by simp, fun k hk hne => ?_⟩
  rw [heap_grow_old _ _ (by simpa using hk)]
  have : g ≠ k := fun e => hne (by rw [e])
  simp [putRow, mapBlock, Sort.ahead, Array.getElem?_modify, this]

end Go.Proofs.YtapjhmfbmkckaaaGreatDoor

/- The code's type of fields. -/
namespace Go.Proofs.YtapjhmfbmkckaaaGreatDoor
open Go.RowKit
open Go.Sort
open M

/-- While the code makes a type of fields: so many names, so many types. -/
structure OfI (w : World) (B g : Nat) (k : Int) (P : List Nt) (j5 j6 : Nat) (A5 : Option Addr) (c5 : Nat) (A6 : Option Addr) (c6 : Nat) (wr : World) : Prop where
  gr : w.grownBy wr (some g)
  row : ∀ i x, P[i]? = some x → ∀ q u, x.1.enc[q]? = some u → wr.cell? ⟨g, 0 + i * 8 + q, none⟩ = some u
  box : wr.heap[B]? = some (.cells #[.int .i64 k, .string ⟨#[]⟩, .int .i64 0, .string ⟨#[]⟩, .string ⟨#[]⟩, .slice A5 j5 c5, .slice A6 j6 c6] 29 (0, 0))
  res : Bx w.heap.size wr
  names : wr.ownsRow (B + 1) 9 1 (.slice A5 j5 c5) j5 ((P.take j5).map fun x => .string x.1.s)
  subs : wr.ownsRow (B + 1) 29 7 (.slice A6 j6 c6) j6 ((P.take j6).map fun x => x.1.ty).flatten
  apart : ∀ b, (Value.slice A5 j5 c5).ownBlock = some b → (Value.slice A6 j6 c6).ownBlock ≠ some b
  gB : g < w.heap.size ∧ w.heap.size < B

theorem OfI.keep {w : World} {B g : Nat} {k : Int} {P : List Nt} {j5 j6 : Nat} {A5 : Option Addr} {c5 : Nat} {A6 : Option Addr} {c6 : Nat} {wr wf : World} (h : OfI w B g k P j5 j6 A5 c5 A6 c6 wr) (hb : Below wr.heap.size wr wf) : OfI w B g k P j5 j6 A5 c5 A6 c6 wf := by
  have hB := (Array.getElem?_eq_some_iff.1 h.box).1
  have hgB := h.gB
  exact ⟨⟨hb.os.trans h.gr.os, hb.tape.trans h.gr.tape, hb.output.trans h.gr.output, Nat.le_trans h.gr.size hb.size, fun b hlt hne => (hb.block b (Nat.lt_of_lt_of_le hlt h.gr.size)).trans (h.gr.block b hlt hne)⟩,
    fun i x hx q u hu => (hb.cell (p := ⟨g, _, none⟩) (by show g < wr.heap.size; omega)).trans (h.row i x hx q u hu), (hb.block B hB).trans h.box, (hb.block _ (by omega)).trans h.res,
    own_from h.names (fun b _ hlt => hb.block b hlt), own_from h.subs (fun b _ hlt => hb.block b hlt), h.apart, h.gB⟩

theorem OfI.addName {w : World} {B g : Nat} {k : Int} {P : List Nt} {j5 j6 : Nat} {A5 : Option Addr} {c5 : Nat} {A6 : Option Addr} {c6 : Nat} {wf w5 : World} {o : Obj} {gb cap : Nat} {x : Nt} (h : OfI w B g k P j5 j6 A5 c5 A6 c6 wf) (hx : P[j5]? = some x)
    (hown : w5.ownsRow (B + 1) 9 1 (.slice (some ⟨gb, 0, none⟩) (j5 + 1) cap) (j5 + 1) (((P.take j5).map fun x => .string x.1.s) ++ [.string x.1.s])) (hgrow : (wf.alloc o).grownBy w5 (Value.slice A5 j5 c5).ownBlock)
    (hat : (Value.slice A5 j5 c5).ownBlock = some gb ∨ gb = (wf.alloc o).heap.size) :
    OfI w B g k P (j5 + 1) j6 (some ⟨gb, 0, none⟩) cap A6 c6 (w5.setCell ⟨B, 5, none⟩ (.slice (some ⟨gb, 0, none⟩) (j5 + 1) cap)) ∧
    (∀ b, b < wf.heap.size → b ≠ B → (Value.slice A5 j5 c5).ownBlock ≠ some b → (w5.setCell ⟨B, 5, none⟩ (.slice (some ⟨gb, 0, none⟩) (j5 + 1) cap)).heap[b]? = wf.heap[b]?) ∧
    w5.cell? ⟨B, 5, none⟩ = some (.slice A5 j5 c5) ∧ w5.frozen? ⟨B, 5, none⟩ = false := by
  have hB := (Array.getElem?_eq_some_iff.1 h.box).1
  obtain ⟨hg1, hg2⟩ := h.gB
  have hsz : (wf.alloc o).heap.size = wf.heap.size + 1 := by simp
  have hsz5 := hgrow.size
  have hlow : ∀ b, (Value.slice A5 j5 c5).ownBlock = some b → B + 1 ≤ b ∧ b < wf.heap.size := fun b e => h.names.lt b e
  have hold : ∀ b, b < wf.heap.size → (Value.slice A5 j5 c5).ownBlock ≠ some b → w5.heap[b]? = wf.heap[b]? := fun b hb hne => by
    rw [hgrow.block b (by omega) (fun e => hne e.symm)]
    exact Lib.alloc_old wf o b hb
  have hfar : ∀ b, b ≠ B → (w5.setCell ⟨B, 5, none⟩ (.slice (some ⟨gb, 0, none⟩) (j5 + 1) cap)).heap[b]? = w5.heap[b]? := fun b hb => Below.heap_setCell _ _ _ _ hb
  have hboth : ∀ b, b < wf.heap.size → b ≠ B → (Value.slice A5 j5 c5).ownBlock ≠ some b → (w5.setCell ⟨B, 5, none⟩ (.slice (some ⟨gb, 0, none⟩) (j5 + 1) cap)).heap[b]? = wf.heap[b]? := fun b hb h1 h2 => (hfar b h1).trans (hold b hb h2)
  have hlowB : ∀ b, b ≤ B → (Value.slice A5 j5 c5).ownBlock ≠ some b := fun b hb e => by have := hlow b e; omega
  have hbox5 := (hold B hB (hlowB B (Nat.le_refl _))).trans h.box
  refine ⟨⟨⟨?_, ?_, ?_, ?_, ?_⟩, ?_, ?_, ?_, ?_, ?_, ?_, h.gB⟩, hboth, Lib.cell_of_heap hbox5 5, Lib.frozen_of_heap hbox5 5⟩
  · exact hgrow.os.trans h.gr.os
  · exact hgrow.tape.trans h.gr.tape
  · exact hgrow.output.trans h.gr.output
  · have := h.gr.size; simp; omega
  · intro b hlt hne
    have := h.gr.size
    exact (hboth b (by omega) (by omega) (hlowB b (by omega))).trans (h.gr.block b hlt hne)
  · intro i y hy q u hu
    rw [World.cell?_of_block (w := wf) (a := ⟨g, _, none⟩) (hboth g (by omega) (by omega) (hlowB g (by omega)))]
    exact h.row i y hy q u hu
  · have := Joins.block_setCell (i := 5) hbox5 (.slice (some ⟨gb, 0, none⟩) (j5 + 1) cap); simpa using this
  · exact (hboth _ (by omega) (by omega) (hlowB _ (by omega))).trans h.res
  · have e : (P.take (j5 + 1)).map (fun x => Value.string x.1.s) = ((P.take j5).map fun x => .string x.1.s) ++ [.string x.1.s] := by
      have hj := (List.getElem?_eq_some_iff.1 hx)
      rw [List.take_add_one, hx]; simp
    rw [e]
    refine own_from hown fun b hb hlt => hfar b (by omega)
  · refine ⟨h.subs.1, ?_⟩
    rcases h.subs.2 with e | ⟨g6, cap6, cur6, hv, hB6, hg6, rest⟩
    · exact .inl e
    · refine .inr ⟨g6, cap6, cur6, hv, hB6, (hboth g6 (Array.getElem?_eq_some_iff.1 hg6).1 (by omega) fun e => ?_).trans hg6, rest⟩
      exact h.apart g6 e (by rw [hv]; rfl)
  · intro b hb
    simp [Value.ownBlock] at hb
    subst hb
    rcases hat with e | e
    · exact h.apart gb e
    · intro e2
      have := (h.subs.lt gb e2).2
      omega
theorem OfI.addSub {w : World} {B g : Nat} {k : Int} {P : List Nt} {j5 j6 : Nat} {A5 : Option Addr} {c5 : Nat} {A6 : Option Addr} {c6 : Nat} {wf w5 : World} {o : Obj} {gb cap : Nat} {x : Nt} (h : OfI w B g k P j5 j6 A5 c5 A6 c6 wf) (hx : P[j6]? = some x)
    (hown : w5.ownsRow (B + 1) 29 7 (.slice (some ⟨gb, 0, none⟩) (j6 + 1) cap) (j6 + 1) (((P.take j6).map fun x => x.1.ty).flatten ++ x.1.ty)) (hgrow : (wf.alloc o).grownBy w5 (Value.slice A6 j6 c6).ownBlock)
    (hat : (Value.slice A6 j6 c6).ownBlock = some gb ∨ gb = (wf.alloc o).heap.size) :
    OfI w B g k P j5 (j6 + 1) A5 c5 (some ⟨gb, 0, none⟩) cap (w5.setCell ⟨B, 6, none⟩ (.slice (some ⟨gb, 0, none⟩) (j6 + 1) cap)) ∧
    w5.cell? ⟨B, 6, none⟩ = some (.slice A6 j6 c6) ∧ w5.frozen? ⟨B, 6, none⟩ = false := by
  have hB := (Array.getElem?_eq_some_iff.1 h.box).1
  obtain ⟨hg1, hg2⟩ := h.gB
  have hsz : (wf.alloc o).heap.size = wf.heap.size + 1 := by simp
  have hsz5 := hgrow.size
  have hlow : ∀ b, (Value.slice A6 j6 c6).ownBlock = some b → B + 1 ≤ b ∧ b < wf.heap.size := fun b e => h.subs.lt b e
  have hold : ∀ b, b < wf.heap.size → (Value.slice A6 j6 c6).ownBlock ≠ some b → w5.heap[b]? = wf.heap[b]? := fun b hb hne => by
    rw [hgrow.block b (by omega) (fun e => hne e.symm)]
    exact Lib.alloc_old wf o b hb
  have hfar : ∀ b, b ≠ B → (w5.setCell ⟨B, 6, none⟩ (.slice (some ⟨gb, 0, none⟩) (j6 + 1) cap)).heap[b]? = w5.heap[b]? := fun b hb => Below.heap_setCell _ _ _ _ hb
  have hboth : ∀ b, b < wf.heap.size → b ≠ B → (Value.slice A6 j6 c6).ownBlock ≠ some b → (w5.setCell ⟨B, 6, none⟩ (.slice (some ⟨gb, 0, none⟩) (j6 + 1) cap)).heap[b]? = wf.heap[b]? := fun b hb h1 h2 => (hfar b h1).trans (hold b hb h2)
  have hlowB : ∀ b, b ≤ B → (Value.slice A6 j6 c6).ownBlock ≠ some b := fun b hb e => by have := hlow b e; omega
  have hbox5 := (hold B hB (hlowB B (Nat.le_refl _))).trans h.box
  refine ⟨⟨⟨?_, ?_, ?_, ?_, ?_⟩, ?_, ?_, ?_, ?_, ?_, ?_, h.gB⟩, Lib.cell_of_heap hbox5 6, Lib.frozen_of_heap hbox5 6⟩
  · exact hgrow.os.trans h.gr.os
  · exact hgrow.tape.trans h.gr.tape
  · exact hgrow.output.trans h.gr.output
  · have := h.gr.size; simp; omega
  · intro b hlt hne
    have := h.gr.size
    exact (hboth b (by omega) (by omega) (hlowB b (by omega))).trans (h.gr.block b hlt hne)
  · intro i y hy q u hu
    rw [World.cell?_of_block (w := wf) (a := ⟨g, _, none⟩) (hboth g (by omega) (by omega) (hlowB g (by omega)))]
    exact h.row i y hy q u hu
  · have := Joins.block_setCell (i := 6) hbox5 (.slice (some ⟨gb, 0, none⟩) (j6 + 1) cap); simpa using this
  · exact (hboth _ (by omega) (by omega) (hlowB _ (by omega))).trans h.res
  · refine ⟨h.names.1, ?_⟩
    rcases h.names.2 with e | ⟨g6, cap6, cur6, hv, hB6, hg6, rest⟩
    · exact .inl e
    · refine .inr ⟨g6, cap6, cur6, hv, hB6, (hboth g6 (Array.getElem?_eq_some_iff.1 hg6).1 (by omega) fun e => ?_).trans hg6, rest⟩
      exact h.apart g6 (by rw [hv]; rfl) e
  · have e : ((P.take (j6 + 1)).map (fun x => x.1.ty)).flatten = ((P.take j6).map fun x => x.1.ty).flatten ++ x.1.ty := by
      rw [List.take_add_one, hx]; simp
    rw [e]
    refine own_from hown fun b hb hlt => hfar b (by omega)
  · intro b hb e
    simp [Value.ownBlock] at e
    subst e
    rcases hat with e | e
    · exact h.apart gb hb e
    · have := (h.names.lt gb hb).2
      omega
/-- All of them: the type, in the result's box. -/
theorem OfI.seal {w : World} {B g lo n cap : Nat} {k : Int} {P P' : List Nt} {A5 : Option Addr} {c5 : Nat} {A6 : Option Addr} {c6 : Nat} {wr : World} (h : OfI w B g k P' n n A5 c5 A6 c6 wr) (hp : P'.Perm P) (hR : NmR lo P n (.slice (some ⟨g, 0, none⟩) n cap) w) (hz : n ≤ 1000000) :
    (∀ i v, ([.int .i64 k, .string ⟨#[]⟩, .int .i64 0, .string ⟨#[]⟩, .string ⟨#[]⟩, .slice A5 n c5, .slice A6 n c6] : List Value)[i]? = some v → (wr.setRow w.heap.size #[.int .i64 k, .string ⟨#[]⟩, .int .i64 0, .string ⟨#[]⟩, .string ⟨#[]⟩, .slice A5 n c5, .slice A6 n c6]).cell? ⟨w.heap.size, i, none⟩ = some v) ∧
    TyAt (strike (· < lo) (wr.setRow w.heap.size #[.int .i64 k, .string ⟨#[]⟩, .int .i64 0, .string ⟨#[]⟩, .string ⟨#[]⟩, .slice A5 n c5, .slice A6 n c6])) [.int .i64 k, .string ⟨#[]⟩, .int .i64 0, .string ⟨#[]⟩, .string ⟨#[]⟩, .slice A5 n c5, .slice A6 n c6] (.mk k ⟨#[]⟩ 0 ⟨#[]⟩ ⟨#[]⟩ ((fdOf P').map (·.1)) ((fdOf P').map (·.2))) ∧
    w.grownBy (wr.setRow w.heap.size #[.int .i64 k, .string ⟨#[]⟩, .int .i64 0, .string ⟨#[]⟩, .string ⟨#[]⟩, .slice A5 n c5, .slice A6 n c6]) (some g) := by
  obtain ⟨hg1, hg2⟩ := h.gB
  have hlo : lo ≤ g := (hR.own.lt g rfl).1
  have hlen : P'.length = n := by rw [hp.length_eq]; exact hR.len
  have ht : P'.take n = P' := by rw [← hlen]; exact List.take_length
  generalize hW : wr.setRow w.heap.size #[.int .i64 k, .string ⟨#[]⟩, .int .i64 0, .string ⟨#[]⟩, .string ⟨#[]⟩, .slice A5 n c5, .slice A6 n c6] = W
  have hoth : ∀ b, b ≠ w.heap.size → W.heap[b]? = wr.heap[b]? := fun b hb => by rw [← hW]; exact setRow_other wr w.heap.size b _ hb
  have hszW : W.heap.size = wr.heap.size := by rw [← hW]; simp
  have hgr : w.grownBy W (some g) := by
    have h0 := h.gr
    refine ⟨?_, ?_, ?_, by rw [hszW]; exact h0.size, fun b hlt hne => (hoth b (by omega)).trans (h0.block b hlt hne)⟩
    · rw [← hW]; exact h0.os
    · rw [← hW]; exact h0.tape
    · rw [← hW]; exact h0.output
  have hN := h.names
  have hS := h.subs
  rw [ht] at hN hS
  refine ⟨by rw [← hW]; exact cell7 (setRow_heap wr w.heap.size _ _ _ _ h.res), ?_, hgr⟩
  have hl5 : ∀ b, (Value.slice A5 n c5).ownBlock = some b → w.heap.size ≤ b := fun b e => by have := (hN.lt b e).1; omega
  have hl6 : ∀ b, (Value.slice A6 n c6).ownBlock = some b → w.heap.size ≤ b := fun b e => by have := (hS.lt b e).1; omega
  have GR : GrR lo ((fdOf P').map (·.1)) n ((fdOf P').map (·.2)) n (.slice A5 n c5) (.slice A6 n c6) W := by
    refine ⟨by simp [fdOf, hlen], by simp [fdOf, hlen], ?_, ?_, ⟨P'.map (fun x => x.1.ty), by simp [hlen], fun l hl => ?_, own_lower (own_from hS fun b hb hlt => hoth b (by omega)) (by omega), fun i l t hil hit => ?_⟩, h.apart⟩
    · have e : ((fdOf P').map (·.1)).map Value.string = P'.map fun x => .string x.1.s := by simp [fdOf, List.map_map, Function.comp_def]
      rw [e]
      exact own_lower (own_from hN fun b hb hlt => hoth b (by omega)) (by omega)
    · intro s hs
      simp only [fdOf, List.map_map, List.mem_map] at hs
      obtain ⟨x, hx, rfl⟩ := hs
      have := hR.szs x (hp.subset hx)
      show x.1.s.size ≤ _
      omega
    · obtain ⟨x, -, rfl⟩ := List.mem_map.1 hl
      rfl
    · rw [List.getElem?_map] at hil
      simp only [fdOf, List.map_map, List.getElem?_map] at hit
      cases hx : P'[i]? with
      | none => rw [hx] at hil; cases hil
      | some x =>
        rw [hx] at hil hit
        simp at hil hit
        subst hil hit
        have hT := hR.trees x (hp.subset (List.mem_of_getElem? hx))
        refine TyAt.move hT hgr.size fun b hlt hSb => ⟨?_, hgr.block b hlt fun e => hSb (.inr ?_)⟩
        · rintro (e | e | e)
          · exact hSb (.inl e)
          · have := hl5 b e; omega
          · have := hl6 b e; omega
        · simp only [Option.some.injEq] at e; subst e; rfl
  exact GR.done k (Nat.le_refl _) (by omega) (by omega)

theorem str1_info : (Tryz.prog.info? 9).map (fun i => (i.zero, i.size, i.bytes)) = some (some (.string ⟨#[]⟩), 1, 16) := by kernel_rfl

end Go.Proofs.YtapjhmfbmkckaaaGreatDoor

/- The code's record and variant; so its read, whatever begins. -/
namespace Go.Proofs.YtapjhmfbmkckaaaGreatDoor
open Go.RowKit
open Go.Sort
open M

theorem fd_perm {P P' : List Nt} (h : P'.Perm P) : (fdOf P').Perm (fdOf P) := h.map _
theorem rec_res {k : Int} {b i c : Nat} {s : Bool} {P P' : List Nt} (hp : P'.Perm P) (hs : (fdOf P').Pairwise leF) (hd : b = 0 → ((fdOf P).map (·.1)).Nodup) :
    badR (psB b s) i (.ok (Ty.mk k ⟨#[]⟩ 0 ⟨#[]⟩ ⟨#[]⟩ ((fdOf P').map (·.1)) ((fdOf P').map (·.2))) i c) = badR (psB b s) i (.ok (Ty.mk k ⟨#[]⟩ 0 ⟨#[]⟩ ⟨#[]⟩ (insN (fdOf P)) (insS (fdOf P))) i c) := by
  by_cases hb : b = 0
  · obtain ⟨e1, e2⟩ := ins_sorted (fd_perm hp) hs (hd hb)
    rw [e1, e2]
  · exact badR_bad (by rw [psB_bad _ hb]; exact hb)
end Go.Proofs.YtapjhmfbmkckaaaGreatDoor

/- The code's read, whatever begins. -/
namespace Go.Proofs.YtapjhmfbmkckaaaGreatDoor
open Go.RowKit
open Go.Sort
open M

end Go.Proofs.YtapjhmfbmkckaaaGreatDoor
