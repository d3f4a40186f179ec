/-
  Several texts in one: The walk of the reference's Type, over what it calls. · Plain: a type ends behind where it began; one step of a function's parameters, of its end. What stands while the reference reads a function. · The walk of the reference's function, over its Type. · The code's parameters: types that grow in new memory. · The code's function, over what read tells.
-/
import Derived.Test.YtpfoclpgcbjjoaaGreatDoorJ05
import Derived.Test.YtpfoclpgcbjjoaaGreatDoorJ03
import Derived.LoopTactic
import Derived.Test.YtpfoclpgcbjjoaaGreatDoorJ07
import Derived.Deep.AppendLies
import Derived.Deep.DeepCutAuto
/- The walk of the reference's Type, over what it calls. -/
namespace Go.Proofs.YtpfoclpgcbjjoaaGreatDoor
open Go.RowKit
open Go.Sort
open M

theorem tok0 : (⟨#[]⟩ : ByteArray).size ≤ 9223372036854775807 := by decide
end Go.Proofs.YtpfoclpgcbjjoaaGreatDoor

/- Plain: a type ends behind where it began; one step of a function's parameters, of its end. What stands while the reference reads a function. -/
namespace Go.Proofs.YtpfoclpgcbjjoaaGreatDoor
open Go.RowKit
open Go.Sort
open M

/-- It ends further on. -/
def Res.fw {α : Type} : Res α → Nat → Prop
  | .ok _ j _, i => i < j
  | .err _ _, _ => True
theorem fw_mono {α : Type} {r : Res α} {i j : Nat} (h : i ≤ j) (hr : Res.fw r j) : Res.fw r i := by
  cases r with
  | ok x a b => exact Nat.lt_of_le_of_lt h hr
  | err a b => trivial
theorem fw_ite {α : Type} {p : Prop} [Decidable p] {x y : Res α} {i : Nat} (hx : Res.fw x i) (hy : Res.fw y i) : Res.fw (if p then x else y) i := by split; exact hx; exact hy
theorem fw_err {α : Type} (b j i : Nat) : Res.fw (Res.err b j : Res α) i := trivial
theorem fw_all (S : Toks) : ∀ f, (∀ d i c, Res.fw (pT S f d i c) i) ∧ (∀ k z d i c ns ss, Res.fw (pParts S k z f d i c ns ss) i) ∧ (∀ d i c ss, Res.fw (pSubs S f d i c ss) i) ∧ (∀ d i c ss, Res.fw (pEnd S f d i c ss) i) := by
  intro f
  induction f with
  | zero => exact ⟨fun d i c => by unfold pT; trivial, fun k z d i c ns ss => by unfold pParts; trivial, fun d i c ss => by unfold pSubs; trivial, fun d i c ss => by unfold pEnd; trivial⟩
  | succ f ih =>
    obtain ⟨iT, iP, iS, iE⟩ := ih
    refine ⟨fun d i c => ?_, fun k z d i c ns ss => ?_, fun d i c ss => ?_, fun d i c ss => ?_⟩
    · unfold pT
      refine fw_ite (fw_err _ _ _) (fw_ite (fw_err _ _ _) (fw_ite ?_ (fw_ite (fw_ite (fw_ite (fw_err _ _ _) ?_) (fw_ite ?_ ?_)) (fw_ite (fw_ite ?_ ?_) (fw_ite ?_ (fw_ite ?_ (fw_ite ?_ ?_)))))))
      · unfold pLocal
        exact fw_ite (fw_err _ _ _) (fw_ite (fw_err _ _ _) (show i < i + 1 + 2 by omega))
      · have h1 := iT (d + 1) (i + 2) (c + 1)
        cases e : pT S f (d + 1) (i + 2) (c + 1) with
        | err b j => trivial
        | ok s j c' =>
          rw [e] at h1
          have h1' : i + 2 < j := h1
          exact fw_ite (fw_err _ _ _) (show i < j + 1 by omega)
      · show i < i + 1; omega
      · show i < i + 1; omega
      · show i < i + 2; omega
      · exact fw_mono (by omega) (iP _ _ _ (i + 1) _ _ _)
      · exact fw_mono (by omega) (iP _ _ _ (i + 1) _ _ _)
      · unfold pOpen
        exact fw_ite (fw_err _ _ _) (fw_ite (fw_err _ _ _) (fw_ite (fw_err _ _ _) (fw_ite (fw_err _ _ _) (fw_ite (fw_err _ _ _) (show i < i + 1 + 5 by omega)))))
      · exact fw_mono (by omega) (iE _ (i + 2) _ _)
      · exact fw_mono (by omega) (iS _ (i + 1) _ _)
    · unfold pParts
      refine fw_ite (fw_err _ _ _) (fw_ite (fw_err _ _ _) (fw_ite (fw_err _ _ _) (fw_ite (fw_err _ _ _) ?_)))
      have h1 := iT (d + 1) (i + 2) c
      cases e : pT S f (d + 1) (i + 2) c with
      | err b j => trivial
      | ok s j c' =>
        rw [e] at h1
        have h1' : i + 2 < j := h1
        exact fw_ite (show i < j + 1 by omega) (fw_ite (fw_err _ _ _) (fw_mono (by omega) (iP _ _ _ (j + 1) _ _ _)))
    · unfold pSubs
      refine fw_ite (fw_err _ _ _) ?_
      have h1 := iT (d + 1) i c
      cases e : pT S f (d + 1) i c with
      | err b j => trivial
      | ok s j c' =>
        rw [e] at h1
        have h1' : i < j := h1
        exact fw_ite (fw_mono (by omega) (iE _ (j + 1) _ _)) (fw_ite (fw_err _ _ _) (fw_mono (by omega) (iS _ (j + 1) _ _)))
    · unfold pEnd
      refine fw_ite (fw_err _ _ _) (fw_ite (fw_err _ _ _) ?_)
      have h1 := iT (d + 1) (i + 1) c
      cases e : pT S f (d + 1) (i + 1) c with
      | err b j => trivial
      | ok s j c' =>
        rw [e] at h1
        have h1' : i + 1 < j := h1
        show i < j; omega
theorem pT_begins {S : Toks} {f d i c j c' : Nat} {t : Ty} (h : pT S f d i c = .ok t j c') : S.begins i = true := by
  cases f with
  | zero => unfold pT at h; cases h
  | succ f =>
    rw [pT_eq] at h
    by_cases hb : S.begins i = false
    · rw [if_pos hb] at h; cases h
    · simpa using hb
theorem one_ok {S : Toks} {f d i c n j c' : Nat} {t : Ty} (h : oneR S f d i c n = .ok t j c') : n < 20 ∧ i < j ∧ i < S.n := by
  unfold oneR at h
  split at h
  · cases h
  · rename_i hn
    have hb := pT_begins h
    have hf := (fw_all S f).1 (d + 1) i c
    rw [h] at hf
    refine ⟨?_, hf, begins_lt hb⟩
    rcases Nat.lt_or_ge n 20 with h1 | h1
    · exact h1
    · exact absurd ⟨hb, h1⟩ hn

theorem subs_eq (S : Toks) (f d i c : Nat) (ss : List Ty) : pSubs S (f + 1) d i c ss = match oneR S f d i c ss.length with
    | .err b j => .err b j
    | .ok s j c' => if S.sign j [41] = true then pEnd S f d (j + 1) c' (ss ++ [s]) else if S.sign j [44] = false then .err 2 j else pSubs S f d (j + 1) c' (ss ++ [s]) := by
  conv => lhs; unfold pSubs
  unfold oneR
  split <;> rfl
theorem end_eq (S : Toks) (f d i c : Nat) (ss : List Ty) : pEnd S (f + 1) d i c ss = if S.sign i [45, 62] = false then .err 2 i else match oneR S f d (i + 1) c ss.length with
    | .err b j => .err b j
    | .ok s j c' => .ok (.mk 7 ⟨#[]⟩ 0 ⟨#[]⟩ ⟨#[]⟩ [] (ss ++ [s])) j c' := by
  conv => lhs; unfold pEnd
  unfold oneR
  split
  · rfl
  · split <;> rfl
theorem subs_more {S : Toks} {f d i c b2 i2 c2 : Nat} {ss : List Ty} {t : Ty} (h : oneR S f d i c ss.length = badR b2 i2 (.ok t i2 c2)) (hq : (decide (b2 = 0) && S.sign i2 [41]) = false) :
    pSubs S (f + 1) d i c ss = badR (psB b2 (S.sign i2 [44])) (psI b2 (S.sign i2 [44]) i2) (pSubs S f d (psI b2 (S.sign i2 [44]) i2) c2 (ss ++ [t])) := by
  rw [sign_res (S.sign i2 [44]) b2 i2 (fun j => pSubs S f d j c2 (ss ++ [t])), subs_eq, h]
  by_cases hb : b2 = 0
  · subst hb
    rw [badR_0, badR_0]
    have h4 : ¬ S.sign i2 [41] = true := by simpa using hq
    show (if _ then _ else _) = _
    rw [if_neg h4]
  · rw [badR_ne _ _ hb, badR_ne _ _ hb]
theorem subs_last {S : Toks} {f d i c b2 i2 c2 : Nat} {ss : List Ty} {t : Ty} (h : oneR S f d i c ss.length = badR b2 i2 (.ok t i2 c2)) (hq : (decide (b2 = 0) && S.sign i2 [41]) = true) :
    b2 = 0 ∧ pSubs S (f + 1) d i c ss = pEnd S f d (i2 + 1) c2 (ss ++ [t]) := by
  simp at hq
  obtain ⟨rfl, h4⟩ := hq
  refine ⟨rfl, ?_⟩
  rw [subs_eq, h, badR_0]
  show (if _ then _ else _) = _
  rw [if_pos h4]
theorem end_res {S : Toks} {f d i c b b2 i2 c2 : Nat} {ss : List Ty} {t : Ty} (h : badR (psB b (S.sign i [45, 62])) (psI b (S.sign i [45, 62]) i) (oneR S f d (psI b (S.sign i [45, 62]) i) c ss.length) = badR b2 i2 (.ok t i2 c2)) :
    badR b i (pEnd S (f + 1) d i c ss) = badR b2 i2 (.ok (.mk 7 ⟨#[]⟩ 0 ⟨#[]⟩ ⟨#[]⟩ [] (ss ++ [t])) i2 c2) := by
  rw [sign_res (S.sign i [45, 62]) b i (fun j => oneR S f d j c ss.length)] at h
  rw [end_eq]
  by_cases hb : b = 0
  · subst hb
    rw [badR_0] at h ⊢
    by_cases hq : S.sign i [45, 62] = false
    · rw [if_pos hq] at h ⊢
      by_cases hb2 : b2 = 0
      · subst hb2; cases h
      · rw [badR_ne _ _ hb2] at h ⊢; exact h
    · rw [if_neg hq] at h ⊢
      rw [h]
      by_cases hb2 : b2 = 0
      · subst hb2; rfl
      · rw [badR_ne _ _ hb2, badR_ne _ _ hb2]
  · rw [badR_ne _ _ hb] at h ⊢
    by_cases hb2 : b2 = 0
    · subst hb2; cases h
    · rw [badR_ne _ _ hb2] at h ⊢; exact h

/-- How far the reader still may go. -/
def rdM (r n : Nat) (w : World) : Nat :=
  match w.heap[r]? with
  | some (Obj.cells cs _ _) => (match cs[1]?, cs[3]? with
    | some (Value.int _ i), some (Value.int _ b) => if b = 0 then n + 3 - i.toNat + 1 else 0
    | _, _ => 0)
  | _ => 0
end Go.Proofs.YtpfoclpgcbjjoaaGreatDoor

/- The walk of the reference's function, over its Type. -/
namespace Go.Proofs.YtpfoclpgcbjjoaaGreatDoor
open Go.RowKit
open Go.Sort
open M

theorem one_hne {S : Toks} {g d i c : Nat} {ss : List Ty} (h : ∀ j, pSubs S (g + 1) d i c ss ≠ .err 99 j) : ∀ j, oneR S g d i c ss.length ≠ .err 99 j := fun j e => h j (by rw [subs_eq, e])
theorem end_hne {S : Toks} {g d i c : Nat} {ss : List Ty} (h : ∀ j, pEnd S (g + 1) d i c ss ≠ .err 99 j) : psB 0 (S.sign i [45, 62]) = 0 → ∀ j, oneR S g d (psI 0 (S.sign i [45, 62]) i) c ss.length ≠ .err 99 j := fun hq j e => h j (by
  rw [end_eq]
  by_cases hs : S.sign i [45, 62] = false
  · rw [hs] at hq; cases hq
  · rw [if_neg hs]
    have : S.sign i [45, 62] = true := by simpa using hs
    rw [this, psI_yes] at e
    rw [e])

end Go.Proofs.YtpfoclpgcbjjoaaGreatDoor

/- The code's parameters: types that grow in new memory. -/
namespace Go.Proofs.YtpfoclpgcbjjoaaGreatDoor
open Go.RowKit
open Go.Sort
open M

/-- The first type of a row: the block that a literal of one makes. -/
theorem GrR.first {lo g : Nat} {l : List Value} {t : Ty} {w : World} (hl : l.length = 7) (hlo : lo ≤ g) (hg : w.heap[g]? = some (.cells l.toArray 42 (0, 0))) (hT : TyAt (strike (fun b => b < lo ∨ b = g) w) l t) :
    GrR lo [] 0 [t] 1 (.slice none 0 0) (.slice (some ⟨g, 0, none⟩) 1 1) w := by
  refine ⟨rfl, rfl, World.ownsRow_nil _ _ _ _, fun s h => by simp at h, ⟨[l], rfl, fun x h => by simp at h; subst h; exact hl, ⟨by simp [hl], .inr ⟨g, 1, l.toArray, rfl, hlo, hg, Nat.le_refl _, by decide, by simp [hl], ?_⟩⟩, fun i x u hx hu => ?_⟩, fun b h => by simp [Value.ownBlock] at h⟩
  · simp [← hl]
  · have hi := (List.getElem?_eq_some_iff.1 hx).1
    obtain rfl : i = 0 := by simp at hi; omega
    simp at hx hu
    subst hx hu
    refine TyAt.move hT (Nat.le_refl _) fun b _ hS => ⟨?_, rfl⟩
    rintro (e | e | e)
    · exact hS (.inl e)
    · simp [Value.ownBlock] at e
    · simp [Value.ownBlock] at e; exact hS (.inr e.symm)

/-- One type more, of a row that lies in no box. -/
theorem GrR.moreK {cu r lo g cap n6 c6 : Nat} {ss : List Ty} {A6 : Option Addr} {w wo w1 w3 : World} {o : Obj} {l : List Value} {t : Ty} {C : List (List Value)}
    (h : GrR lo [] 0 ss n6 (.slice none 0 0) (.slice A6 n6 c6) w1) (hlo : lo ≤ wo.heap.size) (hz : wo.heap.size ≤ w1.heap.size) (hwo : ∀ b, (Value.slice A6 n6 c6).ownBlock = some b → b < wo.heap.size)
    (hC1 : C.length = n6) (hC2 : ∀ l, l ∈ C → l.length = 7) (hC4 : ∀ (i : Nat) (l : List Value) (t : Ty), C[i]? = some l → ss[i]? = some t → GrT lo (.slice none 0 0) (.slice A6 n6 c6) w1 l t) (hl : l.length = 7)
    (hT : TyAt (strike (· < wo.heap.size) w1) l t) (hown : w3.ownsRow lo 42 7 (.slice (some ⟨g, 0, none⟩) (n6 + 1) cap) (n6 + 1) (C.flatten ++ l)) (hgrow : (w1.alloc o).grownBy w3 (Value.slice A6 n6 c6).ownBlock)
    (hat : (Value.slice A6 n6 c6).ownBlock = some g ∨ g = (w1.alloc o).heap.size) (hK : KQ cu r w w1) (hw : w.heap.size ≤ lo) :
    GrR lo [] 0 (ss ++ [t]) (n6 + 1) (.slice none 0 0) (.slice (some ⟨g, 0, none⟩) (n6 + 1) cap) w3 ∧ KQ cu r w w3 ∧ (∀ b, b < lo → b < w1.heap.size → w3.heap[b]? = w1.heap[b]?) ∧
    (∀ b, (∀ vs fr, w1.heap[b]? ≠ some (Obj.cells vs 42 fr)) → b < w1.heap.size → w3.heap[b]? = w1.heap[b]?) ∧ w1.heap.size ≤ w3.heap.size := by
  obtain ⟨C', h1', h2', h3, h4'⟩ := h.subs
  have hlow : ∀ b, (Value.slice A6 n6 c6).ownBlock = some b → lo ≤ b := fun b e => (h3.lt b e).1
  have hGT : GrT lo (.slice none 0 0) (.slice A6 n6 c6) w1 l t := TyAt.move hT (Nat.le_refl _) fun b hlt hS => ⟨by
    rintro (e | e | e)
    · omega
    · simp [Value.ownBlock] at e
    · have := hwo b e; omega, rfl⟩
  have R3 := h.addSub hC1 hC2 hC4 hl hGT hown rfl hgrow hat
  have hsz : (w1.alloc o).heap.size = w1.heap.size + 1 := by simp
  have hsz3 := hgrow.size
  refine ⟨R3, (hK.alloc o).grow hgrow fun b e => by have := hlow b e; omega, fun b hb hlt => ?_, fun b hb hlt => ?_, by omega⟩
  · rw [hgrow.block b (by omega) (fun e => by have := hlow b e.symm; omega)]
    exact Lib.alloc_old w1 o b hlt
  · rw [hgrow.block b (by omega) (fun e => ?_)]
    · exact Lib.alloc_old w1 o b hlt
    · rcases h3.2 with ⟨e1, -⟩ | ⟨g6, cap6, cur6, hv, -, hg6, -⟩
      · rw [e1] at e; simp [Value.ownBlock] at e
      · rw [hv] at e; simp [Value.ownBlock] at e
        subst e
        exact hb _ _ hg6

/-- How far a cursor is from its end. -/
def cuM (q n : Nat) (w : World) : Nat :=
  match w.heap[q]? with
  | some (Obj.cells cs _ _) => (match cs[1]?, cs[2]? with
    | some (Value.int _ i), some Value.nilIface => n + 3 - i.toNat + 1
    | _, _ => 0)
  | _ => 0
theorem CSt.m {q : Nat} {A : Option Addr} {n cn i b : Nat} {w : World} (h : CSt q A n cn i b w) : cuM q n w = if b = 0 then n + 3 - i + 1 else 0 := by
  unfold cuM
  rcases h with ⟨rfl, h⟩ | ⟨hb, x, g, h, -⟩
  · unfold CGd at h
    rw [h]; simp
  · rw [h, if_neg hb]; simp

theorem one_read {S : Toks} {f d i c n : Nat} : readR S f (d + 1) (n + 1) i c = oneR S f d i c n := by
  unfold readR oneR
  by_cases h : S.begins i = true ∧ 20 ≤ n
  · rw [if_pos h, if_pos ⟨h.1, by omega⟩]
  · rw [if_neg h, if_neg (fun x => h ⟨x.1, by omega⟩)]
/-- What stands behind a parameter. -/
def contR (S : Toks) (f d i c : Nat) (ss : List Ty) : Res Ty := if S.sign i [41] = true then pEnd S f d (i + 1) c ss else if S.sign i [44] = false then .err 2 i else pSubs S f d (i + 1) c ss
/-- What stands behind the last one. -/
def shutR (S : Toks) (f d i c : Nat) (ss : List Ty) : Res Ty := if S.sign i [41] = true then pEnd S f d (i + 1) c ss else .err 2 i
theorem sign_one {S : Toks} {i : Nat} {l m : List UInt8} (h : S.sign i l = true) (hne : l ≠ m) : S.sign i m = false := by
  unfold Toks.sign at h ⊢
  simp only [Bool.and_eq_true, decide_eq_true_eq, beq_iff_eq] at h
  rw [h.2]
  have : (l == m) = false := by rw [beq_eq_false_iff_ne]; exact hne
  rw [this, Bool.and_false]
theorem subs_cont {S : Toks} {f d i c b2 i2 c2 : Nat} {ss : List Ty} {t : Ty} (h : oneR S f d i c ss.length = badR b2 i2 (.ok t i2 c2)) :
    pSubs S (f + 1) d i c ss = badR b2 i2 (contR S f d i2 c2 (ss ++ [t])) := by
  rw [subs_eq, h]
  by_cases hb : b2 = 0
  · subst hb; rfl
  · rw [badR_ne _ _ hb, badR_ne _ _ hb]
theorem cont_no {S : Toks} {f d i c b : Nat} {ss : List Ty} (h : (decide (b = 0) && S.sign i [44]) = false) : badR b i (contR S f d i c ss) = badR b i (shutR S f d i c ss) := by
  by_cases hb : b = 0
  · subst hb
    have h4 : S.sign i [44] = false := by simpa using h
    unfold contR shutR
    rw [if_pos h4]
  · exact badR_bad hb
theorem cont_yes {S : Toks} {f d i c b : Nat} {ss : List Ty} (h : (decide (b = 0) && S.sign i [44]) = true) : b = 0 ∧ S.sign i [44] = true ∧ badR b i (contR S f d i c ss) = pSubs S f d (i + 1) c ss := by
  simp at h
  obtain ⟨rfl, h4⟩ := h
  refine ⟨rfl, h4, ?_⟩
  rw [badR_0]
  unfold contR
  rw [if_neg (by rw [sign_one h4 (by decide)]; decide), if_neg (by rw [h4]; decide)]
theorem shut_res {S : Toks} {f d i c b : Nat} {ss : List Ty} : badR b i (shutR S f d i c ss) = badR (psB b (S.sign i [41])) (psI b (S.sign i [41]) i) (pEnd S f d (psI b (S.sign i [41]) i) c ss) := by
  rw [sign_res (S.sign i [41]) b i (fun j => pEnd S f d j c ss)]
  unfold shutR
  by_cases h : S.sign i [41] = true
  · rw [if_pos h, if_neg (by rw [h]; decide)]
  · rw [if_neg h, if_pos (by simpa using h)]

/-- While the code reads a function's parameters. -/
structure CpI (w : World) (cu r : Nat) (A : Option Addr) (S : Toks) (cn d f : Nat) (F : Res Ty) (ss : List Ty) (n6 : Nat) (A6 : Option Addr) (c6 i c b g : Nat) (wr : World) : Prop where
  kp : KQ cu r w wr
  rows : GrR w.heap.size [] 0 ss n6 (.slice none 0 0) (.slice A6 n6 c6) wr
  rd : RSt cu r A S.n cn i c b wr
  fin : F = badR b i (contR S g d i c ss)
  fuel : g ≤ f
  some : n6 ≤ 21
  most : b = 0 → n6 ≤ 20
  cnt : c ≤ 500
/-- What the parameters leave. -/
def CpOut (w : World) (cu r : Nat) (A : Option Addr) (S : Toks) (cn d f : Nat) (F : Res Ty) (e : Ending) (w' : World) : Prop :=
  ∃ (ss : List Ty) (n6 : Nat) (A6 : Option Addr) (c6 i c b g : Nat), e = .returned (.slice A6 n6 c6) ∧ KQ cu r w w' ∧ GrR w.heap.size [] 0 ss n6 (.slice none 0 0) (.slice A6 n6 c6) w' ∧ RSt cu r A S.n cn i c b w' ∧
    F = badR b i (shutR S g d i c ss) ∧ g ≤ f ∧ n6 ≤ 21 ∧ (b = 0 → n6 ≤ 20) ∧ c ≤ 500

set_option maxRecDepth 100000 in
set_option maxHeartbeats 4000000 in
theorem params_any {W : World} {cu r : Nat} {A : Option Addr} {S : Toks} {cn i c f d d' : Nat} {w : World} (RD : ∀ g, g < f → CReadOk W cu r A S cn g) (hc : RCtx W cu r A S w) (h : RSt cu r A S.n cn i c 0 w) (hc5 : c ≤ 500) (hd : d' = d + 1) (hd5 : d' ≤ 1000000) (F : Res Ty) (hF : F = pSubs S f d i c []) (hne : ∀ j, F ≠ .err 99 j) :
    Calls Tryz.prog 200 #[.pointer (some ⟨r, 0, none⟩), .int .i64 d'] w (CpOut w cu r A S cn d f F) := by
  have hr := h.lt
  have hq0 := h.qlt
  have hbig := hc.cur.big
  obtain ⟨f', rfl⟩ : ∃ f', f = f' + 1 := by
    cases f with
    | zero => exact absurd (by rw [hF]; unfold pSubs; rfl) (hne 0)
    | succ f' => exact ⟨f', rfl⟩
  have HNE := Lib.hid hne
  have RDD := Lib.hid RD
  have HC := Lib.hid hc
  have HD := Lib.hid hd
  have RE1 := RD f' (by omega) d' 1 i c 0 w hc h hc5 hd5 (by omega) (fun _ j => by
    rw [hd, one_read]
    intro e
    refine hne j ?_
    rw [hF, subs_eq]
    rw [show ([] : List Ty).length = 0 from rfl, e])
  rw [badR_0, hd, one_read, ← hd] at RE1
  have RE : Calls Tryz.prog 161 #[.pointer (some ⟨r, 0, none⟩), .int .i64 d', .int .i64 1] w (COut w cu r A S.n cn (oneR S f' d i c 0)) := RE1
  have HRE := Lib.hid RE
  have HF := Lib.hid hF
  clear hne RD hc h hd RE RE1 hF
  go_enter Tryz.func200, Tryz.ntmps200
  go_wp2_with fail
  refine HRE.out.mono ?_; rintro e w1 ⟨l, t, i1, c1, b1, rfl, hT1, k1, h1, hc1, hres⟩
  obtain ⟨An, cA, As, cS, rfl, -⟩ := hT1.parts
  obtain ⟨w2, hw2⟩ : ∃ w2, w2 = w1.alloc (.cells #[.int .i64 t.kind, .string t.pkg, .int .i64 t.major, .string t.mod, .string t.name, .slice An t.names.length cA, .slice As t.subs.length cS] 42) := ⟨_, rfl⟩
  have B2 : Below w1.heap.size w1 w2 := by rw [hw2]; exact below_new (Below.refl _ _) _
  have s2 : w2.heap.size = w1.heap.size + 1 := by rw [hw2]; simp
  have s1 := k1.size
  have INV : Hid (CpI w cu r A S cn d (f' + 1) F ([] ++ [t]) 1 (some ⟨w1.heap.size, 0, none⟩) 1 i1 c1 b1 f' w2) := Lib.hid (by
    refine ⟨k1.trans (KQ.of_below B2), ?_, h1.below B2, ?_, by omega, by omega, fun _ => by omega, hc1⟩
    · refine GrR.first (l := [.int .i64 t.kind, .string t.pkg, .int .i64 t.major, .string t.mod, .string t.name, .slice An t.names.length cA, .slice As t.subs.length cS]) rfl s1 (by rw [hw2]; exact heap_alloc_new w1 _) (hT1.move (by omega) fun b hb hS => ⟨?_, B2.block b hb⟩)
      rintro (e | e)
      · exact hS e
      · omega
    · rw [HF.out]
      exact subs_cont (ss := []) hres.symm)
  have HW2 := Lib.hid hw2
  clear hT1 k1 h1 hres hw2 B2 s2 s1 HRE HF
  go_wp2_with fail
  rw [← HW2.out]
  go_loopw [5] (fun m wr => ∃ (ss : List Ty) (n6 : Nat) (A6 : Option Addr) (c6 i c b g : Nat), m = .slice A6 n6 c6 ∧ Hid (CpI w cu r A S cn d (f' + 1) F ss n6 A6 c6 i c b g wr)) (fun _ wr => cuM cu S.n wr)
  case atStart => exact ⟨_, 1, _, 1, i1, c1, b1, f', rfl, INV⟩
  case round =>
    obtain ⟨ss, n6, A6, c6, i, c, b, g, rfl, HI⟩ := hrel
    obtain ⟨wo, rfl⟩ : ∃ wo : World, wo = wr := ⟨_, rfl⟩
    have R := HI.out.rd
    have p0 := R.p
    have C0 := HC.out.on HI.out.kp
    have SK := Lib.hid (rskip_any C0 R ⟨#[44]⟩)
    have HC0 := Lib.hid C0
    have hso := HI.out.kp.size
    clear R C0
    go_wp2_with fail
    refine SK.out.mono ?_; rintro e w3 ⟨rfl, h3, k3⟩
    obtain ⟨v, hv⟩ : ∃ v, (decide (b = 0) && S.sign i (ByteArray.mk #[44]).data.toList) = v := ⟨_, rfl⟩
    rw [hv]
    have HV : Hid ((decide (b = 0) && S.sign i [44]) = v) := Lib.hid hv
    have hs3 := k3.size
    have K3 := HI.out.kp.trans k3
    have ROW3 := HI.out.rows.keep hs3 (fun b' hb hlt => k3.blk hlt (by omega))
    clear hv SK
    cases v with
    | false =>
      have hps : psI b (S.sign i (ByteArray.mk #[44]).data.toList) i = i := by
        have := HV.out
        unfold psI
        rw [if_neg]
        rintro ⟨e1, e2⟩
        rw [e1] at this
        have e2' : S.sign i [44] = true := e2
        rw [e2'] at this; cases this
      rw [hps] at h3
      have OUT : Hid (CpOut w cu r A S cn d (f' + 1) F (.returned (.slice A6 n6 c6)) w3) := Lib.hid ⟨ss, n6, A6, c6, i, c, b, g, rfl, K3, ROW3, h3, by rw [HI.out.fin]; exact cont_no HV.out, HI.out.fuel, HI.out.some, HI.out.most, HI.out.cnt⟩
      clear h3 k3 K3 ROW3 hps HI HC0
      go_wp2_with fail
      go_ret
      exact OUT.out
    | true =>
      obtain ⟨hb0, hsg, hcy⟩ := cont_yes (f := g) (d := d) (c := c) (ss := ss) HV.out
      subst hb0
      have hi1 := sign_lt hsg
      have hfin := HI.out.fin.trans hcy
      have h3' : RSt cu r A S.n cn (i + 1) c 0 w3 := by
        have e : S.sign i (ByteArray.mk #[44]).data.toList = true := hsg
        rw [e] at h3; exact h3
      obtain ⟨g', rfl⟩ : ∃ g', g = g' + 1 := by
        cases g with
        | zero => exact absurd (by rw [hfin]; unfold pSubs; rfl) (HNE.out 0)
        | succ g' => exact ⟨g', rfl⟩
      have hfu := HI.out.fuel
      have h20 := HI.out.most rfl
      have hcnt := HI.out.cnt
      have hl6 := HI.out.rows.len6
      have C3 := HC0.out.on k3
      have RE1 := RDD.out g' (by omega) d' (n6 + 1) (i + 1) c 0 w3 C3 h3' hcnt hd5 (by omega) (fun _ j => by
        rw [HD.out, one_read]
        intro e
        refine HNE.out j ?_
        rw [hfin, subs_eq, hl6, e])
      rw [badR_0, HD.out, one_read, ← HD.out] at RE1
      have RE : Calls Tryz.prog 161 #[.pointer (some ⟨r, 0, none⟩), .int .i64 d', .int .i64 ((n6 : Int) + 1)] w3 (COut w3 cu r A S.n cn (oneR S g' d (i + 1) c n6)) := RE1
      have HRE := Lib.hid RE
      have HROW3 := Lib.hid ROW3
      have HK3 := Lib.hid K3
      have HFIN := Lib.hid hfin
      have HL6 := Lib.hid hl6
      have MI := Lib.hid HI.out.rd.cur.m
      have n63 : (n6 : Int) + 1 ≤ 9223372036854775807 := by omega
      have p3 := h3'.p
      clear h3 h3' k3 K3 ROW3 hfin hl6 C3 RE RE1 hcy p0 HC0 HI
      go_wp2_with fail
      refine HRE.out.mono ?_; rintro e w4 ⟨l, t, i4, c4, b4, rfl, hT4, k4, h4, hc4, hres⟩
      obtain ⟨An, cA, As, cS, rfl, -⟩ := hT4.parts
      have hs4 := k4.size
      have ROW4 := HROW3.out.keep hs4 (fun b' hb hlt => k4.blk hlt (by omega))
      have K4 := HK3.out.trans k4
      obtain ⟨C, hC1, hC2, hown6, hC4⟩ := ROW4.subs
      obtain ⟨inf, hi1', hy0, hy1, hy2⟩ := info_parts typ_info
      have hMX : n6 + 1 ≤ maxLen := by unfold maxLen; omega
      have hwo : ∀ b, (Value.slice A6 n6 c6).ownBlock = some b → b < w3.heap.size := fun b e => by
        obtain ⟨C', -, -, h3, -⟩ := HROW3.out.subs
        exact (h3.lt b e).2
      have hAL : w.heap.size ≤ (w4.alloc (.cells #[.int .i64 t.kind, .string t.pkg, .int .i64 t.major, .string t.mod, .string t.name, .slice An t.names.length cA, .slice As t.subs.length cS] 42)).heap.size := by have e1 : (w4.alloc (.cells #[.int .i64 t.kind, .string t.pkg, .int .i64 t.major, .string t.mod, .string t.name, .slice An t.names.length cA, .slice As t.subs.length cS] 42)).heap.size = w4.heap.size + 1 := (by simp); omega
      have hNW : ∀ j u, ([.int .i64 t.kind, .string t.pkg, .int .i64 t.major, .string t.mod, .string t.name, .slice An t.names.length cA, .slice As t.subs.length cS] : List Value)[j]? = some u → (w4.alloc (.cells #[.int .i64 t.kind, .string t.pkg, .int .i64 t.major, .string t.mod, .string t.name, .slice An t.names.length cA, .slice As t.subs.length cS] 42)).cell? ((⟨w4.heap.size, 0, none⟩ : Addr).add j) = some u := fun q u hq => by rw [WideShapes.add_plain, Nat.zero_add, Lib.cell_of_heap (heap_alloc_new w4 _), ← hq, ← List.getElem?_toArray]
      go_wp2_with (first | (refine wpList_append_lies _ rfl (.tmp 15) (.tmp 22) 40 rfl w.heap.size 42 inf _ 7 112 Tryz.underlying40 hi1' hy0 hy1 hy2 (by rfl) (Nat.zero_lt_succ 6) (.slice A6 n6 c6) n6 _ rfl (hown6.alloc _) ⟨w4.heap.size, 0, none⟩ 1 1 [.int .i64 t.kind, .string t.pkg, .int .i64 t.major, .string t.mod, .string t.name, .slice An t.names.length cA, .slice As t.subs.length cS] rfl rfl hNW (fun u hu => by simp at hu; rcases hu with rfl | rfl | rfl | rfl | rfl | rfl | rfl <;> rfl) Nat.one_pos hMX (by omega) hAL _ rfl ?_; intro gb cap w5 hown5 hgrow hat hlt5))
      obtain ⟨ROW5, K5, old5, oth5, hs5⟩ := GrR.moreK ROW4 (by omega) hs4 hwo hC1 hC2 hC4 rfl hT4 hown5 hgrow hat K4 (Nat.le_refl _)
      have h5 : RSt cu r A S.n cn i4 c4 b4 w5 := h4.keep fun k hk hlt => oth5 k (fun vs fr e => by
        rcases hk _ _ _ e with q | q | q <;> exact absurd q (by decide)) hlt
      have hres' : oneR S g' d (i + 1) c ss.length = badR b4 i4 (.ok t i4 c4) := by rw [HL6.out]; exact hres.symm
      have hlim : b4 = 0 → n6 + 1 ≤ 20 ∧ i + 1 < i4 := fun hb => by
        subst hb
        have := one_ok hres'
        rw [HL6.out] at this; omega
      have INV5 : Hid (CpI w cu r A S cn d (f' + 1) F (ss ++ [t]) (n6 + 1) (some ⟨gb, 0, none⟩) cap i4 c4 b4 g' w5) := Lib.hid
        ⟨K5, ROW5, h5, by rw [HFIN.out]; exact subs_cont hres', by omega, by omega, fun e => (hlim e).1, hc4⟩
      have MEAS : Hid (cuM cu S.n w5 < cuM cu S.n wo) := Lib.hid (by
        rw [MI.out, h5.cur.m]
        simp only [if_true]
        split
        · rename_i e
          have := hlim e
          omega
        · omega)
      clear hT4 k4 h4 hres ROW4 K4 hC1 hC2 hown6 hC4 hi1' hy0 hy1 hy2 hNW hown5 hgrow hat hlt5 ROW5 K5 old5 oth5 hs5 h5 hres' hlim HRE HROW3 HK3 hwo hAL
      go_wp2_with fail
      go_roundw
      case rel => exact ⟨ss ++ [t], n6 + 1, some ⟨gb, 0, none⟩, cap, i4, c4, b4, g', rfl, INV5⟩
      case measure => exact MEAS.out

end Go.Proofs.YtpfoclpgcbjjoaaGreatDoor

/- The code's function, over what read tells. -/
namespace Go.Proofs.YtpfoclpgcbjjoaaGreatDoor
open Go.RowKit
open Go.Sort
open M

theorem own_lower {w : World} {lo lo' : Nat} {e : TypeId} {z : Nat} {v : Value} {n : Nat} {xs : List Value} (h : w.ownsRow lo e z v n xs) (hl : lo' ≤ lo) : w.ownsRow lo' e z v n xs := by
  refine ⟨h.1, ?_⟩
  rcases h.2 with h | ⟨g, cap, cur, hv, hB, rest⟩
  · exact .inl h
  · exact .inr ⟨g, cap, cur, hv, Nat.le_trans hl hB, rest⟩
theorem GrR.lower {lo lo' : Nat} {ns : List ByteArray} {n5 : Nat} {ss : List Ty} {n6 : Nat} {v5 v6 : Value} {w : World} (h : GrR lo ns n5 ss n6 v5 v6 w) (hl : lo' ≤ lo) : GrR lo' ns n5 ss n6 v5 v6 w := by
  obtain ⟨C, h1, h2, h3, h4⟩ := h.subs
  exact ⟨h.len5, h.len6, own_lower h.names hl, h.szs, ⟨C, h1, h2, own_lower h3 hl, fun i l t hx ht => (h4 i l t hx ht).move (Nat.le_refl _) fun b _ hS => ⟨fun e => hS (by
    rcases e with e | e
    · exact .inl (by omega)
    · exact .inr e), rfl⟩⟩, h.apart⟩

/-- Ahead of a function's arrow. -/
structure FnJ (w : World) (cu r : Nat) (A : Option Addr) (S : Toks) (cn d f : Nat) (F : Res Ty) (ss : List Ty) (n6 : Nat) (A6 : Option Addr) (c6 i c b g : Nat) (wr : World) : Prop where
  kp : KQ cu r w wr
  box : Bx w.heap.size wr
  rows : GrR (w.heap.size + 1) [] 0 ss n6 (.slice none 0 0) (.slice A6 n6 c6) wr
  rd : RSt cu r A S.n cn i c b wr
  fin : F = badR b i (pEnd S g d i c ss)
  fuel : g ≤ f
  some : n6 ≤ 21
  cnt : c ≤ 500

set_option maxRecDepth 100000 in
set_option maxHeartbeats 4000000 in
theorem cfn_any {W : World} {cu r : Nat} {A : Option Addr} {S : Toks} {cn f : Nat} (RD : ∀ g, g < f → CReadOk W cu r A S cn g) :
    CKOk W cu r A S cn 181 [40] (fun d i c => fnR S f d i c) := by
  intro d d' i c w R hc h hs hc5 hd hd5 hR hne
  have hR' : R = fnR S f d (i + 1) c := hR
  have hr := h.lt
  have hq0 := h.qlt
  have hbig := hc.cur.big
  have hf : 0 < f := by
    rcases Nat.eq_zero_or_pos f with rfl | hf
    · exfalso
      refine hne 0 ?_
      rw [hR']
      unfold fnR
      split
      · unfold pEnd; rfl
      · unfold pSubs; rfl
    · exact hf
  obtain ⟨w0, hw0⟩ : ∃ w0, w0 = w.alloc (.cells #[.int .i64 0, .string ⟨#[]⟩, .int .i64 0, .string ⟨#[]⟩, .string ⟨#[]⟩, .slice none 0 0, .slice none 0 0] 42) := ⟨_, rfl⟩
  have B0 : Below w.heap.size w w0 := by rw [hw0]; exact below_new (Below.refl _ _) _
  have X0 : Bx w.heap.size w0 := by rw [hw0]; exact heap_alloc_new w _
  have hl0 : w.heap.size < w0.heap.size := (Array.getElem?_eq_some_iff.1 X0).1
  have hne0 : w.heap.size ≠ r ∧ w.heap.size ≠ cu := ⟨Nat.ne_of_gt hr, Nat.ne_of_gt hq0⟩
  have C0 := hc.on (KQ.of_below B0)
  have h0 := h.below B0
  have SG := Lib.hid (rsign_any C0 h0 ⟨#[40]⟩)
  have p0 := h0.p
  have HC0 := Lib.hid C0
  have HX0 := Lib.hid X0
  have HK0 := Lib.hid (KQ.of_below (q := cu) (r := r) B0)
  have HCW := Lib.hid hc
  have HR := Lib.hid hR'
  have HNE := Lib.hid hne
  have RDD := Lib.hid RD
  have HD := Lib.hid hd
  have HS := Lib.hid hs
  have HW0 := Lib.hid hw0
  clear h hc hR hR' hne RD hd hw0 B0 X0 C0 h0 hs
  go_enter Tryz.func181, Tryz.ntmps181
  go_upto_region 1 with fail
  rw [← HW0.out]
  go_wp2_with fail
  refine SG.out.mono ?_; rintro e w1 ⟨rfl, h1, k1⟩
  have h1' : RSt cu r A S.n cn (i + 1) c 0 w1 := by
    have e : S.sign i (ByteArray.mk #[40]).data.toList = true := HS.out
    rw [e] at h1; exact h1
  have C1 := HC0.out.on k1
  have SK := Lib.hid (rskip_any C1 h1' ⟨#[41]⟩)
  have HX1 : Hid (Bx w.heap.size w1) := Lib.hid ((k1.blk hl0 hne0).trans HX0.out)
  have HK1 := Lib.hid (HK0.out.trans k1)
  have HC1 := Lib.hid C1
  have hl1 := Nat.lt_of_lt_of_le hl0 k1.size
  have p1 := h1'.p
  clear h1 h1' k1 C1 SG HX0 HK0 HC0 p0
  go_wp2_with fail
  refine SK.out.mono ?_; rintro e w2 ⟨rfl, h2, k2⟩
  obtain ⟨v, hv⟩ : ∃ v, S.sign (i + 1) (ByteArray.mk #[41]).data.toList = v := ⟨_, rfl⟩
  rw [hv] at h2 ⊢
  have HV : Hid (S.sign (i + 1) [41] = v) := Lib.hid hv
  have C2 := HC1.out.on k2
  have HX2 : Hid (Bx w.heap.size w2) := Lib.hid ((k2.blk hl1 hne0).trans HX1.out)
  have HK2 := Lib.hid (HK1.out.trans k2)
  have HC2 := Lib.hid C2
  have hl2 := Nat.lt_of_lt_of_le hl1 k2.size
  have H2 := Lib.hid h2
  have p2 := h2.p
  clear hv h2 k2 C2 SK HX1 HK1 HC1 p1
  go_upto_if 17 with fail
  go_cut [5] (fun s5 wx => ∃ (ss : List Ty) (n6 : Nat) (A6 : Option Addr) (c6 i c b g : Nat), s5 = .slice A6 n6 c6 ∧ FnJ w cu r A S cn d f R ss n6 A6 c6 i c b g wx)
  case first =>
    cases v with
    | true =>
      have J : Hid (FnJ w cu r A S cn d f R [] 0 none 0 (i + 2) c 0 f w2) := Lib.hid
        ⟨HK2.out, HX2.out, GrR.start _ _, H2.out, by rw [HR.out, badR_0]; unfold fnR; rw [if_pos HV.out], Nat.le_refl _, by omega, hc5⟩
      clear H2 HC2 HX2 HK2 p2
      go_wp2_with fail
      go_meet
      exact ⟨[], 0, none, 0, i + 2, c, 0, f, rfl, J.out⟩
    | false =>
      have hF : R = pSubs S f d (i + 1) c [] := by rw [HR.out]; unfold fnR; rw [if_neg (by rw [HV.out]; decide)]
      have PA := Lib.hid (params_any RDD.out HC2.out H2.out hc5 HD.out hd5 R hF HNE.out)
      clear hF H2
      go_wp2_with fail
      refine PA.out.mono ?_; rintro e w3 ⟨ss, n6, A6, c6, i3, c3, b3, g, rfl, k3, ROW3, h3, hfin, hg, h21, h20, hc3⟩
      have C3 := HC2.out.on k3
      have SG := Lib.hid (rsign_any C3 h3 ⟨#[41]⟩)
      have p3 := h3.p
      have hs3 := k3.size
      have HX3 : Hid (Bx w.heap.size w3) := Lib.hid ((k3.blk hl2 hne0).trans HX2.out)
      have HK3 := Lib.hid (HK2.out.trans k3)
      have HROW3 := Lib.hid (ROW3.lower (lo' := w.heap.size + 1) (by omega))
      have HFIN := Lib.hid hfin
      have HL3 := Lib.hid (⟨hg, h21, hc3⟩ : g ≤ f ∧ n6 ≤ 21 ∧ c3 ≤ 500)
      have hr3 := h3.lt
      have hq3 := h3.qlt
      clear k3 ROW3 h3 hfin hg h21 h20 hc3 C3 PA HC2 HX2 HK2 p2
      go_wp2_with fail
      refine SG.out.mono ?_; rintro e w4 ⟨rfl, h4, k4⟩
      have J : Hid (FnJ w cu r A S cn d f R ss n6 A6 c6 (psI b3 (S.sign i3 [41]) i3) c3 (psB b3 (S.sign i3 [41])) g w4) := Lib.hid
        ⟨HK3.out.trans k4, (k4.blk (by omega) hne0).trans HX3.out, HROW3.out.keep k4.size (fun b hb hlt => k4.blk hlt (by omega)), h4, by rw [HFIN.out]; exact shut_res, HL3.out.1, HL3.out.2.1, HL3.out.2.2⟩
      clear h4 k4 SG HX3 HK3 HROW3 HFIN HL3
      go_wp2_with fail
      go_meet
      exact ⟨ss, n6, A6, c6, _, c3, _, g, rfl, J.out⟩
  case rest =>
    obtain ⟨ss, n6, A6, c6, i2, c2, b2, g, rfl, hJ⟩ := hcut
    have HJ := Lib.hid hJ
    clear hJ H2 HC2 HX2 HK2 p2 HV
    obtain ⟨g', hg', hF⟩ : ∃ g', g' < f ∧ R = badR b2 i2 (pEnd S (g' + 1) d i2 c2 ss) := by
      have hfin := HJ.out.fin
      by_cases hb : b2 = 0
      · subst hb
        have hfu := HJ.out.fuel
        cases g with
        | zero => exact absurd (by rw [hfin, badR_0]; unfold pEnd; rfl) (HNE.out 0)
        | succ g' => exact ⟨g', by omega, hfin⟩
      · exact ⟨0, hf, by rw [hfin, badR_bad hb]⟩
    obtain ⟨w3, hw3⟩ : ∃ w3 : World, w3 = wc := ⟨_, rfl⟩
    subst hw3
    have C3 : RCtx W cu r A S w3 := HCW.out.on HJ.out.kp
    have R3 := HJ.out.rd
    have SG := Lib.hid (rsign_any C3 R3 ⟨#[45, 62]⟩)
    have p3 := R3.p
    have HC3 := Lib.hid C3
    have HF := Lib.hid hF
    have hl3 : w.heap.size < w3.heap.size := (Array.getElem?_eq_some_iff.1 HJ.out.box).1
    have h21 := HJ.out.some
    have hcnt := HJ.out.cnt
    have hl6 := HJ.out.rows.len6
    clear C3 R3 hF
    go_wp2_with fail
    refine SG.out.mono ?_; rintro e w5 ⟨rfl, h5, k5⟩
    obtain ⟨b5, hb5⟩ : ∃ b5, psB b2 (S.sign i2 [45, 62]) = b5 := ⟨_, rfl⟩
    obtain ⟨i5, hi5⟩ : ∃ i5, psI b2 (S.sign i2 [45, 62]) i2 = i5 := ⟨_, rfl⟩
    have h5' : RSt cu r A S.n cn i5 c2 b5 w5 := by rw [← hb5, ← hi5]; exact h5
    have C5 := HC3.out.on k5
    have RE1 := RDD.out g' hg' d' (n6 + 1) i5 c2 b5 w5 C5 h5' hcnt hd5 (by omega) (fun hz j => by
      rw [HD.out, one_read]
      have hb0 : b2 = 0 := psB_0 (hb5.trans hz)
      subst hb0
      have hF := HF.out
      rw [badR_0] at hF
      rw [← hl6, ← hi5]
      exact end_hne (fun j => by rw [← hF]; exact HNE.out j) (hb5.trans hz) j)
    rw [HD.out, one_read, ← HD.out] at RE1
    have RE : Calls Tryz.prog 161 #[.pointer (some ⟨r, 0, none⟩), .int .i64 d', .int .i64 ((n6 : Int) + 1)] w5 (COut w5 cu r A S.n cn (badR b5 i5 (oneR S g' d i5 c2 n6))) := RE1
    have HRE := Lib.hid RE
    have HI5 := Lib.hid (⟨hb5, hi5⟩ : psB b2 (S.sign i2 [45, 62]) = b5 ∧ psI b2 (S.sign i2 [45, 62]) i2 = i5)
    have hs5 := k5.size
    have HROW5 := Lib.hid (HJ.out.rows.keep hs5 (fun b hb hlt => k5.blk hlt (by omega)))
    have HX5 : Hid (Bx w.heap.size w5) := Lib.hid ((k5.blk hl3 hne0).trans HJ.out.box)
    have HK5 := Lib.hid (HJ.out.kp.trans k5)
    have n63 : (n6 : Int) + 1 ≤ 9223372036854775807 := by omega
    have hr5 := h5'.lt
    have hq5 := h5'.qlt
    have HL6 := Lib.hid hl6
    clear h5 h5' k5 C5 RE RE1 hb5 hi5 SG HC3 HJ hl6 p3
    go_wp2_with fail
    refine HRE.out.mono ?_; rintro e w7 ⟨l, t, i7, c7, b7, rfl, hT7, k7, h7, hc7, hres⟩
    obtain ⟨An, cA, As, cS, rfl, -⟩ := hT7.parts
    obtain ⟨w8, hw8⟩ : ∃ w8, w8 = w7.alloc (.cells #[.int .i64 t.kind, .string t.pkg, .int .i64 t.major, .string t.mod, .string t.name, .slice An t.names.length cA, .slice As t.subs.length cS] 42) := ⟨_, rfl⟩
    have hs7 := k7.size
    have B8 : Below w7.heap.size w7 w8 := by rw [hw8]; exact below_new (Below.refl _ _) _
    have h8 := h7.below B8
    have s8 : w8.heap.size = w7.heap.size + 1 := by rw [hw8]; simp
    have O8 : w8.heap[w7.heap.size]? = some (.cells #[.int .i64 t.kind, .string t.pkg, .int .i64 t.major, .string t.mod, .string t.name, .slice An t.names.length cA, .slice As t.subs.length cS] 42 (0, 0)) := by rw [hw8]; exact heap_alloc_new w7 _
    have X8 : Bx w.heap.size w8 := (B8.block _ (by omega)).trans ((k7.blk (by omega) hne0).trans HX5.out)
    have K8 := (HK5.out.trans k7).trans (KQ.of_below B8)
    have ROW8 := HROW5.out.keep (w' := w8) (by omega) (fun b hb hlt => (B8.block b (by omega)).trans (k7.blk hlt (by omega)))
    have T8 : TyAt (strike (· < w5.heap.size) w8) [.int .i64 t.kind, .string t.pkg, .int .i64 t.major, .string t.mod, .string t.name, .slice An t.names.length cA, .slice As t.subs.length cS] t := hT7.move (by omega) fun b hb hS => ⟨hS, B8.block b hb⟩
    have HW8 := Lib.hid hw8
    have x0 := Lib.cell_of_heap O8 0
    have x1 := Lib.cell_of_heap O8 1
    have x2 := Lib.cell_of_heap O8 2
    have x3 := Lib.cell_of_heap O8 3
    have x4 := Lib.cell_of_heap O8 4
    have x5 := Lib.cell_of_heap O8 5
    have x6 := Lib.cell_of_heap O8 6
    simp at x0 x1 x2 x3 x4 x5 x6
    obtain ⟨C, hC1, hC2, hown6, hC4⟩ := ROW8.subs
    obtain ⟨inf, hi1', hy0, hy1, hy2⟩ := info_parts typ_info
    have hMX : n6 + 1 ≤ maxLen := by unfold maxLen; omega
    have hwo : ∀ b, (Value.slice A6 n6 c6).ownBlock = some b → b < w5.heap.size := fun b e => by
      obtain ⟨C', -, -, h3, -⟩ := HROW5.out.subs
      exact (h3.lt b e).2
    have hAL : w.heap.size + 1 ≤ (w8.alloc (.cells #[.int .i64 t.kind, .string t.pkg, .int .i64 t.major, .string t.mod, .string t.name, .slice An t.names.length cA, .slice As t.subs.length cS] 42)).heap.size := by have e1 : (w8.alloc (.cells #[.int .i64 t.kind, .string t.pkg, .int .i64 t.major, .string t.mod, .string t.name, .slice An t.names.length cA, .slice As t.subs.length cS] 42)).heap.size = w8.heap.size + 1 := (by simp); omega
    have hNW : ∀ j u, ([.int .i64 t.kind, .string t.pkg, .int .i64 t.major, .string t.mod, .string t.name, .slice An t.names.length cA, .slice As t.subs.length cS] : List Value)[j]? = some u → (w8.alloc (.cells #[.int .i64 t.kind, .string t.pkg, .int .i64 t.major, .string t.mod, .string t.name, .slice An t.names.length cA, .slice As t.subs.length cS] 42)).cell? ((⟨w8.heap.size, 0, none⟩ : Addr).add j) = some u := fun q u hq => by rw [WideShapes.add_plain, Nat.zero_add, Lib.cell_of_heap (heap_alloc_new w8 _), ← hq, ← List.getElem?_toArray]
    have S8 := Lib.hid s8
    have hb8 : w7.heap.size < w8.heap.size := by omega
    have hb8' : w.heap.size + 1 ≤ w8.heap.size := by omega
    have hb8'' : w5.heap.size ≤ w8.heap.size := by omega
    clear hw8 s8 B8 O8 hT7 k7 h7
    go_upto_region 8 with fail
    rw [← HW8.out]
    have KEY : ∀ (gb cap : Nat) (w9 : World), w9.ownsRow (w.heap.size + 1) 42 7 (.slice (some ⟨gb, 0, none⟩) (n6 + 1) cap) (n6 + 1) (C.flatten ++ [.int .i64 t.kind, .string t.pkg, .int .i64 t.major, .string t.mod, .string t.name, .slice An t.names.length cA, .slice As t.subs.length cS]) → (w8.alloc (.cells #[.int .i64 t.kind, .string t.pkg, .int .i64 t.major, .string t.mod, .string t.name, .slice An t.names.length cA, .slice As t.subs.length cS] 42)).grownBy w9 (Value.slice A6 n6 c6).ownBlock → ((Value.slice A6 n6 c6).ownBlock = some gb ∨ gb = (w8.alloc (.cells #[.int .i64 t.kind, .string t.pkg, .int .i64 t.major, .string t.mod, .string t.name, .slice An t.names.length cA, .slice As t.subs.length cS] 42)).heap.size) →
        w9.heap[w.heap.size]? = some (.cells #[.int .i64 0, .string ⟨#[]⟩, .int .i64 0, .string ⟨#[]⟩, .string ⟨#[]⟩, .slice none 0 0, .slice none 0 0] 42 (0, 0)) ∧ (∀ j v, ([.int .i64 7, .string ⟨#[]⟩, .int .i64 0, .string ⟨#[]⟩, .string ⟨#[]⟩, .slice none 0 0, .slice (some ⟨gb, 0, none⟩) (n6 + 1) cap] : List Value)[j]? = some v → (w9.setRow w.heap.size #[.int .i64 7, .string ⟨#[]⟩, .int .i64 0, .string ⟨#[]⟩, .string ⟨#[]⟩, .slice none 0 0, .slice (some ⟨gb, 0, none⟩) (n6 + 1) cap]).cell? ⟨w.heap.size, j, none⟩ = some v) ∧
        COut w cu r A S.n cn R (.returned (.agg #[.int .i64 7, .string ⟨#[]⟩, .int .i64 0, .string ⟨#[]⟩, .string ⟨#[]⟩, .slice none 0 0, .slice (some ⟨gb, 0, none⟩) (n6 + 1) cap])) (w9.setRow w.heap.size #[.int .i64 7, .string ⟨#[]⟩, .int .i64 0, .string ⟨#[]⟩, .string ⟨#[]⟩, .slice none 0 0, .slice (some ⟨gb, 0, none⟩) (n6 + 1) cap]) := by
      intro gb cap w9 hown9 hgrow hat
      obtain ⟨ROW9, K9, old9, oth9, hs9⟩ := GrR.moreK ROW8 (by omega) hb8'' hwo hC1 hC2 hC4 rfl T8 hown9 hgrow hat K8 (by omega)
      have h9 : RSt cu r A S.n cn i7 c7 b7 w9 := h8.keep fun k hk hlt => oth9 k (fun vs fr e => by
        rcases hk _ _ _ e with q | q | q <;> exact absurd q (by decide)) hlt
      have X9 : Bx w.heap.size w9 := (old9 _ (by omega) (by omega)).trans X8
      have FIN : R = badR b7 i7 (.ok (.mk 7 ⟨#[]⟩ 0 ⟨#[]⟩ ⟨#[]⟩ [] (ss ++ [t])) i7 c7) := by
        rw [HF.out]; exact end_res (by rw [HI5.out.1, HI5.out.2, HL6.out]; exact hres.symm)
      have DONE := ROW9.done 7 (m := w.heap.size + 1) (Nat.le_refl _) (by omega) (by omega)
      exact ⟨X9, COut.seal (R := R) (Nat.le_refl _) X9 K9 DONE (Nat.lt_succ_self _) hr h9 hc7 FIN.symm⟩
    have HKEY := Lib.hid KEY
    clear hres h8 X8 K8 ROW8 T8 hC1 hC2 hC4 HRE HROW5 HK5 HX5 hwo KEY
    go_wp2_with (first
      | ((with_reducible refine wpList_append_lies _ ?_ (.tmp 37) (.tmp 39) 40 ?_ (w.heap.size + 1) 42 inf _ 7 112 ?_ hi1' hy0 hy1 hy2 ?_ ?_ (.slice A6 n6 c6) (n6) _ ?_ (hown6.alloc _) ⟨w8.heap.size, 0, none⟩ 1 1 [.int .i64 t.kind, .string t.pkg, .int .i64 t.major, .string t.mod, .string t.name, .slice An t.names.length cA, .slice As t.subs.length cS] ?_ ?_ ?_ ?_ ?_ ?_ ?_ ?_ _ rfl ?_); rfl; rfl; exact Tryz.underlying40; rfl; exact Nat.zero_lt_succ _; rfl; rfl; rfl; exact hNW; exact (fun u hu => by simp at hu; rcases hu with rfl | rfl | rfl | rfl | rfl | rfl | rfl <;> rfl); exact Nat.one_pos; exact hMX; omega; exact hAL; intro gb cap w9 hown9 hgrow hat hlt9; obtain ⟨X9, SE⟩ := HKEY.out gb cap w9 hown9 hgrow hat; have SEAL := Lib.hid SE; clear SE hown9 hgrow hat x0 x1 x2 x3 x4 x5 x6 hown6 hNW hAL hMX hi1' hy0 hy1 hy2)
      | (((with_reducible refine wpList_putRow 42 (w.heap.size) #[.int .i64 7, .string ⟨#[]⟩, .int .i64 0, .string ⟨#[]⟩, .string ⟨#[]⟩, .slice none 0 0, .slice (some ⟨gb, 0, none⟩) (n6 + 1) cap] _ _ X9 ?_ ?_ ?_ ?_ ?_ ?_); exact tySize; rfl; exact tyOne; (focus (first | (go_simp; done) | rfl)); (focus (first | (go_simp; done) | rfl)))))
    exact ret_agg1 (fn := Tryz.f181) (vs := [.int .i64 7, .string ⟨#[]⟩, .int .i64 0, .string ⟨#[]⟩, .string ⟨#[]⟩, .slice none 0 0, .slice (some ⟨gb, 0, none⟩) (n6 + 1) cap]) (b := w.heap.size) rfl rfl Tryz.underlying42 (by kernel_rfl) SEAL.out.1 rfl SEAL.out.2

end Go.Proofs.YtpfoclpgcbjjoaaGreatDoor
