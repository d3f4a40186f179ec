/-
  Several texts in one: The walk of the reference's major. · The walk of the reference's major. · The walk of the reference's one: a function's next type, behind so many. · What the reference's reader does at a name, and plain results of what follows: for the walk of its Type. · The code's Word: a name that is asked for, and taken. · Plain: a text is a number without noughts ahead just if it is what the number's digits are. · The code's Number, 1 being the least. · The code's reader: a cursor, and how many types have begun. The cursor's calls, as the reader makes them. · The code's local and open. · The code's list, over what read tells. · Plain: what a token begins, and what is read then. · A region that draws its order and only reads, but for its last operation, a call for which all others are waited: one walk of the text's order serves every order. Nothing of any program.
-/
import Derived.Test.YtapjhmfbmkckaaaGreatDoorJ02
import Derived.LoopTactic
import Derived.Test.YtapjhmfbmkckaaaGreatDoorJ01
import Derived.Lib.AtoiTie
import Derived.Lib.AtoiAllCases
import Derived.Lib.ItoaNum
import Derived.Lib.AtoiErrMem
import Derived.Lib.QuietBelow
import Derived.Lib.AppendIntMem
import Derived.Deep.DeepCutAuto
import Derived.Test.YtapjhmfbmkckaaaGreatDoorJ00
/- The walk of the reference's major. -/
namespace Go.Proofs.YtapjhmfbmkckaaaGreatDoor
open Go.RowKit
open Go.Sort
open M

namespace M
theorem digs_snoc (c : UInt8) : ∀ (l : List UInt8) (a : Int), digs (l ++ [c]) a = 10 * digs l a + ((c.toNat : Int) - 48)
  | [], _ => rfl
  | _ :: r, _ => digs_snoc c r _
theorem take_snoc (l : List UInt8) (k : Nat) (h : k < l.length) : l.take (k + 1) = l.take k ++ [l.getD k 0] := by
  rw [List.take_add_one, List.getElem?_eq_getElem h]
  simp [List.getD_eq_getElem?_getD, List.getElem?_eq_getElem h]
/-- So far the number stands, or it is none. -/
inductive Maj (l : List UInt8) (k : Nat) : Int → Bool → Prop where
  | yes (hl : 1 ≤ l.length ∧ l.length ≤ 9) (ha : ∀ j, j < k → digC (bt l j) = true) (h0 : 0 < k → 48 < bt l 0) (hb : 0 ≤ digs (l.take k) 0 ∧ digs (l.take k) 0 < (10 ^ k : Nat)) : Maj l k (digs (l.take k) 0) true
  | no (n : Int) (h : majorOk l = false) : Maj l k n false
theorem Maj.start {l : List UInt8} (hl : 1 ≤ l.length ∧ l.length ≤ 9) : Maj l 0 0 true := by
  have h := Maj.yes (l := l) (k := 0) hl (fun j hj => by omega) (fun hj => by omega) (by rw [List.take_zero]; show (0 : Int) ≤ 0 ∧ (0 : Int) < ((10 ^ 0 : Nat) : Int); decide)
  rw [List.take_zero] at h
  exact h
theorem Maj.step_yes {l : List UInt8} {k : Nat} (hl : 1 ≤ l.length ∧ l.length ≤ 9) (ha : ∀ j, j < k → digC (bt l j) = true) (h0 : 0 < k → 48 < bt l 0) (hb : 0 ≤ digs (l.take k) 0 ∧ digs (l.take k) 0 < (10 ^ k : Nat))
    (hk : k < l.length) {x : Int} (hx : x = bt l k) (h1 : 48 ≤ x) (h2 : x ≤ 57) (h3 : 0 < k ∨ 48 < x) {n : Int} (hn : n = 10 * digs (l.take k) 0 + x - 48) : Maj l (k + 1) n true := by
  subst hx
  have e : digs (l.take (k + 1)) 0 = n := by
    rw [take_snoc l k hk, digs_snoc, hn]
    unfold bt
    omega
  rw [← e]
  refine .yes hl (fun j hj => ?_) (fun _ => ?_) ?_
  · rcases Nat.lt_or_ge j k with d | d
    · exact ha j d
    · rw [show j = k by omega]; unfold digC; simp; omega
  · rcases h3 with h3 | h3
    · exact h0 h3
    · rcases Nat.eq_zero_or_pos k with z | z
      · rw [z] at h3; exact h3
      · exact h0 z
  · rw [e, hn, Nat.pow_succ]
    obtain ⟨b1, b2⟩ := hb
    generalize digs (l.take k) 0 = m at b1 b2
    generalize (10 ^ k : Nat) = p at b2
    constructor
    · omega
    · push_cast; omega
theorem majorOk_iff (l : List UInt8) : majorOk l = true ↔ 1 ≤ l.length ∧ l.length ≤ 9 ∧ (∀ j, j < l.length → digC (bt l j) = true) ∧ 48 < bt l 0 := by
  unfold majorOk
  simp only [Bool.and_eq_true, decide_eq_true_eq]
  rw [all_iff]
  exact ⟨fun h => ⟨h.1.1.1, h.1.1.2, h.1.2, h.2⟩, fun h => ⟨⟨⟨h.1, h.2.1⟩, h.2.2.1⟩, h.2.2.2⟩⟩
theorem major_len (l : List UInt8) (h : ¬ (1 ≤ l.length ∧ l.length ≤ 9)) : majorOk l = false := by
  rw [Bool.eq_false_iff]; intro e; exact h ⟨((majorOk_iff l).1 e).1, ((majorOk_iff l).1 e).2.1⟩
theorem major_byte {l : List UInt8} {k : Nat} (hk : k < l.length) {x : Int} (hx : x = bt l k) (h : x < 48 ∨ 57 < x ∨ (k = 0 ∧ x ≤ 48)) : majorOk l = false := by
  rw [Bool.eq_false_iff]; intro e
  obtain ⟨_, _, a, z⟩ := (majorOk_iff l).1 e
  have := a k hk
  unfold digC at this
  simp at this
  rcases h with h | h | ⟨rfl, h⟩ <;> omega
theorem Maj.all {l : List UInt8} {k : Nat} (hl : 1 ≤ l.length ∧ l.length ≤ 9) (ha : ∀ j, j < k → digC (bt l j) = true) (h0 : 0 < k → 48 < bt l 0) (hk : l.length ≤ k) : majorOk l = true :=
  (majorOk_iff l).2 ⟨hl.1, hl.2, fun j hj => ha j (by omega), h0 (by omega)⟩
end M

def mjV (b : Nat) (q : Bool) (l : List UInt8) : Int := if b = 0 ∧ q = true then digs l 0 else 0
theorem mjV_yes (l : List UInt8) : mjV 0 true l = digs l 0 := rfl
theorem mjV_no (b : Nat) (l : List UInt8) : mjV b false l = 0 := if_neg (fun x => by cases x.2)
theorem mjV_bad {b : Nat} (q : Bool) (l : List UInt8) (h : b ≠ 0) : mjV b q l = 0 := if_neg (fun x => h x.1)

end Go.Proofs.YtapjhmfbmkckaaaGreatDoor

/- The walk of the reference's major. -/
namespace Go.Proofs.YtapjhmfbmkckaaaGreatDoor
open Go.RowKit
open Go.Sort
open M

end Go.Proofs.YtapjhmfbmkckaaaGreatDoor

/- The walk of the reference's one: a function's next type, behind so many. -/
namespace Go.Proofs.YtapjhmfbmkckaaaGreatDoor
open Go.RowKit
open Go.Sort
open M

def oneR (S : Toks) (f d i c n : Nat) : Res Ty := if S.begins i = true ∧ 20 ≤ n then .err 3 i else pT S f (d + 1) i c

end Go.Proofs.YtapjhmfbmkckaaaGreatDoor

/- What the reference's reader does at a name, and plain results of what follows: for the walk of its Type. -/
namespace Go.Proofs.YtapjhmfbmkckaaaGreatDoor
open Go.RowKit
open Go.Sort
open M

theorem tok_size {W : World} {r : Nat} {A : Option Addr} {S : Toks} {w : World} (hc : RdCtx W r A S w) {i : Nat} (hi : i < S.n) : (S.T i).size ≤ 9223372036854775807 := by
  obtain ⟨g, o, y, -, -, -, -, -, hz⟩ := hc.toks i hi
  exact hz
/-- Plain: a sign, a name, one behind the other. -/
theorem sign_res {α : Type} (q : Bool) (b i : Nat) (x : Nat → Res α) : badR (psB b q) (psI b q i) (x (psI b q i)) = badR b i (if q = false then .err 2 i else x (i + 1)) := by
  by_cases hb : b = 0
  · subst hb
    cases q
    · rw [psB_no, psI_no]; rfl
    · rw [psB_yes, psI_yes]; rfl
  · rw [psB_bad _ hb, psI_bad _ _ hb, badR_ne _ _ hb, badR_ne _ _ hb]
/-- What a Record, a Variant, and a function come to. -/
def partsR (S : Toks) (k : Int) (z : List UInt8) (f d i c : Nat) : Res Ty := if k = 5 ∧ S.sign i z = true then .ok (leafK 5) (i + 1) c else pParts S k z f d i c [] []
def fnR (S : Toks) (f d i c : Nat) : Res Ty := if S.sign i [41] = true then pEnd S f d (i + 1) c [] else pSubs S f d i c []
/-- A List, behind its word. -/
def listR (S : Toks) (f d i c : Nat) : Res Ty :=
  if S.sign (i + 1) [40] = false then .err 2 (i + 1)
  else match pT S f (d + 1) (i + 2) (c + 1) with
   | .err b j => .err b j
   | .ok s j c' => if S.sign j [41] = false then .err 2 j else .ok (Ty.mk 4 ⟨#[]⟩ 0 ⟨#[]⟩ ⟨#[]⟩ [] [s]) (j + 1) c'
/-- What is beside words and limits. -/
def restR (S : Toks) (f d i c : Nat) : Res Ty :=
  if S.K i = 1 then pLocal S (S.T i) (i + 1) (c + 1)
  else if S.K i = 2 then
    (if baseT (S.T i).data.toList = 4 then
      listR S f d i c
     else if 0 < baseT (S.T i).data.toList then .ok (leafK (baseT (S.T i).data.toList)) (i + 1) (c + 1)
     else .ok (localT ⟨#[]⟩ (S.T i)) (i + 1) (c + 1))
  else if (S.T i).data.toList = [123] then partsR S 5 [125] f d (i + 1) (c + 1)
  else if (S.T i).data.toList = [91] then partsR S 6 [93] f d (i + 1) (c + 1)
  else if (S.T i).data.toList = [60] then pOpen S (i + 1) (c + 1)
  else fnR S f d (i + 1) (c + 1)
theorem pT_eq (S : Toks) (f d i c : Nat) : pT S (f + 1) d i c = if S.begins i = false then .err 2 i else if 32 < d ∨ 500 ≤ c then .err 3 i else restR S f d i c := by
  conv => lhs; unfold pT
  unfold restR listR partsR fnR
  simp
  rfl
theorem list_res {S : Toks} {f d i c b2 i2 c2 : Nat} {s : Ty} (h : badR (psB 0 (S.sign (i + 1) [40])) (psI 0 (S.sign (i + 1) [40]) (i + 1)) (pT S f (d + 1) (psI 0 (S.sign (i + 1) [40]) (i + 1)) (c + 1)) = badR b2 i2 (.ok s i2 c2)) :
    listR S f d i c = badR (psB b2 (S.sign i2 [41])) (psI b2 (S.sign i2 [41]) i2) (.ok (Ty.mk 4 ⟨#[]⟩ 0 ⟨#[]⟩ ⟨#[]⟩ [] [s]) (psI b2 (S.sign i2 [41]) i2) c2) := by
  rw [sign_res (S.sign i2 [41]) b2 i2 (fun j => Res.ok (Ty.mk 4 ⟨#[]⟩ 0 ⟨#[]⟩ ⟨#[]⟩ [] [s]) j c2)]
  rw [sign_res (S.sign (i + 1) [40]) 0 (i + 1) (fun j => pT S f (d + 1) j (c + 1)), badR_0] at h
  unfold listR
  by_cases hq : S.sign (i + 1) [40] = false
  · rw [if_pos hq] at h ⊢
    by_cases hb : b2 = 0
    · subst hb; cases h
    · rw [badR_ne _ _ hb] at h ⊢; exact h
  · rw [if_neg hq] at h ⊢
    rw [h]
    by_cases hb : b2 = 0
    · subst hb; rfl
    · rw [badR_ne _ _ hb, badR_ne _ _ hb]
end Go.Proofs.YtapjhmfbmkckaaaGreatDoor

/- The code's Word: a name that is asked for, and taken. -/
namespace Go.Proofs.YtapjhmfbmkckaaaGreatDoor
open Go.RowKit
open Go.Sort
open M

theorem clone_own (s : ByteArray) (w : World) (hs : s.size ≤ 281474976710656) : Calls Tryz.prog 50 #[.string s] w fun e w' => e = .returned (.string s) ∧ Below w.heap.size w w' := by
  go_enter Tryz.func50, Tryz.ntmps50
  go_wp2_with fail
  refine (Tryz.stringslite_Clone _ _ hs).mono ?_; rintro e w1 ⟨rfl, hb1⟩
  go_wp2
  go_ret
  exact ⟨rfl, hb1⟩

/-- A function that asks for a token's sort. -/
structure AsksOk (f : Nat) (p : Int → ByteArray → Bool) : Prop where
  says : ∀ (k y : Int) (s : ByteArray) (w : World), s.size ≤ 9223372036854775807 → Calls Tryz.prog f #[tokV k y s] w fun e w' => e = .returned (.bool (p k s)) ∧ Below w.heap.size w w'
  enters : ∀ args w, (callFunc f args).run Tryz.prog w = .ok (.enter f args) w
/-- What a name leaves. -/
def NameOut (S : Toks) (ok : Bool) (i b : Nat) (s : ByteArray) (i' b' : Nat) : Prop :=
  (b = 0 ∧ ok = true ∧ s = S.T i ∧ i' = i + 1 ∧ b' = 0) ∨ (b = 0 ∧ ok = false ∧ i' = i ∧ b' = 2) ∨ (b ≠ 0 ∧ i' = i ∧ b' = b)

theorem NameOut.b0 {S : Toks} {ok : Bool} {i b : Nat} {s : ByteArray} {i' b' : Nat} (h : NameOut S ok i b s i' b') (h0 : b' = 0) : b = 0 := by
  rcases h with ⟨h, -⟩ | ⟨h, -⟩ | ⟨-, -, h⟩
  · exact h
  · exact h
  · omega

end Go.Proofs.YtapjhmfbmkckaaaGreatDoor

/- Plain: a text is a number without noughts ahead just if it is what the number's digits are. -/
namespace Go.Proofs.YtapjhmfbmkckaaaGreatDoor.M
open Go Go.Lib

theorem nd_small {u : Nat} (h : u < 10) : decDigits u = [UInt8.ofNat (48 + u)] := by rw [decDigits, dif_pos h]
theorem nd_big {u : Nat} (h : 10 ≤ u) : decDigits u = decDigits (u / 10) ++ [UInt8.ofNat (48 + u % 10)] := by rw [decDigits, dif_neg (by omega)]
theorem nd_nat {n : Nat} (h : n < 256) : (UInt8.ofNat n).toNat = n := by simp; omega
theorem nd_ne (u : Nat) : decDigits u ≠ [] := by
  by_cases h : u < 10
  · rw [nd_small h]; simp
  · rw [nd_big (by omega)]; simp
theorem nd_mem : ∀ (n u : Nat), u < n → ∀ c ∈ decDigits u, 48 ≤ c.toNat ∧ c.toNat ≤ 57
  | 0, _, h => by omega
  | n + 1, u, h => by
    intro c hc
    by_cases hs : u < 10
    · rw [nd_small hs] at hc
      simp only [List.mem_singleton] at hc
      rw [hc, nd_nat (by omega)]; omega
    · rw [nd_big (by omega)] at hc
      rcases List.mem_append.1 hc with hc | hc
      · exact nd_mem n (u / 10) (by omega) c hc
      · simp only [List.mem_singleton] at hc
        rw [hc, nd_nat (by omega)]; omega
theorem nd_head : ∀ (n u : Nat), u < n → 1 ≤ u → 48 < bt (decDigits u) 0
  | 0, _, h, _ => by omega
  | n + 1, u, h, h1 => by
    by_cases hs : u < 10
    · rw [nd_small hs]
      have := nd_nat (n := 48 + u) (by omega)
      show (48 : Int) < (((UInt8.ofNat (48 + u)).toNat : Nat) : Int)
      omega
    · rw [nd_big (by omega)]
      have ih := nd_head n (u / 10) (by omega) (by omega)
      have hne := nd_ne (u / 10)
      cases hd : decDigits (u / 10) with
      | nil => exact absurd hd hne
      | cons a t => rw [hd] at ih; exact ih
theorem nd_len : ∀ (k u : Nat), u < 10 ^ (k + 1) → (decDigits u).length ≤ k + 1
  | 0, u, h => by rw [nd_small (by simpa using h)]; simp
  | k + 1, u, h => by
    by_cases hs : u < 10
    · rw [nd_small hs]; simp
    · rw [nd_big (by omega), List.length_append]
      have := nd_len k (u / 10) (by rw [Nat.pow_succ] at h; omega)
      simp; omega
theorem nd_digs : ∀ (n u : Nat), u < n → digs (decDigits u) 0 = u
  | 0, _, h => by omega
  | n + 1, u, h => by
    by_cases hs : u < 10
    · rw [nd_small hs]
      have := nd_nat (n := 48 + u) (by omega)
      show 10 * (0 : Int) + ((((UInt8.ofNat (48 + u)).toNat : Nat) : Int) - 48) = u
      omega
    · have := nd_nat (n := 48 + u % 10) (by omega)
      rw [nd_big (by omega), digs_snoc, nd_digs n (u / 10) (by omega)]
      omega

theorem mem_dig {l : List UInt8} (h : ∀ j, j < l.length → digC (bt l j) = true) : ∀ c ∈ l, 48 ≤ c.toNat ∧ c.toNat ≤ 57 := fun c hc => by
  obtain ⟨j, hj⟩ := List.getElem?_of_mem hc
  have hl := (List.getElem?_eq_some_iff.1 hj).1
  have := h j hl
  unfold digC bt at this
  rw [List.getD_eq_getElem?_getD, hj] at this
  simp at this
  omega
theorem of_digs : ∀ (n : Nat) (l : List UInt8), l.length = n → 1 ≤ n → (∀ c ∈ l, 48 ≤ c.toNat ∧ c.toNat ≤ 57) → 48 < bt l 0 → 1 ≤ digs l 0 ∧ decDigits (digs l 0).toNat = l
  | 0, _, _, h, _, _ => by omega
  | n + 1, l, hl, _, hm, h0 => by
    have hne : l ≠ [] := fun e => by rw [e] at hl; cases hl
    obtain ⟨l', c, rfl⟩ : ∃ l' c, l = l' ++ [c] := ⟨l.dropLast, l.getLast hne, (List.dropLast_concat_getLast hne).symm⟩
    have hc := hm c (by simp)
    have hcc : UInt8.ofNat (48 + (c.toNat - 48)) = c := by
      rw [show 48 + (c.toNat - 48) = c.toNat by omega]; simp
    rw [digs_snoc]
    by_cases hn : n = 0
    · subst hn
      have e : l' = [] := List.length_eq_zero_iff.1 (by simpa using hl)
      subst e
      have h1 : 48 < c.toNat := by
        have : (48 : Int) < ((c.toNat : Nat) : Int) := h0
        omega
      have hv : (10 * digs [] 0 + (((c.toNat : Nat) : Int) - 48)).toNat = c.toNat - 48 := by
        show (10 * (0 : Int) + (((c.toNat : Nat) : Int) - 48)).toNat = _
        omega
      refine ⟨by show (1 : Int) ≤ 10 * 0 + _; omega, ?_⟩
      rw [hv, nd_small (by omega), hcc]; rfl
    · have hl' : l'.length = n := by simpa using hl
      have hb : bt (l' ++ [c]) 0 = bt l' 0 := by
        unfold bt
        cases l' with
        | nil => simp at hl'; omega
        | cons a t => rfl
      rw [hb] at h0
      obtain ⟨h1, h2⟩ := of_digs n l' hl' (by omega) (fun x hx => hm x (by simp [hx])) h0
      generalize digs l' 0 = m at h1 h2
      refine ⟨by omega, ?_⟩
      have e1 : (10 * m + (((c.toNat : Nat) : Int) - 48)).toNat / 10 = m.toNat := by omega
      have e2 : (10 * m + (((c.toNat : Nat) : Int) - 48)).toNat % 10 = c.toNat - 48 := by omega
      rw [nd_big (by omega), e1, e2, h2, hcc]
theorem digs_lt : ∀ (l : List UInt8) (a : Int) (k : Nat), 0 ≤ a → a < (10 ^ k : Nat) → (∀ c ∈ l, 48 ≤ c.toNat ∧ c.toNat ≤ 57) → 0 ≤ digs l a ∧ digs l a < (10 ^ (k + l.length) : Nat)
  | [], a, k, h0, h1, _ => ⟨h0, h1⟩
  | c :: r, a, k, h0, h1, hm => by
    have hc := hm c (by simp)
    have e : (10 ^ (k + 1) : Nat) = 10 * 10 ^ k := by rw [Nat.pow_succ, Nat.mul_comm]
    have := digs_lt r (10 * a + ((c.toNat : Int) - 48)) (k + 1) (by omega) (by rw [e]; push_cast; push_cast at h1; omega) (fun x hx => hm x (by simp [hx]))
    rw [show k + (c :: r).length = k + 1 + r.length by simp; omega]
    exact this
theorem dec_digs : ∀ (l : List UInt8) (a : Nat), (∀ c ∈ l, 48 ≤ c.toNat ∧ c.toNat ≤ 57) → ∃ n : Nat, decFrom a l = some n ∧ (n : Int) = digs l a
  | [], a, _ => ⟨a, rfl, rfl⟩
  | c :: r, a, hm => by
    have hc := hm c (by simp)
    have hd : digitVal c = some (c.toNat - 48) := by unfold digitVal; rw [if_pos (by omega)]
    obtain ⟨n, h1, h2⟩ := dec_digs r (a * 10 + (c.toNat - 48)) (fun x hx => hm x (by simp [hx]))
    refine ⟨n, by simp only [decFrom, hd]; exact h1, ?_⟩
    rw [h2]
    show digs r _ = digs r _
    congr 1; omega
theorem num_yes {l : List UInt8} (h : majorOk l = true) : atoiAll l = .ok (digs l 0) ∧ 1 ≤ digs l 0 ∧ digs l 0 ≤ 999999999 ∧ decDigits (digs l 0).toNat = l := by
  obtain ⟨h1, h9, hd, h0⟩ := (majorOk_iff l).1 h
  have hm := mem_dig hd
  obtain ⟨p1, p2⟩ := of_digs l.length l rfl h1 hm h0
  have hb := digs_lt l 0 0 (by omega) (by decide) hm
  have hp : 10 ^ (0 + l.length) ≤ 10 ^ 9 := Nat.pow_le_pow_right (by decide) (by omega)
  have e9 : (10 : Nat) ^ 9 = 1000000000 := by decide
  refine ⟨?_, p1, by omega, p2⟩
  rw [atoiAll_short l (by omega)]
  cases l with
  | nil => simp at h1
  | cons c r =>
    have hc := hm c (by simp)
    have n45 : (c == 45) = false := by
      rw [beq_eq_false_iff_ne]; intro e; rw [e] at hc
      have : (45 : UInt8).toNat = 45 := rfl
      omega
    have n43 : (c == 43) = false := by
      rw [beq_eq_false_iff_ne]; intro e; rw [e] at hc
      have : (43 : UInt8).toNat = 43 := rfl
      omega
    obtain ⟨n, e1, e2⟩ := dec_digs (c :: r) 0 hm
    unfold atoi decNat
    simp only [n45, n43]
    rw [show (decFrom 0 (c :: r)) = some n from e1]
    simp [NumEnd.ofOption, e2]
theorem num_of {l : List UInt8} {v : Int} (h1 : 1 ≤ v) (h9 : v ≤ 999999999) (h : decDigits v.toNat = l) : majorOk l = true ∧ digs l 0 = v := by
  subst h
  have hl := nd_len 8 v.toNat (by have : (10 : Nat) ^ (8 + 1) = 1000000000 := by decide
                                  omega)
  have hne := nd_ne v.toNat
  refine ⟨(majorOk_iff _).2 ⟨?_, hl, fun j hj => ?_, nd_head (v.toNat + 1) v.toNat (by omega) (by omega)⟩, by rw [nd_digs (v.toNat + 1) v.toNat (by omega)]; omega⟩
  · rcases Nat.eq_zero_or_pos (decDigits v.toNat).length with e | e
    · exact absurd (List.length_eq_zero_iff.1 e) hne
    · exact e
  · have := nd_mem (v.toNat + 1) v.toNat (by omega) _ (List.getElem_mem hj)
    unfold digC bt
    rw [List.getD_eq_getElem?_getD, List.getElem?_eq_getElem hj]
    simp
    omega

end Go.Proofs.YtapjhmfbmkckaaaGreatDoor.M

/- The code's Number, 1 being the least. -/
namespace Go.Proofs.YtapjhmfbmkckaaaGreatDoor
open Go.RowKit
open Go.Sort
open M

/-- What a number leaves. -/
def NumOut (S : Toks) (i b : Nat) (v : Int) (i' b' : Nat) : Prop :=
  (b = 0 ∧ S.major i = true ∧ v = digs (S.T i).data.toList 0 ∧ i' = i + 1 ∧ b' = 0) ∨ (b = 0 ∧ S.major i = false ∧ i' = i ∧ b' = 2) ∨ (b ≠ 0 ∧ i' = i ∧ b' = b)
/-- Whether a token is a number as an Open's must be, by what the library tells. -/
theorem whole_eq {S : Toks} {b i : Nat} {v : Int} (hb : b = 0) (hk : (kAt S b i == 3) = true) (ha : Lib.atoiAll (tAt S b i).data.toList = .ok v) :
    (((Lib.itoa v).toArray.toList == (tAt S b i).data.toList) && (decide (1 ≤ v) && decide (v ≤ 999999999))) = S.major i ∧ (S.major i = true → v = digs (S.T i).data.toList 0) := by
  have hk3 : kAt S b i = 3 := by simpa using hk
  have hlt : i < S.n := by
    by_cases h : i < S.n
    · exact h
    · unfold kAt at hk3; rw [if_neg (fun x => h x.2)] at hk3; cases hk3
  have e1 : kAt S b i = S.K i := if_pos ⟨hb, hlt⟩
  have e2 : tAt S b i = S.T i := if_pos ⟨hb, hlt⟩
  rw [e2] at ha ⊢
  rw [e1] at hk3
  have hm : S.major i = majorOk (S.T i).data.toList := by unfold Toks.major; simp [hlt, hk3]
  rw [hm]
  cases hq : majorOk (S.T i).data.toList with
  | true =>
    obtain ⟨a1, a2, a3, a4⟩ := num_yes hq
    rw [a1] at ha
    have hv : digs (S.T i).data.toList 0 = v := by simpa using ha
    refine ⟨?_, fun _ => hv.symm⟩
    rw [← hv]
    unfold Lib.itoa
    rw [if_neg (by omega)]
    simp [a4, a2, a3]
  | false =>
    refine ⟨?_, fun h => by cases h⟩
    rw [Bool.eq_false_iff]
    intro h
    simp only [Bool.and_eq_true, decide_eq_true_eq, beq_iff_eq] at h
    obtain ⟨h1, h2, h3⟩ := h
    have : Lib.decDigits v.toNat = (S.T i).data.toList := by
      rw [← h1]; unfold Lib.itoa; rw [if_neg (by omega)]
    rw [(num_of h2 h3 this).1] at hq
    cases hq

/-- What is to be held of a number so far. -/
def NumQ (S : Toks) (i b : Nat) (v : Int) (q : Bool) : Prop := b = 0 → (q && (decide (1 ≤ v) && decide (v ≤ 999999999))) = S.major i ∧ (S.major i = true → v = digs (S.T i).data.toList 0)
theorem NumQ.no {S : Toks} {i b : Nat} {v : Int} (h : b = 0 → S.major i = false) : NumQ S i b v false := fun hb => ⟨(h hb).symm, fun e => by rw [h hb] at e; cases e⟩
theorem NumQ.out {S : Toks} {i b : Nat} {v : Int} {q p : Bool} (h : NumQ S i b v q) (hp : (q && (decide (1 ≤ v) && decide (v ≤ 999999999))) = p) : NumOut S i b v (upI (mustB b p 2) i) (mustB b p 2) := by
  by_cases hb : b = 0
  · subst hb
    obtain ⟨h1, h2⟩ := h rfl
    rw [hp] at h1
    cases p with
    | true => exact .inl ⟨rfl, h1.symm, h2 h1.symm, rfl, rfl⟩
    | false => exact .inr (.inl ⟨rfl, h1.symm, rfl, rfl⟩)
  · rw [mustB_bad _ _ hb, upI_ne _ hb]
    exact .inr (.inr ⟨hb, rfl, rfl⟩)
theorem major_k {S : Toks} {i b : Nat} (hb : b = 0) (hk : (kAt S b i == 3) = false) : S.major i = false := by
  cases h : S.major i with
  | false => rfl
  | true =>
    unfold Toks.major at h
    simp only [Bool.and_eq_true, decide_eq_true_eq, beq_iff_eq] at h
    have : kAt S b i = S.K i := if_pos ⟨hb, by simp_all⟩
    rw [this] at hk
    simp_all
theorem major_e {S : Toks} {i b : Nat} (hb : b = 0) (ha : ∀ u, Lib.atoiAll (tAt S b i).data.toList ≠ .ok u) : S.major i = false := by
  cases h : S.major i with
  | false => rfl
  | true =>
    unfold Toks.major at h
    simp only [Bool.and_eq_true, decide_eq_true_eq, beq_iff_eq] at h
    have e : tAt S b i = S.T i := if_pos ⟨hb, by simp_all⟩
    rw [e] at ha
    have hm : majorOk (S.T i).data.toList = true := by simp_all
    exact absurd (num_yes hm).1 (ha _)
theorem major_lt {S : Toks} {i : Nat} (h : S.major i = true) : i < S.n := by
  unfold Toks.major at h
  simp only [Bool.and_eq_true, decide_eq_true_eq, beq_iff_eq] at h
  simp_all

theorem NumOut.b0 {S : Toks} {i b : Nat} {v : Int} {i' b' : Nat} (h : NumOut S i b v i' b') (h0 : b' = 0) : b = 0 := by
  rcases h with ⟨h, -⟩ | ⟨h, -⟩ | ⟨-, -, h⟩
  · exact h
  · exact h
  · omega

end Go.Proofs.YtapjhmfbmkckaaaGreatDoor

/- The code's reader: a cursor, and how many types have begun. The cursor's calls, as the reader makes them. -/
namespace Go.Proofs.YtapjhmfbmkckaaaGreatDoor
open Go.RowKit
open Go.Sort
open M

/-- Of what was there only the cursor and the reader may have turned. -/
structure KQ (q r : Nat) (w w' : World) : Prop where
  os : w'.os = w.os
  tape : w'.tape = w.tape
  output : w'.output = w.output
  size : w.heap.size ≤ w'.heap.size
  block : ∀ j, j < w.heap.size → j ≠ r → j ≠ q → w'.heap[j]? = w.heap[j]?
theorem KQ.refl (q r : Nat) (w : World) : KQ q r w w := ⟨rfl, rfl, rfl, Nat.le_refl _, fun _ _ _ _ => rfl⟩
theorem KQ.trans {q r : Nat} {a b c : World} (h : KQ q r a b) (k : KQ q r b c) : KQ q r a c :=
  ⟨k.os.trans h.os, k.tape.trans h.tape, k.output.trans h.output, Nat.le_trans h.size k.size, fun j hj h1 h2 => (k.block j (Nat.lt_of_lt_of_le hj h.size) h1 h2).trans (h.block j hj h1 h2)⟩
theorem KQ.of_below {q r : Nat} {w w' : World} (h : Below w.heap.size w w') : KQ q r w w' := ⟨h.os, h.tape, h.output, h.size, fun j hj _ _ => h.block j hj⟩
theorem KQ.ofKp {q r : Nat} {w w' : World} (h : Kp q w w') : KQ q r w w' := ⟨h.os, h.tape, h.output, h.size, fun j hj _ h2 => h.blk hj h2⟩
theorem KQ.below {q r m : Nat} {w w' : World} (h : KQ q r w w') (hq : m ≤ q) (hr : m ≤ r) (hm : m ≤ w.heap.size) : Below m w w' := ⟨h.os, h.tape, h.output, h.size, fun j hj => h.block j (by omega) (by omega) (by omega)⟩
theorem KQ.put {q r : Nat} {w w' : World} (h : KQ q r w w') (i : Nat) (v : Value) : KQ q r w (w'.setCell ⟨r, i, none⟩ v) :=
  ⟨h.os, h.tape, h.output, by have := h.size; simpa using this, fun j hj h1 h2 => by
    rw [Below.heap_setCell _ _ _ _ (by show j ≠ r; exact h1)]
    exact h.block j hj h1 h2⟩
theorem KQ.alloc {q r : Nat} {w w' : World} (h : KQ q r w w') (o : Obj) : KQ q r w (w'.alloc o) := h.trans (KQ.of_below (below_new (Below.refl _ _) o))
theorem KQ.blk {q r : Nat} {a b : World} (h : KQ q r a b) {j : Nat} (hj : j < a.heap.size) (hne : j ≠ r ∧ j ≠ q) : b.heap[j]? = a.heap[j]? := h.block j hj hne.1 hne.2
theorem KQ.grow {q r : Nat} {w a b : World} {ob : Option Nat} (h : KQ q r w a) (g : a.grownBy b ob) (ho : ∀ k, ob = some k → w.heap.size ≤ k) : KQ q r w b :=
  ⟨g.os.trans h.os, g.tape.trans h.tape, g.output.trans h.output, Nat.le_trans h.size g.size, fun j hj h1 h2 => (g.block j (Nat.lt_of_lt_of_le hj h.size) (fun e => by have := ho j e.symm; omega)).trans (h.block j hj h1 h2)⟩

/-- What every call of the code's reader stands on. -/
structure RCtx (W : World) (q r : Nat) (A : Option Addr) (S : Toks) (w : World) : Prop where
  cur : CdCtx W q A S w
  ler : W.heap.size ≤ r
theorem RCtx.on {W : World} {q r : Nat} {A : Option Addr} {S : Toks} {w w' : World} (h : RCtx W q r A S w) (hk : KQ q r w w') : RCtx W q r A S w' :=
  ⟨⟨h.cur.toks, h.cur.below.trans (hk.below h.cur.le h.ler h.cur.below.size), h.cur.le, h.cur.big, h.cur.small⟩, h.ler⟩

end Go.Proofs.YtapjhmfbmkckaaaGreatDoor

/- The code's local and open. -/
namespace Go.Proofs.YtapjhmfbmkckaaaGreatDoor
open Go.RowKit
open Go.Sort
open M

theorem small_k (S : Toks) (i : Nat) : (decide (i < S.n) && smallK (S.K i) (S.T i)) = S.small i := by unfold smallK Toks.small; rw [Bool.and_assoc]
theorem great_k (S : Toks) (i : Nat) : (decide (i < S.n) && greatK (S.K i) (S.T i)) = S.great i := by unfold greatK Toks.great; rw [Bool.and_assoc]
theorem small_at (S : Toks) (i : Nat) : smallK (kAt S 0 i) (tAt S 0 i) = S.small i := by
  rw [← small_k]
  unfold kAt tAt
  by_cases h : i < S.n
  · rw [if_pos ⟨rfl, h⟩, if_pos ⟨rfl, h⟩]; simp [h]
  · rw [if_neg (fun x => h x.2)]; simp [h, smallK]

/-- The result's box, as it is made. -/
def Bx (b : Nat) (w : World) : Prop := w.heap[b]? = some (.cells #[.int .i64 0, .string ⟨#[]⟩, .int .i64 0, .string ⟨#[]⟩, .string ⟨#[]⟩, .slice none 0 0, .slice none 0 0] 29 (0, 0))

theorem nameOut_res {α : Type} {S : Toks} {ok : Bool} {i b : Nat} {s : ByteArray} {i' b' : Nat} (h : NameOut S ok i b s i' b') (x : ByteArray → Nat → Res α) :
    badR b' i' (x s i') = badR b i (if ok = false then .err 2 i else x (S.T i) (i + 1)) := by
  rcases h with ⟨rfl, rfl, rfl, rfl, rfl⟩ | ⟨rfl, rfl, rfl, rfl⟩ | ⟨hb, rfl, rfl⟩
  · rfl
  · rfl
  · rw [badR_ne _ _ hb, badR_ne _ _ hb]
theorem numOut_res {α : Type} {S : Toks} {i b : Nat} {v : Int} {i' b' : Nat} (h : NumOut S i b v i' b') (x : Int → Nat → Res α) :
    badR b' i' (x v i') = badR b i (if S.major i = false then .err 2 i else x (digs (S.T i).data.toList 0) (i + 1)) := by
  rcases h with ⟨rfl, h1, rfl, rfl, rfl⟩ | ⟨rfl, h1, rfl, rfl⟩ | ⟨hb, rfl, rfl⟩
  · rw [h1]; rfl
  · rw [h1]; rfl
  · rw [badR_ne _ _ hb, badR_ne _ _ hb]

theorem loc0_res {S : Toks} {i c i3 b3 : Nat} {s : ByteArray} (h : NameOut S (decide (i < S.n) && greatK (S.K i) (S.T i)) i 0 s i3 b3) :
    badR b3 i3 (.ok (.mk 8 ⟨#[]⟩ 0 ⟨#[]⟩ s [] []) i3 c) = if S.great i = false then .err 2 i else .ok (localT ⟨#[]⟩ (S.T i)) (i + 1) c := by
  have := nameOut_res h (fun s i => Res.ok (localT ⟨#[]⟩ s) i c)
  rw [great_k] at this
  exact this
theorem loc1_res {S : Toks} {i c i3 b3 i5 b5 : Nat} {s1 s : ByteArray} (h1 : NameOut S (decide (i < S.n) && smallK (S.K i) (S.T i)) i 0 s1 i3 b3)
    (h : NameOut S (decide (psI b3 (S.sign i3 [46]) i3 < S.n) && greatK (S.K (psI b3 (S.sign i3 [46]) i3)) (S.T (psI b3 (S.sign i3 [46]) i3))) (psI b3 (S.sign i3 [46]) i3) (psB b3 (S.sign i3 [46])) s i5 b5) :
    badR b5 i5 (.ok (.mk 8 ⟨#[]⟩ 0 s1 s [] []) i5 c) = if S.small i = false then .err 2 i else pLocal S (S.T i) (i + 1) c := by
  have a := nameOut_res h (fun s i => Res.ok (localT s1 s) i c)
  rw [great_k] at a
  have b := sign_res (S.sign i3 [46]) b3 i3 (fun j => if S.great j = false then Res.err 2 j else .ok (localT s1 (S.T j)) (j + 1) c)
  have d := nameOut_res h1 (fun s j => if S.sign j [46] = false then Res.err 2 j else if S.great (j + 1) = false then .err 2 (j + 1) else .ok (localT s (S.T (j + 1))) (j + 1 + 1) c)
  rw [small_k] at d
  exact a.trans (b.trans d)

theorem open_any_res {S : Toks} {i c i1 b1 i2 b2 i3 b3 i4 b4 : Nat} {p m n : ByteArray} {v : Int} (hq : S.sign i [60] = true)
    (h1 : NameOut S (decide (i + 1 < S.n) && smallK (S.K (i + 1)) (S.T (i + 1))) (i + 1) 0 p i1 b1) (h2 : NumOut S i1 b1 v i2 b2)
    (h3 : NameOut S (decide (i2 < S.n) && smallK (S.K i2) (S.T i2)) i2 b2 m i3 b3) (h4 : NameOut S (decide (i3 < S.n) && greatK (S.K i3) (S.T i3)) i3 b3 n i4 b4) :
    badR (psB b4 (S.sign i4 [62])) (psI b4 (S.sign i4 [62]) i4) (Res.ok (Ty.mk 9 p v m n [] []) (psI b4 (S.sign i4 [62]) i4) c) = pOpen S (i + 1) c := by
  rw [small_k] at h1 h3
  rw [great_k] at h4
  have e5 := sign_res (S.sign i4 [62]) b4 i4 (fun j => Res.ok (Ty.mk 9 p v m n [] []) j c)
  have e4 := nameOut_res h4 (fun n j => if S.sign j [62] = false then Res.err 2 j else Res.ok (Ty.mk 9 p v m n [] []) (j + 1) c)
  have e3 := nameOut_res h3 (fun m j => if S.great j = false then Res.err 2 j else if S.sign (j + 1) [62] = false then Res.err 2 (j + 1) else Res.ok (Ty.mk 9 p v m (S.T j) [] []) (j + 1 + 1) c)
  have e2 := numOut_res h2 (fun v j => if S.small j = false then Res.err 2 j else if S.great (j + 1) = false then Res.err 2 (j + 1) else if S.sign (j + 1 + 1) [62] = false then Res.err 2 (j + 1 + 1) else Res.ok (Ty.mk 9 p v (S.T j) (S.T (j + 1)) [] []) (j + 1 + 1 + 1) c)
  have e1 := nameOut_res h1 (fun p j => if S.major j = false then Res.err 2 j else if S.small (j + 1) = false then Res.err 2 (j + 1) else if S.great (j + 1 + 1) = false then Res.err 2 (j + 1 + 1) else if S.sign (j + 1 + 1 + 1) [62] = false then Res.err 2 (j + 1 + 1 + 1) else Res.ok (Ty.mk 9 p (digs (S.T j).data.toList 0) (S.T (j + 1)) (S.T (j + 1 + 1)) [] []) (j + 1 + 1 + 1 + 1) c)
  refine e5.trans (e4.trans (e3.trans (e2.trans (e1.trans ?_))))
  rw [badR_0]
  rfl

end Go.Proofs.YtapjhmfbmkckaaaGreatDoor

/- The code's list, over what read tells. -/
namespace Go.Proofs.YtapjhmfbmkckaaaGreatDoor
open Go.RowKit
open Go.Sort
open M

/-- What read tells of the nth Sub. -/
def readR (S : Toks) (f d n i c : Nat) : Res Ty := if S.begins i = true ∧ 20 < n then .err 3 i else pT S f d i c
theorem readR_one {S : Toks} {f d i c : Nat} : readR S f d 1 i c = pT S f d i c := if_neg (fun x => by omega)
end Go.Proofs.YtapjhmfbmkckaaaGreatDoor

/- Plain: what a token begins, and what is read then. -/
namespace Go.Proofs.YtapjhmfbmkckaaaGreatDoor
open Go.RowKit
open Go.Sort
open M

theorem great_base {l : List UInt8} (h : greatB l = true) : baseT l = 0 := by
  unfold baseT
  split
  · rename_i e; subst e; exact absurd h (by decide)
  split
  · rename_i e; subst e; exact absurd h (by decide)
  split
  · rename_i e; subst e; exact absurd h (by decide)
  split
  · rename_i e; subst e; exact absurd h (by decide)
  rfl
theorem baseT_range (l : List UInt8) : baseT l = 0 ∨ baseT l = 1 ∨ baseT l = 2 ∨ baseT l = 3 ∨ baseT l = 4 := by
  unfold baseT
  repeat' split
  all_goals simp
theorem signK_range (l : List UInt8) : signK l = 0 ∨ signK l = 5 ∨ signK l = 6 ∨ signK l = 7 ∨ signK l = 9 := by
  unfold signK
  repeat' split
  all_goals simp

/-- What is read of a type, by the kind that its first token tells. -/
def kindR (S : Toks) (f d i c : Nat) (k : Int) : Res Ty :=
  if k = 4 then listR S f d i c
  else if k = 5 then partsR S 5 [125] f d (i + 1) (c + 1)
  else if k = 6 then partsR S 6 [93] f d (i + 1) (c + 1)
  else if k = 7 then fnR S f d (i + 1) (c + 1)
  else if k = 8 then (if S.small i = true then pLocal S (S.T i) (i + 1) (c + 1) else if S.great i = false then .err 2 i else .ok (localT ⟨#[]⟩ (S.T i)) (i + 1) (c + 1))
  else if k = 9 then pOpen S (i + 1) (c + 1)
  else .ok (leafK k) (i + 1) (c + 1)

theorem begins_iff (S : Toks) {i : Nat} (hi : i < S.n) : S.begins i = decide (begunK (S.K i) (S.T i) ≠ 0) := by
  have hs : S.small i = smallK (S.K i) (S.T i) := by rw [← small_k]; simp [hi]
  have hg : S.great i = greatK (S.K i) (S.T i) := by rw [← great_k]; simp [hi]
  unfold Toks.begins begunK
  rw [hs, hg]
  by_cases h : smallK (S.K i) (S.T i) = true ∨ greatK (S.K i) (S.T i) = true
  · rw [if_pos h]
    rcases h with h | h <;> simp [h, hi]
  · rw [if_neg h]
    have h1 : smallK (S.K i) (S.T i) = false := by cases e : smallK (S.K i) (S.T i) with | true => exact absurd (.inl e) h | false => rfl
    have h2 : greatK (S.K i) (S.T i) = false := by cases e : greatK (S.K i) (S.T i) with | true => exact absurd (.inr e) h | false => rfl
    rw [h1, h2]
    by_cases k2 : S.K i = 2
    · rw [if_pos k2]
      rcases baseT_range (S.T i).data.toList with e | e | e | e | e <;> simp [hi, k2, e]
    · rw [if_neg k2]
      by_cases k4 : S.K i = 4
      · rw [if_pos k4]
        unfold signK
        repeat' split
        all_goals simp_all
      · rw [if_neg k4]
        simp [k2, k4]

theorem rest_kind (S : Toks) {f d i c : Nat} (hi : i < S.n) (hb : S.begins i = true) : restR S f d i c = kindR S f d i c (begunK (S.K i) (S.T i)) := by
  have hs : S.small i = smallK (S.K i) (S.T i) := by rw [← small_k]; simp [hi]
  have hg : S.great i = greatK (S.K i) (S.T i) := by rw [← great_k]; simp [hi]
  rw [begins_iff S hi] at hb
  unfold restR
  by_cases h1 : smallK (S.K i) (S.T i) = true
  · have e : begunK (S.K i) (S.T i) = 8 := if_pos (.inl h1)
    have k1 : S.K i = 1 := by unfold smallK at h1; simp at h1; exact h1.1
    rw [e, if_pos k1]
    unfold kindR
    rw [hs, h1]
    rfl
  by_cases h2 : greatK (S.K i) (S.T i) = true
  · have e : begunK (S.K i) (S.T i) = 8 := if_pos (.inr h2)
    have k2 : S.K i = 2 ∧ greatB (S.T i).data.toList = true := by unfold greatK at h2; simpa using h2
    have hz := great_base k2.2
    rw [e, if_neg (by rw [k2.1]; decide), if_pos k2.1, hz]
    unfold kindR
    rw [hs, hg, h2, show smallK (S.K i) (S.T i) = false by simpa using h1]
    rfl
  have e : begunK (S.K i) (S.T i) = if S.K i = 2 then baseT (S.T i).data.toList else if S.K i = 4 then signK (S.T i).data.toList else 0 := if_neg (fun x => x.elim h1 h2)
  rw [e] at hb ⊢
  by_cases k2 : S.K i = 2
  · rw [if_pos k2] at hb ⊢
    rw [if_neg (by rw [k2]; decide), if_pos k2]
    rcases baseT_range (S.T i).data.toList with q | q | q | q | q
    · rw [q] at hb; simp at hb
    all_goals rw [q]; rfl
  · rw [if_neg k2] at hb ⊢
    by_cases k4 : S.K i = 4
    · rw [if_pos k4] at hb ⊢
      rw [if_neg (by rw [k4]; decide), if_neg k2]
      by_cases a1 : (S.T i).data.toList = [123]
      · rw [if_pos a1, a1]; rfl
      rw [if_neg a1]
      by_cases a2 : (S.T i).data.toList = [91]
      · rw [if_pos a2, a2]; rfl
      rw [if_neg a2]
      by_cases a3 : (S.T i).data.toList = [60]
      · rw [if_pos a3, a3]; rfl
      rw [if_neg a3]
      by_cases a4 : (S.T i).data.toList = [40]
      · rw [a4]; rfl
      · have : signK (S.T i).data.toList = 0 := by unfold signK; rw [if_neg a1, if_neg a2, if_neg a4, if_neg a3]
        rw [this] at hb; simp at hb
    · rw [if_neg k4] at hb; simp at hb

end Go.Proofs.YtapjhmfbmkckaaaGreatDoor

/- A region that draws its order and only reads, but for its last operation, a call for which all others are waited: one walk of the text's order serves every order. Nothing of any program. -/
namespace Go.Proofs.YtapjhmfbmkckaaaGreatDoor
open Go Go.Sort Go.RowKit

/-- Each operation but the last is waited for by a later one. -/
def feeds (ops : Array Oper) : Bool := (List.range (ops.size - 1)).all fun i => (List.range ops.size).any fun j => decide (i < j) && ((ops[j]?).map fun o => o.after.any fun e => Region.binds .any e && (e.on == i)).getD false
/-- None waits for a later one. -/
def backward (ops : Array Oper) : Bool := (List.range ops.size).all fun i => ((ops[i]?).map fun o => o.after.all fun e => !Region.binds .any e || decide (e.on < i)).getD true
/-- What has come up has come up behind what it waits for. -/
def Closed (ops : Array Oper) (listed : Array Bool) : Prop := ∀ i o, ops[i]? = some o → listed.getD i false = true → ∀ e ∈ o.after, Region.binds .any e = true → listed.getD e.on false = true

section
variable {P : Program} {ops ops' : Array Oper} {C : World → Prop}

theorem Closed.step {listed : Array Bool} {i : Nat} (h : Closed ops listed) (hi : i ∈ Region.ready .any ops listed) : Closed ops (listed.setIfInBounds i true) := by
  obtain ⟨-, o, ho, hall⟩ := mem_ready.1 hi
  intro j oj hj hl e he hb
  by_cases hij : i = j
  · subst hij
    rw [ho] at hj; obtain rfl := Option.some.inj hj
    exact getD_set_true (hall e he hb)
  · rw [getD_set_ne false hij] at hl
    exact getD_set_true (h j oj hj hl e he hb)

theorem inBounds {listed : Array Bool} {i : Nat} (h : i < listed.size) (b : Bool) : listed.getD i b = listed.getD i false := by
  simp [h]

theorem ready_some {listed : Array Bool} (hsz : listed.size = ops.size) (hb : backward ops = true) : ∀ (m i : Nat), i < m → i < ops.size → listed.getD i false = false → ∃ j, j ∈ Region.ready .any ops listed
  | 0, i, hm, _, _ => by omega
  | m + 1, i, hm, hi, hu => by
    obtain ⟨o, ho⟩ : ∃ o, ops[i]? = some o := ⟨_, Array.getElem?_eq_getElem hi⟩
    by_cases hall : ∀ e ∈ o.after, Region.binds .any e = true → listed.getD e.on false = true
    · exact ⟨i, mem_ready.2 ⟨by rw [inBounds (by omega)]; exact hu, o, ho, hall⟩⟩
    · simp only [Classical.not_forall] at hall
      obtain ⟨e, he, hbe, hne⟩ := hall
      have h1 := (List.all_eq_true.1 hb) i (List.mem_range.2 hi)
      rw [ho] at h1
      simp only [Option.map_some, Option.getD_some] at h1
      have h2 := (Array.all_eq_true_iff_forall_mem.1 h1) e he
      rw [hbe] at h2
      simp only [Bool.not_true, Bool.false_or, decide_eq_true_eq] at h2
      exact ready_some hsz hb m e.on (by omega) (by omega) (by simpa using hne)

theorem last_ready {listed : Array Bool} {s : Nat} (hs : s + 1 = ops.size) (hf : feeds ops = true) (hc : Closed ops listed) (hr : s ∈ Region.ready .any ops listed) : ∀ (m i : Nat), s - i < m → i < s → listed.getD i false = true
  | 0, i, hm, _ => by omega
  | m + 1, i, hm, hi => by
    have h1 := (List.all_eq_true.1 hf) i (List.mem_range.2 (by omega))
    obtain ⟨j, hj, h2⟩ := List.any_eq_true.1 h1
    simp only [Bool.and_eq_true, decide_eq_true_eq] at h2
    have hjs := List.mem_range.1 hj
    obtain ⟨o, ho⟩ : ∃ o, ops[j]? = some o := ⟨_, Array.getElem?_eq_getElem hjs⟩
    obtain ⟨hij, h3⟩ := h2
    rw [ho] at h3
    simp only [Option.map_some, Option.getD_some] at h3
    obtain ⟨e, he, h4⟩ := Array.any_eq_true'.1 h3
    simp only [Bool.and_eq_true, beq_iff_eq] at h4
    obtain ⟨hb, rfl⟩ := h4
    by_cases hjs' : j = s
    · subst hjs'
      obtain ⟨-, o', ho', hall⟩ := mem_ready.1 hr
      rw [ho] at ho'; obtain rfl := Option.some.inj ho'
      exact hall e he hb
    · exact hc j o ho (last_ready hs hf hc hr m j (by omega) (by omega)) e he hb

theorem put_put (a : Act) (d : Option Tmp) (u v : Value) : (a.put d u).put d v = a.put d v := by
  cases d with
  | none => rfl
  | some d => simp [Act.put]

/-- What is asked of the last operation, in the frame that the others have left. -/
def LastAt (P : Program) (o : Oper) (Q : Exit → Act → World → Prop) (a : Act) (w : World) : Prop :=
  ∃ f args, (execOp a.eval o).run P w = .ok (.enter f args) w ∧ Calls P f args w (fun e w'' => ∃ v, e = .returned v ∧ Q .normal (a.put o.dst v) w'')

theorem wpAny_of_last {s : Nat} {o o' : Oper} (hsz : ops'.size = ops.size) (hs : s + 1 = ops.size) (heq : ∀ i, i ≠ s → ops'[i]? = ops[i]?) (ho : ops[s]? = some o) (ho' : ops'[s]? = some o')
    (haf : o'.after = o.after) (hdst : o'.dst = o.dst) (hg : o.guard = none) (hg' : o'.guard = none) (hlook : ∀ d, o.dst = some d → d ∉ o.looksAt ops) (hsel : ∀ cs b, o.op ≠ .select cs b)
    (hf : feeds ops = true) (hb : backward ops = true) {Q : Exit → Act → World → Prop} :
    ∀ (fuel : Nat) (listed : Array Bool) (a : Act) (w : World), listed.size = ops.size → Closed ops listed → listed.getD s false = false → C w →
      wpAnyQ P .any ops' C (fun a' => ∀ w', C w' → LastAt P o Q a' w') fuel listed a → wpAny P .any ops Q fuel listed a w := by
  have hy : ∀ t, yielded ops' t = yielded ops t := by
    intro t; funext j
    unfold yielded
    by_cases hj : j = s
    · subst hj; rw [ho, ho']; simp [hdst]
    · rw [heq j hj]
  have hready : ∀ listed, Region.ready .any ops' listed = Region.ready .any ops listed := by
    intro listed
    unfold Region.ready
    rw [hsz]
    congr 1; funext i
    by_cases hi : i = s
    · subst hi; rw [ho, ho']; simp [haf]
    · rw [heq i hi]
  intro fuel
  induction fuel with
  | zero =>
    intro listed a w hl hc hu hw h
    obtain ⟨j, hj⟩ := ready_some hl hb (s + 1) s (by omega) (by omega) hu
    rw [← hready, h.1] at hj; cases hj
  | succ fuel ih =>
    intro listed a w hl hc hu hw h
    obtain ⟨j, hj⟩ := ready_some hl hb (s + 1) s (by omega) (by omega) hu
    refine ⟨fun h0 => absurd hj (by rw [h0]; exact List.not_mem_nil), fun i hi => ?_⟩
    have hq := h.2 i (by rw [hready]; exact hi)
    by_cases his : i = s
    · subst his
      have hall := last_ready hs hf hc hi
      have hnone : Region.ready .any ops (listed.setIfInBounds i true) = [] := by
        rw [List.eq_nil_iff_forall_not_mem]
        intro k hk
        obtain ⟨h1, ok, hok, -⟩ := mem_ready.1 hk
        have hks := (Array.getElem?_eq_some_iff.1 hok).1
        by_cases hki : k = i
        · subst hki
          simp [hl, hks] at h1
        · rw [getD_set_ne true (Ne.symm hki), inBounds (by omega), hall (i + 1) k (by omega) (by omega)] at h1
          cases h1
      unfold qOp at hq
      simp only [ho', Region.wanted, hg', if_true] at hq
      obtain ⟨u, -, hn⟩ := hq
      have hQ : ∀ w', C w' → LastAt P o Q (a.put o'.dst u) w' := by
        cases fuel with
        | zero => exact hn.2
        | succ fuel => exact hn.1 (by rw [hready]; exact hnone)
      obtain ⟨f, args, hrun, hcall⟩ := hQ w hw
      rw [hdst, execOp_put (ops := ops) o hsel a o.dst u hlook] at hrun
      unfold wpOp
      simp only [ho, Region.wanted, hg, if_true]
      refine .inl ?_
      unfold Oper.wp
      rw [hrun]
      simp only [Oper.upon]
      refine hcall.mono ?_
      rintro e w'' ⟨v, rfl, hv⟩
      rw [hdst, put_put] at hv
      cases fuel with
      | zero => exact ⟨hnone, hv⟩
      | succ fuel => exact ⟨fun _ => hv, fun k hk => by rw [hnone] at hk; cases hk⟩
    · have h1 := wpOp_of_qOp (K' := wpAny P .any ops Q fuel (listed.setIfInBounds i true)) (Q' := Q) hw (fun a' w' hw' hh => ih _ a' w' (by simp [hl]) (hc.step hi) (by rw [getD_set_ne false his]; exact hu) hw' hh) hq
      unfold wpOp at h1 ⊢
      rw [heq i his, hy] at h1
      exact h1

/-- The region with its last operation made a plain move. -/
def tameLast (l : List Oper) (o : Oper) : List Oper := l.dropLast ++ [{ o with op := .move (.const undef) }]
theorem wp_region_last {id : Nat} {Q : Exit → Act → World → Prop} {a : Act} {w : World} {l : List Oper} {o : Oper} (hm : P.follows .mixedOrders = true) (hlast : l.getLast? = some o)
    (hg : o.guard = none) (hlook : (match o.dst with | some d => !(o.looksAt l.toArray).contains d | none => true) = true) (hsel : ∀ cs b, o.op ≠ .select cs b)
    (hB : Region.lexB .any (tameLast l o).toArray = true) (hf : feeds l.toArray = true) (hb : backward l.toArray = true) (hC : C { w with drawn := w.drawn + 1 })
    (h : wpQuiet P (tameLast l o).toArray C (fun a' => ∀ w', C w' → LastAt P o Q a' w') (tameLast l o) a) : (Code.region id l.toArray true).wp P Q a w := by
  obtain ⟨l0, hl0⟩ : ∃ l0, l = l0 ++ [o] := by
    rcases List.eq_nil_or_concat l with rfl | ⟨l0, x, rfl⟩
    · simp at hlast
    · simp at hlast; subst hlast; exact ⟨l0, by simp⟩
  have ht : tameLast l o = l0 ++ [{ o with op := .move (.const undef) }] := by unfold tameLast; rw [hl0]; simp
  rw [ht] at h hB
  simp only [Region.lexB, Bool.and_eq_true] at hB
  have hq := wpAnyQ_lex (C := C) (md := .any) (P := P) hB.1 _ 0 (Array.replicate (l0 ++ [{ o with op := .move (.const undef) }]).toArray.size false) a (by simp) (by simpa using hB.2) h
  refine wp_region_any hm (wpAny_of_last (ops' := (l0 ++ [{ o with op := .move (.const undef) }]).toArray) (s := l0.length) (o := o) (o' := { o with op := .move (.const undef) }) (C := C) ?_ ?_ ?_ ?_ ?_ rfl rfl hg hg ?_ hsel hf hb _ _ _ _ ?_ ?_ ?_ hC ?_)
  · rw [hl0]; simp
  · rw [hl0]; simp
  · intro i hi
    rw [hl0]
    simp only [List.getElem?_toArray]
    rcases Nat.lt_or_ge i l0.length with h1 | h1
    · rw [List.getElem?_append_left h1, List.getElem?_append_left h1]
    · rw [List.getElem?_eq_none (by simp; omega), List.getElem?_eq_none (by simp; omega)]
  · rw [hl0]; simp
  · simp
  · intro d hd
    rw [hd] at hlook
    simpa using hlook
  · simp
  · intro i oi _ hl
    exfalso
    rcases Nat.lt_or_ge i l.toArray.size with hi | hi
    · simp at hi; simp [hi] at hl
    · simp at hi; simp [Nat.not_lt.2 hi] at hl
  · have : l0.length < l.length := by rw [hl0]; simp
    simp [this]
  · have e : l.toArray.size = (l0 ++ [{ o with op := .move (.const undef) }]).length := by rw [hl0]; simp
    have e2 : (l0 ++ [{ o with op := Op.move (.const undef) }]).toArray.size = l.toArray.size := by rw [e]; simp
    rw [e2] at hq
    rw [e, ← e]
    rw [← e] at hq
    exact hq
end
end Go.Proofs.YtapjhmfbmkckaaaGreatDoor
