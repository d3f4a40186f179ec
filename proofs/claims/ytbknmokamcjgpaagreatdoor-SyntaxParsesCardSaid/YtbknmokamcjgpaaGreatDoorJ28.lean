/-
  Several texts in one: Plain mathematics for layer 6: modules, and what reading one comes to. · The code's keys: asked for, taken; what a key declares.
-/
import Derived.Test.YtbknmokamcjgpaaGreatDoorJ24
/- Plain mathematics for layer 6: modules, and what reading one comes to. -/
namespace Go.Proofs.YtbknmokamcjgpaaGreatDoor
open Go.RowKit
open Go.Sort
open M

structure Im where
  pkg : ByteArray
  major : Int
  mod : ByteArray
  asn : ByteArray
structure De where
  kind : Int
  name : ByteArray
  typ : Ty
structure Mo where
  name : ByteArray
  imps : List Im
  decs : List De

def kModule : List UInt8 := [109, 111, 100, 117, 108, 101]
def kImport : List UInt8 := [105, 109, 112, 111, 114, 116]
def kAs : List UInt8 := [97, 115]
def keyS (S : Toks) (i : Nat) (l : List UInt8) : Bool := decide (i < S.n) && (S.K i == 1) && ((S.T i).data.toList == l)
theorem key_lt {S : Toks} {i : Nat} {l : List UInt8} (h : keyS S i l = true) : i < S.n := by
  unfold keyS at h; simp only [Bool.and_eq_true, decide_eq_true_eq] at h; exact h.1.1

/-- The kind of what a key declares, or 0. -/
def declK (l : List UInt8) : Int :=
  if l = [111, 112, 97, 113, 117, 101] then 1 else if l = [104, 105, 100, 100, 101, 110] then 2 else if l = [97, 108, 105, 97, 115] then 3 else if l = [118, 97, 108] then 4 else 0

/-- An import, behind its key. -/
def impR (S : Toks) (i : Nat) : Res Im :=
  if S.small i = false then .err 2 i
  else if S.major (i + 1) = false then .err 2 (i + 1)
  else if S.small (i + 2) = false then .err 2 (i + 2)
  else if keyS S (i + 3) kAs = false then .err 2 (i + 3)
  else if S.small (i + 4) = false then .err 2 (i + 4)
  else .ok ⟨S.T i, digs (S.T (i + 1)).data.toList 0, S.T (i + 2), S.T (i + 4)⟩ (i + 5) 0
/-- All imports, from a token on. -/
def impsR (S : Toks) : Nat → Nat → List Im → Res (List Im)
  | 0, _, _ => .err 99 0
  | f + 1, i, l =>
    if keyS S i kImport = false then .ok l i 0
    else if 20 ≤ l.length then .err 3 i
    else match impR S (i + 1) with
      | .err b j => .err b j
      | .ok x j _ => impsR S f j (l ++ [x])

def typD (k : Int) (s : ByteArray) : Res Ty → Res De
  | .err b j => .err b j
  | .ok t j _ => .ok ⟨k, s, t⟩ j 0
/-- A declaration of a kind, behind its key. -/
def decR (S : Toks) (k : Int) (i : Nat) : Res De :=
  if k = 1 ∨ k = 2 then (if S.great i = false then .err 2 i else .ok ⟨k, S.T i, noT⟩ (i + 1) 0)
  else if k = 3 then (if S.great i = false then .err 2 i else if S.sign (i + 1) [61] = false then .err 2 (i + 1) else typD 3 (S.T i) (atR S (i + 2)))
  else (if S.small i = false then .err 2 i else if S.sign (i + 1) [58] = false then .err 2 (i + 1) else typD 4 (S.T i) (atR S (i + 2)))
/-- The kind of what is declared at a token, or 0. -/
def declAt (S : Toks) (i : Nat) : Int := if i < S.n then declK (S.T i).data.toList else 0
/-- A declaration that stands behind so many. -/
def oneD (S : Toks) (i n : Nat) : Res De :=
  if declAt S i = 0 then .err 2 i
  else if 60 ≤ n then .err 3 i
  else decR S (declAt S i) (i + 1)
/-- All declarations, from a token on. -/
def decsR (S : Toks) : Nat → Nat → List De → Res (List De)
  | 0, _, _ => .err 99 0
  | f + 1, i, l =>
    if S.n ≤ i then .ok l i 0
    else match oneD S i l.length with
      | .err b j => .err b j
      | .ok x j _ => decsR S f j (l ++ [x])
/-- The declarations behind imports, and the module. -/
def restM (S : Toks) (s : ByteArray) : Res (List Im) → Res Mo
  | .err b j => .err b j
  | .ok l j _ => match decsR S 61 j [] with
    | .err b i => .err b i
    | .ok ds i _ => .ok ⟨s, l, ds⟩ i 0
def modR (S : Toks) : Res Mo :=
  if keyS S 0 kModule = false then .err 2 0
  else if S.small 1 = false then .err 2 1
  else restM S (S.T 1) (impsR S 21 2 [])
/-- The module of a text that isn't too long. -/
def parM (s : ByteArray) : Res Mo := if (fin s 0 []).2 < 0 then modR (tkS (fin s 0 []).1) else .err 2 (fin s 0 []).2.toNat
theorem parM_yes {s : ByteArray} {ts : List Tok} (h : fin s 0 [] = (ts, -1)) : parM s = modR (tkS ts) := by unfold parM; rw [h]; rfl
theorem parM_no {s : ByteArray} {k : Nat} (h : fin s 0 [] = ([], (k : Int))) : parM s = .err 2 k := by unfold parM; rw [h]; rw [if_neg (by show ¬ (k : Int) < 0; omega)]; rfl

theorem atR_le {S : Toks} {i j c : Nat} {t : Ty} (h : atR S i = .ok t j c) : i < j := by
  have := (steps S (2 * S.n + 3)).1 1 i 0 (by omega)
  unfold atR at h
  rw [h] at this
  exact this

/-- The key that stands there. -/
theorem key_at {S : Toks} {b i : Nat} (l : List UInt8) : ((kAt S b i == 1) && ((tAt S b i).data.toList == l)) = (decide (b = 0) && keyS S i l) := by
  unfold kAt tAt keyS
  by_cases h : b = 0 ∧ i < S.n
  · rw [if_pos h, if_pos h]; simp [h.1, h.2]
  · rw [if_neg h]
    by_cases hb : b = 0
    · have : ¬ i < S.n := fun e => h ⟨hb, e⟩
      simp [hb, this]
    · simp [hb]
/-- What is declared there. -/
theorem decl_at (S : Toks) (b i : Nat) : declK (tAt S b i).data.toList = if b = 0 then declAt S i else 0 := by
  unfold tAt declAt
  by_cases h : b = 0 ∧ i < S.n
  · rw [if_pos h, if_pos h.1, if_pos h.2]
  · rw [if_neg h]
    by_cases hb : b = 0
    · have : ¬ i < S.n := fun e => h ⟨hb, e⟩
      rw [if_pos hb, if_neg this]; rfl
    · rw [if_neg hb]; rfl
theorem declAt_lt {S : Toks} {i : Nat} (h : declAt S i ≠ 0) : i < S.n := by
  unfold declAt at h
  by_cases hl : i < S.n
  · exact hl
  · rw [if_neg hl] at h; exact absurd rfl h

end Go.Proofs.YtbknmokamcjgpaaGreatDoor

/- The code's keys: asked for, taken; what a key declares. -/
namespace Go.Proofs.YtbknmokamcjgpaaGreatDoor
open Go.RowKit
open Go.Sort
open M

set_option maxRecDepth 100000 in
set_option maxHeartbeats 4000000 in
theorem catKey_any {W : World} {q : Nat} {A : Option Addr} {S : Toks} {cn i b : Nat} {w : World} (hc : CdCtx W q A S w) (h : CSt q A S.n cn i b w) (s : ByteArray) :
    Calls Tryz.prog 148 #[.pointer (some ⟨q, 0, none⟩), .string s] w fun e w' => e = .returned (.bool (decide (b = 0) && keyS S i s.data.toList)) ∧ Below w.heap.size w w' := by
  have ST := stands_any hc h 1 s
  unfold standB at ST
  rw [key_at] at ST
  have HST := Lib.hid ST
  clear h hc ST
  go_enter Tryz.func148, Tryz.ntmps148
  go_wp2_with fail
  refine HST.out.mono ?_; rintro e w1 ⟨rfl, hb1⟩
  go_wp2_with fail
  go_ret
  exact ⟨rfl, hb1⟩

set_option maxRecDepth 100000 in
set_option maxHeartbeats 4000000 in
theorem ckey_any {W : World} {q : Nat} {A : Option Addr} {S : Toks} {cn i b : Nat} {w : World} (hc : CdCtx W q A S w) (h : CSt q A S.n cn i b w) (s : ByteArray) :
    Calls Tryz.prog 107 #[.pointer (some ⟨q, 0, none⟩), .string s] w fun e w' => e = .returned (.tuple #[]) ∧ CSt q A S.n cn (psI b (keyS S i s.data.toList) i) (psB b (keyS S i s.data.toList)) w' ∧ Kp q w w' := by
  have hbig := hc.big
  have AK := Lib.hid (catKey_any hc h s)
  have HH := Lib.hid h
  clear hc h
  go_enter Tryz.func107, Tryz.ntmps107
  go_wp2_with fail
  refine AK.out.mono ?_; rintro e w1 ⟨rfl, hb1⟩
  have h1 := HH.out.below hb1
  have MU := Lib.hid (must_any h1 (decide (b = 0) && keyS S i s.data.toList) 2 (by decide))
  have HK1 := Lib.hid (Kp.of_below (r := q) hb1)
  have RB : Hid (mustB b (decide (b = 0) && keyS S i s.data.toList) 2 = psB b (keyS S i s.data.toList)) := Lib.hid (by
    unfold mustB psB
    by_cases hb : b = 0
    · subst hb
      cases keyS S i s.data.toList <;> rfl
    · rw [if_neg (fun x => hb x.1), if_neg (fun x => hb x.1)])
  clear h1 hb1 AK
  go_wp2_with fail
  refine MU.out.mono ?_; rintro e w2 ⟨rfl, h2, k2⟩
  rw [RB.out] at h2
  have hlt : psB b (keyS S i s.data.toList) = 0 → i < S.n := fun e => by
    have hb := psB_0 e
    subst hb
    cases hk : keyS S i s.data.toList with
    | true => exact key_lt hk
    | false => rw [hk] at e; cases e
  have PS := Lib.hid (cpass_any h2 hlt hbig)
  have RI : Hid (upI (psB b (keyS S i s.data.toList)) i = psI b (keyS S i s.data.toList) i) := Lib.hid (by
    by_cases hb : b = 0
    · subst hb
      cases keyS S i s.data.toList <;> rfl
    · rw [psB_bad _ hb, psI_bad _ _ hb, upI_ne _ hb])
  have HK2 := Lib.hid (HK1.out.trans k2)
  clear h2 k2 MU hlt
  go_wp2_with fail
  refine PS.out.mono ?_; rintro e w3 ⟨rfl, h3, k3⟩
  rw [RI.out] at h3
  go_wp2_with fail
  go_end0
  exact ⟨rfl, h3, HK2.out.trans k3⟩

set_option maxRecDepth 100000 in
set_option maxHeartbeats 4000000 in
theorem declares_any (s : ByteArray) (w : World) : Calls Tryz.prog 150 #[.string s] w fun e w' => e = .returned (.int .i64 (declK s.data.toList)) ∧ w = w' := by
  have E := Lib.hid (show s.toList = s.data.toList from Lib.toList_data s)
  go_enter Tryz.func150, Tryz.ntmps150
  go_wp2
  all_goals go_ret
  all_goals refine ⟨ret_int' ?_, rfl⟩
  all_goals (rw [← E.out]; clear E; simp_all [declK])

end Go.Proofs.YtbknmokamcjgpaaGreatDoor
