/-
  Several texts in one: Walks of the reference's word and major. · The walk of the reference's major. · The walk of the reference's major. · The walk of the reference's one: a function's next type, behind so many. · What the reference's reader does at a name, and plain results of what follows: for the walk of its Type. · The code's Word: a name that is asked for, and taken. · Plain: a text is a number without noughts ahead just if it is what the number's digits are. · The code's Number, 1 being the least. · The code's reader: a cursor, and how many types have begun. The cursor's calls, as the reader makes them.
-/
import Derived.Test.YtpfoclpgcbjjoaaGreatDoorJ03
import Derived.LoopTactic
import Derived.Test.YtpfoclpgcbjjoaaGreatDoorJ02
import Derived.Test.YtpfoclpgcbjjoaaGreatDoorShelf
import Derived.Lib.AtoiTie
import Derived.Lib.AtoiAllCases
import Derived.Lib.ItoaNum
import Derived.Lib.AtoiErrMem
import Derived.Lib.QuietBelow
import Derived.Lib.AppendIntMem
import Derived.Deep.DeepCutAuto
/- Walks of the reference's word and major. -/
namespace Go.Proofs.YtpfoclpgcbjjoaaGreatDoor
open Go.RowKit
open Go.Sort
open M

end Go.Proofs.YtpfoclpgcbjjoaaGreatDoor

/- The walk of the reference's major. -/
namespace Go.Proofs.YtpfoclpgcbjjoaaGreatDoor
open Go.RowKit
open Go.Sort
open M

namespace M
theorem digs_snoc (c : UInt8) : ∀ (l : List UInt8) (a : Int), digs (l ++ [c]) a = 10 * digs l a + ((c.toNat : Int) - 48)
  | [], _ => rfl
  | _ :: r, _ => digs_snoc c r _
theorem take_snoc (l : List UInt8) (k : Nat) (h : k < l.length) : l.take (k + 1) = l.take k ++ [l.getD k 0] := by
  rw [List.take_add_one, List.getElem?_eq_getElem h]
  simp [List.getD_eq_getElem?_getD, List.getElem?_eq_getElem h]
/-- So far the number stands, or it is none. -/
inductive Maj (l : List UInt8) (k : Nat) : Int → Bool → Prop where
  | yes (hl : 1 ≤ l.length ∧ l.length ≤ 9) (ha : ∀ j, j < k → digC (bt l j) = true) (h0 : 0 < k → 48 < bt l 0) (hb : 0 ≤ digs (l.take k) 0 ∧ digs (l.take k) 0 < (10 ^ k : Nat)) : Maj l k (digs (l.take k) 0) true
  | no (n : Int) (h : majorOk l = false) : Maj l k n false
theorem Maj.start {l : List UInt8} (hl : 1 ≤ l.length ∧ l.length ≤ 9) : Maj l 0 0 true := by
  have h := Maj.yes (l := l) (k := 0) hl (fun j hj => by omega) (fun hj => by omega) (by rw [List.take_zero]; show (0 : Int) ≤ 0 ∧ (0 : Int) < ((10 ^ 0 : Nat) : Int); decide)
  rw [List.take_zero] at h
  exact h
theorem Maj.step_yes {l : List UInt8} {k : Nat} (hl : 1 ≤ l.length ∧ l.length ≤ 9) (ha : ∀ j, j < k → digC (bt l j) = true) (h0 : 0 < k → 48 < bt l 0) (hb : 0 ≤ digs (l.take k) 0 ∧ digs (l.take k) 0 < (10 ^ k : Nat))
    (hk : k < l.length) {x : Int} (hx : x = bt l k) (h1 : 48 ≤ x) (h2 : x ≤ 57) (h3 : 0 < k ∨ 48 < x) {n : Int} (hn : n = 10 * digs (l.take k) 0 + x - 48) : Maj l (k + 1) n true := by
  subst hx
  have e : digs (l.take (k + 1)) 0 = n := by
    rw [take_snoc l k hk, digs_snoc, hn]
    unfold bt
    omega
  rw [← e]
  refine .yes hl (fun j hj => ?_) (fun _ => ?_) ?_
  · rcases Nat.lt_or_ge j k with d | d
    · exact ha j d
    · rw [show j = k by omega]; unfold digC; simp; omega
  · rcases h3 with h3 | h3
    · exact h0 h3
    · rcases Nat.eq_zero_or_pos k with z | z
      · rw [z] at h3; exact h3
      · exact h0 z
  · rw [e, hn, Nat.pow_succ]
    obtain ⟨b1, b2⟩ := hb
    generalize digs (l.take k) 0 = m at b1 b2
    generalize (10 ^ k : Nat) = p at b2
    constructor
    · omega
    · push_cast; omega
theorem majorOk_iff (l : List UInt8) : majorOk l = true ↔ 1 ≤ l.length ∧ l.length ≤ 9 ∧ (∀ j, j < l.length → digC (bt l j) = true) ∧ 48 < bt l 0 := by
  unfold majorOk
  simp only [Bool.and_eq_true, decide_eq_true_eq]
  rw [all_iff]
  exact ⟨fun h => ⟨h.1.1.1, h.1.1.2, h.1.2, h.2⟩, fun h => ⟨⟨⟨h.1, h.2.1⟩, h.2.2.1⟩, h.2.2.2⟩⟩
theorem major_len (l : List UInt8) (h : ¬ (1 ≤ l.length ∧ l.length ≤ 9)) : majorOk l = false := by
  rw [Bool.eq_false_iff]; intro e; exact h ⟨((majorOk_iff l).1 e).1, ((majorOk_iff l).1 e).2.1⟩
theorem major_byte {l : List UInt8} {k : Nat} (hk : k < l.length) {x : Int} (hx : x = bt l k) (h : x < 48 ∨ 57 < x ∨ (k = 0 ∧ x ≤ 48)) : majorOk l = false := by
  rw [Bool.eq_false_iff]; intro e
  obtain ⟨_, _, a, z⟩ := (majorOk_iff l).1 e
  have := a k hk
  unfold digC at this
  simp at this
  rcases h with h | h | ⟨rfl, h⟩ <;> omega
theorem Maj.all {l : List UInt8} {k : Nat} (hl : 1 ≤ l.length ∧ l.length ≤ 9) (ha : ∀ j, j < k → digC (bt l j) = true) (h0 : 0 < k → 48 < bt l 0) (hk : l.length ≤ k) : majorOk l = true :=
  (majorOk_iff l).2 ⟨hl.1, hl.2, fun j hj => ha j (by omega), h0 (by omega)⟩
end M

def mjV (b : Nat) (q : Bool) (l : List UInt8) : Int := if b = 0 ∧ q = true then digs l 0 else 0
theorem mjV_yes (l : List UInt8) : mjV 0 true l = digs l 0 := rfl
theorem mjV_no (b : Nat) (l : List UInt8) : mjV b false l = 0 := if_neg (fun x => by cases x.2)
theorem mjV_bad {b : Nat} (q : Bool) (l : List UInt8) (h : b ≠ 0) : mjV b q l = 0 := if_neg (fun x => h x.1)

end Go.Proofs.YtpfoclpgcbjjoaaGreatDoor

/- The walk of the reference's major. -/
namespace Go.Proofs.YtpfoclpgcbjjoaaGreatDoor
open Go.RowKit
open Go.Sort
open M

end Go.Proofs.YtpfoclpgcbjjoaaGreatDoor

/- The walk of the reference's one: a function's next type, behind so many. -/
namespace Go.Proofs.YtpfoclpgcbjjoaaGreatDoor
open Go.RowKit
open Go.Sort
open M

def oneR (S : Toks) (f d i c n : Nat) : Res Ty := if S.begins i = true ∧ 20 ≤ n then .err 3 i else pT S f (d + 1) i c

end Go.Proofs.YtpfoclpgcbjjoaaGreatDoor

/- What the reference's reader does at a name, and plain results of what follows: for the walk of its Type. -/
namespace Go.Proofs.YtpfoclpgcbjjoaaGreatDoor
open Go.RowKit
open Go.Sort
open M

theorem tok_size {W : World} {r : Nat} {A : Option Addr} {S : Toks} {w : World} (hc : RdCtx W r A S w) {i : Nat} (hi : i < S.n) : (S.T i).size ≤ 9223372036854775807 := by
  obtain ⟨g, o, y, -, -, -, -, -, hz⟩ := hc.toks i hi
  exact hz
/-- Plain: a sign, a name, one behind the other. -/
theorem sign_res {α : Type} (q : Bool) (b i : Nat) (x : Nat → Res α) : badR (psB b q) (psI b q i) (x (psI b q i)) = badR b i (if q = false then .err 2 i else x (i + 1)) := by
  by_cases hb : b = 0
  · subst hb
    cases q
    · rw [psB_no, psI_no]; rfl
    · rw [psB_yes, psI_yes]; rfl
  · rw [psB_bad _ hb, psI_bad _ _ hb, badR_ne _ _ hb, badR_ne _ _ hb]
/-- What a Record, a Variant, and a function come to. -/
def partsR (S : Toks) (k : Int) (z : List UInt8) (f d i c : Nat) : Res Ty := if k = 5 ∧ S.sign i z = true then .ok (leafK 5) (i + 1) c else pParts S k z f d i c [] []
def fnR (S : Toks) (f d i c : Nat) : Res Ty := if S.sign i [41] = true then pEnd S f d (i + 1) c [] else pSubs S f d i c []
/-- A List, behind its word. -/
def listR (S : Toks) (f d i c : Nat) : Res Ty :=
  if S.sign (i + 1) [40] = false then .err 2 (i + 1)
  else match pT S f (d + 1) (i + 2) (c + 1) with
   | .err b j => .err b j
   | .ok s j c' => if S.sign j [41] = false then .err 2 j else .ok (Ty.mk 4 ⟨#[]⟩ 0 ⟨#[]⟩ ⟨#[]⟩ [] [s]) (j + 1) c'
/-- What is beside words and limits. -/
def restR (S : Toks) (f d i c : Nat) : Res Ty :=
  if S.K i = 1 then pLocal S (S.T i) (i + 1) (c + 1)
  else if S.K i = 2 then
    (if baseT (S.T i).data.toList = 4 then
      listR S f d i c
     else if 0 < baseT (S.T i).data.toList then .ok (leafK (baseT (S.T i).data.toList)) (i + 1) (c + 1)
     else .ok (localT ⟨#[]⟩ (S.T i)) (i + 1) (c + 1))
  else if (S.T i).data.toList = [123] then partsR S 5 [125] f d (i + 1) (c + 1)
  else if (S.T i).data.toList = [91] then partsR S 6 [93] f d (i + 1) (c + 1)
  else if (S.T i).data.toList = [60] then pOpen S (i + 1) (c + 1)
  else fnR S f d (i + 1) (c + 1)
theorem pT_eq (S : Toks) (f d i c : Nat) : pT S (f + 1) d i c = if S.begins i = false then .err 2 i else if 32 < d ∨ 500 ≤ c then .err 3 i else restR S f d i c := by
  conv => lhs; unfold pT
  unfold restR listR partsR fnR
  simp
  rfl
theorem list_res {S : Toks} {f d i c b2 i2 c2 : Nat} {s : Ty} (h : badR (psB 0 (S.sign (i + 1) [40])) (psI 0 (S.sign (i + 1) [40]) (i + 1)) (pT S f (d + 1) (psI 0 (S.sign (i + 1) [40]) (i + 1)) (c + 1)) = badR b2 i2 (.ok s i2 c2)) :
    listR S f d i c = badR (psB b2 (S.sign i2 [41])) (psI b2 (S.sign i2 [41]) i2) (.ok (Ty.mk 4 ⟨#[]⟩ 0 ⟨#[]⟩ ⟨#[]⟩ [] [s]) (psI b2 (S.sign i2 [41]) i2) c2) := by
  rw [sign_res (S.sign i2 [41]) b2 i2 (fun j => Res.ok (Ty.mk 4 ⟨#[]⟩ 0 ⟨#[]⟩ ⟨#[]⟩ [] [s]) j c2)]
  rw [sign_res (S.sign (i + 1) [40]) 0 (i + 1) (fun j => pT S f (d + 1) j (c + 1)), badR_0] at h
  unfold listR
  by_cases hq : S.sign (i + 1) [40] = false
  · rw [if_pos hq] at h ⊢
    by_cases hb : b2 = 0
    · subst hb; cases h
    · rw [badR_ne _ _ hb] at h ⊢; exact h
  · rw [if_neg hq] at h ⊢
    rw [h]
    by_cases hb : b2 = 0
    · subst hb; rfl
    · rw [badR_ne _ _ hb, badR_ne _ _ hb]
end Go.Proofs.YtpfoclpgcbjjoaaGreatDoor

/- The code's Word: a name that is asked for, and taken. -/
namespace Go.Proofs.YtpfoclpgcbjjoaaGreatDoor
open Go.RowKit
open Go.Sort
open M

theorem clone_own (s : ByteArray) (w : World) (hs : s.size ≤ 281474976710656) : Calls Tryz.prog 61 #[.string s] w fun e w' => e = .returned (.string s) ∧ Below w.heap.size w w' := by
  go_enter Tryz.func61, Tryz.ntmps61
  go_wp2_with fail
  refine (Tryz.stringslite_Clone _ _ hs).mono ?_; rintro e w1 ⟨rfl, hb1⟩
  go_wp2
  go_ret
  exact ⟨rfl, hb1⟩

/-- A function that asks for a token's sort. -/
structure AsksOk (f : Nat) (p : Int → ByteArray → Bool) : Prop where
  says : ∀ (k y : Int) (s : ByteArray) (w : World), s.size ≤ 9223372036854775807 → Calls Tryz.prog f #[tokV k y s] w fun e w' => e = .returned (.bool (p k s)) ∧ Below w.heap.size w w'
  enters : ∀ args w, (callFunc f args).run Tryz.prog w = .ok (.enter f args) w
theorem asksSmall : AsksOk 89 smallK := ⟨fun k y s w h => isSmall_any k y s w h, enters_of Tryz.func89 (by kernel_rfl) rfl⟩
theorem asksGreat : AsksOk 133 greatK := ⟨fun k y s w h => isGreat_any k y s w h, enters_of Tryz.func133 (by kernel_rfl) rfl⟩

/-- What a name leaves. -/
def NameOut (S : Toks) (ok : Bool) (i b : Nat) (s : ByteArray) (i' b' : Nat) : Prop :=
  (b = 0 ∧ ok = true ∧ s = S.T i ∧ i' = i + 1 ∧ b' = 0) ∨ (b = 0 ∧ ok = false ∧ i' = i ∧ b' = 2) ∨ (b ≠ 0 ∧ i' = i ∧ b' = b)

theorem NameOut.b0 {S : Toks} {ok : Bool} {i b : Nat} {s : ByteArray} {i' b' : Nat} (h : NameOut S ok i b s i' b') (h0 : b' = 0) : b = 0 := by
  rcases h with ⟨h, -⟩ | ⟨h, -⟩ | ⟨-, -, h⟩
  · exact h
  · exact h
  · omega

set_option maxRecDepth 100000 in
set_option maxHeartbeats 4000000 in
theorem cword_any {W : World} {q : Nat} {A : Option Addr} {S : Toks} {cn i b : Nat} {w : World} (hc : CdCtx W q A S w) (h : CSt q A S.n cn i b w) (f : Nat) (p : Int → ByteArray → Bool) (hf : AsksOk f p) (hp0 : p 0 ⟨#[]⟩ = false) :
    Calls Tryz.prog 88 #[.pointer (some ⟨q, 0, none⟩), .func (.func f) #[] #[]] w fun e w' => ∃ s i' b', e = .returned (.string s) ∧ s.size ≤ 281474976710656 ∧ CSt q A S.n cn i' b' w' ∧ Kp q w w' ∧ NameOut S (decide (i < S.n) && p (S.K i) (S.T i)) i b s i' b' := by
  have hbig := hc.big
  have hr := h.lt
  have NX := Lib.hid (next_any hc h)
  have HH := Lib.hid h
  have hts := tAt_size hc b i
  have hpk : b = 0 → p (kAt S b i) (tAt S b i) = (decide (i < S.n) && p (S.K i) (S.T i)) := fun hb => by
    unfold kAt tAt
    by_cases hlt : i < S.n
    · rw [if_pos ⟨hb, hlt⟩, if_pos ⟨hb, hlt⟩]; simp [hlt]
    · rw [if_neg (fun x => hlt x.2), if_neg (fun x => hlt x.2), hp0]; simp [hlt]
  have hpt : b = 0 → i < S.n → tAt S b i = S.T i := fun hb hlt => if_pos ⟨hb, hlt⟩
  have HPK := Lib.hid hpk
  have HPT := Lib.hid hpt
  clear h hc hpk hpt
  go_enter Tryz.func88, Tryz.ntmps88
  go_wp2_with fail
  refine NX.out.mono ?_; rintro e w1 ⟨y, rfl, hb1⟩
  generalize hk : kAt S b i = k at HPK ⊢
  generalize ht : tAt S b i = t at HPK HPT hts ⊢
  clear hk ht
  unfold tokV
  obtain ⟨w2, hw2⟩ : ∃ w2, w2 = w1.alloc (.cells #[.int .i64 k, .int .i64 y, .string t] 124) := ⟨_, rfl⟩
  have B2 : Below w1.heap.size w1 w2 := by rw [hw2]; exact below_new (Below.refl _ _) _
  have T2 : TokBox w1.heap.size k y t w2 := by rw [hw2]; exact heap_alloc_new w1 _
  have B02 := below_over hb1 B2
  have t0 : w2.cell? ⟨w1.heap.size, 0, none⟩ = some (.int .i64 k) := Lib.cell_of_heap T2 0
  have t1 : w2.cell? ⟨w1.heap.size, 1, none⟩ = some (.int .i64 y) := Lib.cell_of_heap T2 1
  have t2 : w2.cell? ⟨w1.heap.size, 2, none⟩ = some (.string t) := Lib.cell_of_heap T2 2
  have AF := Lib.hid (hf.says k y t w2 (by omega))
  have eg := hf.enters
  have HT2 := Lib.hid T2
  have HB02 := Lib.hid B02
  have HW2 := Lib.hid hw2
  have hs1 := hb1.size
  clear hw2 B2 T2 B02 hb1 NX hf
  go_upto_region 2 with fail
  rw [← HW2.out]
  unfold tokV at AF
  go_wp2_with fail
  refine AF.out.mono ?_; rintro e w3 ⟨rfl, hb3⟩
  have B03 := below_over HB02.out hb3
  have h3 := HH.out.below B03
  obtain ⟨v, hv⟩ : ∃ v, p k t = v := ⟨_, rfl⟩
  rw [hv]
  have MU := Lib.hid (must_any h3 v 2 (by decide))
  have HT3 := Lib.hid (HT2.out.on hb3)
  have HK3 := Lib.hid (Kp.of_below (r := q) B03)
  have hl3 : w1.heap.size < w3.heap.size := (Array.getElem?_eq_some_iff.1 HT3.out).1
  have HQ := Lib.hid hv
  clear hb3 B03 h3 hv t0 t1 t2 AF eg
  go_wp2_with fail
  refine MU.out.mono ?_; rintro e w4 ⟨rfl, h4, k4⟩
  have hlt : mustB b v 2 = 0 → i < S.n := fun e => by
    by_cases hb : b = 0
    · subst hb
      cases v with
      | false => cases e
      | true =>
        have := HPK.out rfl
        rw [HQ.out] at this
        have h2 : decide (i < S.n) = true := by
          cases hd : decide (i < S.n) with
          | true => rfl
          | false => rw [hd] at this; cases this
        simpa using h2
    · rw [mustB_bad _ _ hb] at e; exact absurd e hb
  have PS := Lib.hid (cpass_any h4 hlt hbig)
  have ht5 : w1.heap.size ≠ q := by omega
  have T4 : Hid (TokBox w1.heap.size k y t w4) := Lib.hid ((k4.blk hl3 ht5).trans HT3.out)
  have HK4 := Lib.hid (HK3.out.trans k4)
  have hl4 := Nat.lt_of_lt_of_le hl3 k4.size
  have CL := Lib.hid (fun w => clone_own t w hts)
  have OUT : Hid (NameOut S (decide (i < S.n) && p (S.K i) (S.T i)) i b t (upI (mustB b v 2) i) (mustB b v 2)) := Lib.hid (by
    by_cases hb : b = 0
    · subst hb
      have e := HPK.out rfl
      rw [HQ.out] at e
      rw [← e]
      cases v with
      | true =>
        have hl : i < S.n := hlt rfl
        exact .inl ⟨rfl, rfl, HPT.out rfl hl, rfl, rfl⟩
      | false => exact .inr (.inl ⟨rfl, rfl, rfl, rfl⟩)
    · rw [mustB_bad _ _ hb, upI_ne _ hb]
      exact .inr (.inr ⟨hb, rfl, rfl⟩))
  clear h4 k4 HT2 HT3 HB02 HW2 MU HPK HPT hlt HH HK3
  go_wp2_with fail
  refine PS.out.mono ?_; rintro e w5 ⟨rfl, h5, k5⟩
  have T5 : TokBox w1.heap.size k y t w5 := (k5.blk hl4 ht5).trans T4.out
  have t2 : w5.cell? ⟨w1.heap.size, 2, none⟩ = some (.string t) := Lib.cell_of_heap T5 2
  have H5 := Lib.hid h5
  have HK5 := Lib.hid (HK4.out.trans k5)
  clear h5 k5 T5 T4 PS HK4
  go_wp2_with fail
  refine (CL.out _).mono ?_; rintro e w6 ⟨rfl, hb6⟩
  have H6' := Lib.hid (H5.out.below hb6)
  have K6 := Lib.hid (HK5.out.trans (Kp.of_below hb6))
  clear hb6 H5 HK5
  go_wp2_with fail
  go_ret
  exact ⟨t, _, _, rfl, hts, H6'.out, K6.out, OUT.out⟩

end Go.Proofs.YtpfoclpgcbjjoaaGreatDoor

/- Plain: a text is a number without noughts ahead just if it is what the number's digits are. -/
namespace Go.Proofs.YtpfoclpgcbjjoaaGreatDoor.M
open Go Go.Lib

theorem nd_small {u : Nat} (h : u < 10) : decDigits u = [UInt8.ofNat (48 + u)] := by rw [decDigits, dif_pos h]
theorem nd_big {u : Nat} (h : 10 ≤ u) : decDigits u = decDigits (u / 10) ++ [UInt8.ofNat (48 + u % 10)] := by rw [decDigits, dif_neg (by omega)]
theorem nd_nat {n : Nat} (h : n < 256) : (UInt8.ofNat n).toNat = n := by simp; omega
theorem nd_ne (u : Nat) : decDigits u ≠ [] := by
  by_cases h : u < 10
  · rw [nd_small h]; simp
  · rw [nd_big (by omega)]; simp
theorem nd_mem : ∀ (n u : Nat), u < n → ∀ c ∈ decDigits u, 48 ≤ c.toNat ∧ c.toNat ≤ 57
  | 0, _, h => by omega
  | n + 1, u, h => by
    intro c hc
    by_cases hs : u < 10
    · rw [nd_small hs] at hc
      simp only [List.mem_singleton] at hc
      rw [hc, nd_nat (by omega)]; omega
    · rw [nd_big (by omega)] at hc
      rcases List.mem_append.1 hc with hc | hc
      · exact nd_mem n (u / 10) (by omega) c hc
      · simp only [List.mem_singleton] at hc
        rw [hc, nd_nat (by omega)]; omega
theorem nd_head : ∀ (n u : Nat), u < n → 1 ≤ u → 48 < bt (decDigits u) 0
  | 0, _, h, _ => by omega
  | n + 1, u, h, h1 => by
    by_cases hs : u < 10
    · rw [nd_small hs]
      have := nd_nat (n := 48 + u) (by omega)
      show (48 : Int) < (((UInt8.ofNat (48 + u)).toNat : Nat) : Int)
      omega
    · rw [nd_big (by omega)]
      have ih := nd_head n (u / 10) (by omega) (by omega)
      have hne := nd_ne (u / 10)
      cases hd : decDigits (u / 10) with
      | nil => exact absurd hd hne
      | cons a t => rw [hd] at ih; exact ih
theorem nd_len : ∀ (k u : Nat), u < 10 ^ (k + 1) → (decDigits u).length ≤ k + 1
  | 0, u, h => by rw [nd_small (by simpa using h)]; simp
  | k + 1, u, h => by
    by_cases hs : u < 10
    · rw [nd_small hs]; simp
    · rw [nd_big (by omega), List.length_append]
      have := nd_len k (u / 10) (by rw [Nat.pow_succ] at h; omega)
      simp; omega
theorem nd_digs : ∀ (n u : Nat), u < n → digs (decDigits u) 0 = u
  | 0, _, h => by omega
  | n + 1, u, h => by
    by_cases hs : u < 10
    · rw [nd_small hs]
      have := nd_nat (n := 48 + u) (by omega)
      show 10 * (0 : Int) + ((((UInt8.ofNat (48 + u)).toNat : Nat) : Int) - 48) = u
      omega
    · have := nd_nat (n := 48 + u % 10) (by omega)
      rw [nd_big (by omega), digs_snoc, nd_digs n (u / 10) (by omega)]
      omega

theorem mem_dig {l : List UInt8} (h : ∀ j, j < l.length → digC (bt l j) = true) : ∀ c ∈ l, 48 ≤ c.toNat ∧ c.toNat ≤ 57 := fun c hc => by
  obtain ⟨j, hj⟩ := List.getElem?_of_mem hc
  have hl := (List.getElem?_eq_some_iff.1 hj).1
  have := h j hl
  unfold digC bt at this
  rw [List.getD_eq_getElem?_getD, hj] at this
  simp at this
  omega
theorem of_digs : ∀ (n : Nat) (l : List UInt8), l.length = n → 1 ≤ n → (∀ c ∈ l, 48 ≤ c.toNat ∧ c.toNat ≤ 57) → 48 < bt l 0 → 1 ≤ digs l 0 ∧ decDigits (digs l 0).toNat = l
  | 0, _, _, h, _, _ => by omega
  | n + 1, l, hl, _, hm, h0 => by
    have hne : l ≠ [] := fun e => by rw [e] at hl; cases hl
    obtain ⟨l', c, rfl⟩ : ∃ l' c, l = l' ++ [c] := ⟨l.dropLast, l.getLast hne, (List.dropLast_concat_getLast hne).symm⟩
    have hc := hm c (by simp)
    have hcc : UInt8.ofNat (48 + (c.toNat - 48)) = c := by
      rw [show 48 + (c.toNat - 48) = c.toNat by omega]; simp
    rw [digs_snoc]
    by_cases hn : n = 0
    · subst hn
      have e : l' = [] := List.length_eq_zero_iff.1 (by simpa using hl)
      subst e
      have h1 : 48 < c.toNat := by
        have : (48 : Int) < ((c.toNat : Nat) : Int) := h0
        omega
      have hv : (10 * digs [] 0 + (((c.toNat : Nat) : Int) - 48)).toNat = c.toNat - 48 := by
        show (10 * (0 : Int) + (((c.toNat : Nat) : Int) - 48)).toNat = _
        omega
      refine ⟨by show (1 : Int) ≤ 10 * 0 + _; omega, ?_⟩
      rw [hv, nd_small (by omega), hcc]; rfl
    · have hl' : l'.length = n := by simpa using hl
      have hb : bt (l' ++ [c]) 0 = bt l' 0 := by
        unfold bt
        cases l' with
        | nil => simp at hl'; omega
        | cons a t => rfl
      rw [hb] at h0
      obtain ⟨h1, h2⟩ := of_digs n l' hl' (by omega) (fun x hx => hm x (by simp [hx])) h0
      generalize digs l' 0 = m at h1 h2
      refine ⟨by omega, ?_⟩
      have e1 : (10 * m + (((c.toNat : Nat) : Int) - 48)).toNat / 10 = m.toNat := by omega
      have e2 : (10 * m + (((c.toNat : Nat) : Int) - 48)).toNat % 10 = c.toNat - 48 := by omega
      rw [nd_big (by omega), e1, e2, h2, hcc]
theorem digs_lt : ∀ (l : List UInt8) (a : Int) (k : Nat), 0 ≤ a → a < (10 ^ k : Nat) → (∀ c ∈ l, 48 ≤ c.toNat ∧ c.toNat ≤ 57) → 0 ≤ digs l a ∧ digs l a < (10 ^ (k + l.length) : Nat)
  | [], a, k, h0, h1, _ => ⟨h0, h1⟩
  | c :: r, a, k, h0, h1, hm => by
    have hc := hm c (by simp)
    have e : (10 ^ (k + 1) : Nat) = 10 * 10 ^ k := by rw [Nat.pow_succ, Nat.mul_comm]
    have := digs_lt r (10 * a + ((c.toNat : Int) - 48)) (k + 1) (by omega) (by rw [e]; push_cast; push_cast at h1; omega) (fun x hx => hm x (by simp [hx]))
    rw [show k + (c :: r).length = k + 1 + r.length by simp; omega]
    exact this
theorem dec_digs : ∀ (l : List UInt8) (a : Nat), (∀ c ∈ l, 48 ≤ c.toNat ∧ c.toNat ≤ 57) → ∃ n : Nat, decFrom a l = some n ∧ (n : Int) = digs l a
  | [], a, _ => ⟨a, rfl, rfl⟩
  | c :: r, a, hm => by
    have hc := hm c (by simp)
    have hd : digitVal c = some (c.toNat - 48) := by unfold digitVal; rw [if_pos (by omega)]
    obtain ⟨n, h1, h2⟩ := dec_digs r (a * 10 + (c.toNat - 48)) (fun x hx => hm x (by simp [hx]))
    refine ⟨n, by simp only [decFrom, hd]; exact h1, ?_⟩
    rw [h2]
    show digs r _ = digs r _
    congr 1; omega
theorem num_yes {l : List UInt8} (h : majorOk l = true) : atoiAll l = .ok (digs l 0) ∧ 1 ≤ digs l 0 ∧ digs l 0 ≤ 999999999 ∧ decDigits (digs l 0).toNat = l := by
  obtain ⟨h1, h9, hd, h0⟩ := (majorOk_iff l).1 h
  have hm := mem_dig hd
  obtain ⟨p1, p2⟩ := of_digs l.length l rfl h1 hm h0
  have hb := digs_lt l 0 0 (by omega) (by decide) hm
  have hp : 10 ^ (0 + l.length) ≤ 10 ^ 9 := Nat.pow_le_pow_right (by decide) (by omega)
  have e9 : (10 : Nat) ^ 9 = 1000000000 := by decide
  refine ⟨?_, p1, by omega, p2⟩
  rw [atoiAll_short l (by omega)]
  cases l with
  | nil => simp at h1
  | cons c r =>
    have hc := hm c (by simp)
    have n45 : (c == 45) = false := by
      rw [beq_eq_false_iff_ne]; intro e; rw [e] at hc
      have : (45 : UInt8).toNat = 45 := rfl
      omega
    have n43 : (c == 43) = false := by
      rw [beq_eq_false_iff_ne]; intro e; rw [e] at hc
      have : (43 : UInt8).toNat = 43 := rfl
      omega
    obtain ⟨n, e1, e2⟩ := dec_digs (c :: r) 0 hm
    unfold atoi decNat
    simp only [n45, n43]
    rw [show (decFrom 0 (c :: r)) = some n from e1]
    simp [NumEnd.ofOption, e2]
theorem num_of {l : List UInt8} {v : Int} (h1 : 1 ≤ v) (h9 : v ≤ 999999999) (h : decDigits v.toNat = l) : majorOk l = true ∧ digs l 0 = v := by
  subst h
  have hl := nd_len 8 v.toNat (by have : (10 : Nat) ^ (8 + 1) = 1000000000 := by decide
                                  omega)
  have hne := nd_ne v.toNat
  refine ⟨(majorOk_iff _).2 ⟨?_, hl, fun j hj => ?_, nd_head (v.toNat + 1) v.toNat (by omega) (by omega)⟩, by rw [nd_digs (v.toNat + 1) v.toNat (by omega)]; omega⟩
  · rcases Nat.eq_zero_or_pos (decDigits v.toNat).length with e | e
    · exact absurd (List.length_eq_zero_iff.1 e) hne
    · exact e
  · have := nd_mem (v.toNat + 1) v.toNat (by omega) _ (List.getElem_mem hj)
    unfold digC bt
    rw [List.getD_eq_getElem?_getD, List.getElem?_eq_getElem hj]
    simp
    omega

end Go.Proofs.YtpfoclpgcbjjoaaGreatDoor.M

/- The code's Number, 1 being the least. -/
namespace Go.Proofs.YtpfoclpgcbjjoaaGreatDoor
open Go.RowKit
open Go.Sort
open M

/-- What the library's variables hold. -/
structure CEnv (w : World) : Prop where
  pow : Lib.TabIs Tryz.prog w "internal/strconv.uint64pow10" .u64 Lib.pow10Tab
  syn : ∃ te pe, w.cell? ⟨5, 0, none⟩ = some (.iface te pe)
  rng : ∃ te pe, w.cell? ⟨6, 0, none⟩ = some (.iface te pe)
theorem CEnv.on {w w' : World} (h : CEnv w) (hb : Below w.heap.size w w') : CEnv w' := by
  refine ⟨Lib.tabBelow_of_tabIs h.pow w' hb, ?_, ?_⟩
  · obtain ⟨te, pe, e⟩ := h.syn
    exact ⟨te, pe, (hb.cell (p := ⟨5, 0, none⟩) (World.block_lt_of_cell? _ _ e)).trans e⟩
  · obtain ⟨te, pe, e⟩ := h.rng
    exact ⟨te, pe, (hb.cell (p := ⟨6, 0, none⟩) (World.block_lt_of_cell? _ _ e)).trans e⟩

theorem atoi_own (s : ByteArray) (w : World) (hs : s.size ≤ 281474976710656) (he : CEnv w) : Calls Tryz.prog 176 #[.string s] w fun e w' => ∃ (v : Int) (ev : Value), e = .returned (.tuple #[.int .i64 v, ev]) ∧ Below w.heap.size w w' ∧
    ((ev = .nilIface ∧ Lib.atoiAll s.data.toList = .ok v) ∨ ((∃ te pe, ev = .iface te (.pointer (some pe))) ∧ ∀ u, Lib.atoiAll s.data.toList ≠ .ok u)) := by
  match h : Lib.atoiAll s.data.toList with
  | Lib.NumEnd.ok v =>
    refine (Tryz.strconv_Atoi_ok s (by omega) v h w).mono ?_
    rintro e w' ⟨rfl, hw⟩
    refine ⟨v, .nilIface, rfl, ?_, .inl ⟨rfl, rfl⟩⟩
    rcases hw with rfl | ⟨t, rfl⟩
    · exact Below.refl _ _
    · exact Lib.bytesWorld_below w _ t
  | Lib.NumEnd.syntax =>
    obtain ⟨te, pe, hv⟩ := he.syn
    refine (Tryz.strconv_Atoi_syntax s hs h _ w hv (.inr ⟨te, pe, rfl⟩)).mono ?_
    rintro e w' ⟨N, rfl, -, -, hb⟩
    exact ⟨_, _, rfl, hb, .inr ⟨⟨_, _, rfl⟩, fun u => by simp⟩⟩
  | Lib.NumEnd.range =>
    obtain ⟨te, pe, hv⟩ := he.rng
    refine (Tryz.strconv_Atoi_range s hs h _ w hv (.inr ⟨te, pe, rfl⟩)).mono ?_
    rintro e w' ⟨N, rfl, -, -, hb⟩
    exact ⟨_, _, rfl, hb, .inr ⟨⟨_, _, rfl⟩, fun u => by simp⟩⟩
theorem itoa_own (n : Int) (w : World) (h0 : -9223372036854775808 ≤ n) (h1 : n ≤ 9223372036854775807) (he : CEnv w) :
    Calls Tryz.prog 70 #[.int .i64 n] w fun e w' => e = .returned (.string ⟨(Lib.itoa n).toArray⟩) ∧ Below w.heap.size w w' :=
  (Tryz.strconv_Itoa n h0 h1 w he.pow).mono fun e w' ⟨he, k, os, hw⟩ => by
    subst hw
    exact ⟨he, ⟨rfl, rfl, rfl, Lib.size_grow _ _ _, fun j hj => Lib.heap_grow_old w k os j hj⟩⟩

/-- What a number leaves. -/
def NumOut (S : Toks) (i b : Nat) (v : Int) (i' b' : Nat) : Prop :=
  (b = 0 ∧ S.major i = true ∧ v = digs (S.T i).data.toList 0 ∧ i' = i + 1 ∧ b' = 0) ∨ (b = 0 ∧ S.major i = false ∧ i' = i ∧ b' = 2) ∨ (b ≠ 0 ∧ i' = i ∧ b' = b)
/-- Whether a token is a number as an Open's must be, by what the library tells. -/
theorem whole_eq {S : Toks} {b i : Nat} {v : Int} (hb : b = 0) (hk : (kAt S b i == 3) = true) (ha : Lib.atoiAll (tAt S b i).data.toList = .ok v) :
    (((Lib.itoa v).toArray.toList == (tAt S b i).data.toList) && (decide (1 ≤ v) && decide (v ≤ 999999999))) = S.major i ∧ (S.major i = true → v = digs (S.T i).data.toList 0) := by
  have hk3 : kAt S b i = 3 := by simpa using hk
  have hlt : i < S.n := by
    by_cases h : i < S.n
    · exact h
    · unfold kAt at hk3; rw [if_neg (fun x => h x.2)] at hk3; cases hk3
  have e1 : kAt S b i = S.K i := if_pos ⟨hb, hlt⟩
  have e2 : tAt S b i = S.T i := if_pos ⟨hb, hlt⟩
  rw [e2] at ha ⊢
  rw [e1] at hk3
  have hm : S.major i = majorOk (S.T i).data.toList := by unfold Toks.major; simp [hlt, hk3]
  rw [hm]
  cases hq : majorOk (S.T i).data.toList with
  | true =>
    obtain ⟨a1, a2, a3, a4⟩ := num_yes hq
    rw [a1] at ha
    have hv : digs (S.T i).data.toList 0 = v := by simpa using ha
    refine ⟨?_, fun _ => hv.symm⟩
    rw [← hv]
    unfold Lib.itoa
    rw [if_neg (by omega)]
    simp [a4, a2, a3]
  | false =>
    refine ⟨?_, fun h => by cases h⟩
    rw [Bool.eq_false_iff]
    intro h
    simp only [Bool.and_eq_true, decide_eq_true_eq, beq_iff_eq] at h
    obtain ⟨h1, h2, h3⟩ := h
    have : Lib.decDigits v.toNat = (S.T i).data.toList := by
      rw [← h1]; unfold Lib.itoa; rw [if_neg (by omega)]
    rw [(num_of h2 h3 this).1] at hq
    cases hq

/-- What is to be held of a number so far. -/
def NumQ (S : Toks) (i b : Nat) (v : Int) (q : Bool) : Prop := b = 0 → (q && (decide (1 ≤ v) && decide (v ≤ 999999999))) = S.major i ∧ (S.major i = true → v = digs (S.T i).data.toList 0)
theorem NumQ.no {S : Toks} {i b : Nat} {v : Int} (h : b = 0 → S.major i = false) : NumQ S i b v false := fun hb => ⟨(h hb).symm, fun e => by rw [h hb] at e; cases e⟩
theorem NumQ.out {S : Toks} {i b : Nat} {v : Int} {q p : Bool} (h : NumQ S i b v q) (hp : (q && (decide (1 ≤ v) && decide (v ≤ 999999999))) = p) : NumOut S i b v (upI (mustB b p 2) i) (mustB b p 2) := by
  by_cases hb : b = 0
  · subst hb
    obtain ⟨h1, h2⟩ := h rfl
    rw [hp] at h1
    cases p with
    | true => exact .inl ⟨rfl, h1.symm, h2 h1.symm, rfl, rfl⟩
    | false => exact .inr (.inl ⟨rfl, h1.symm, rfl, rfl⟩)
  · rw [mustB_bad _ _ hb, upI_ne _ hb]
    exact .inr (.inr ⟨hb, rfl, rfl⟩)
theorem major_k {S : Toks} {i b : Nat} (hb : b = 0) (hk : (kAt S b i == 3) = false) : S.major i = false := by
  cases h : S.major i with
  | false => rfl
  | true =>
    unfold Toks.major at h
    simp only [Bool.and_eq_true, decide_eq_true_eq, beq_iff_eq] at h
    have : kAt S b i = S.K i := if_pos ⟨hb, by simp_all⟩
    rw [this] at hk
    simp_all
theorem major_e {S : Toks} {i b : Nat} (hb : b = 0) (ha : ∀ u, Lib.atoiAll (tAt S b i).data.toList ≠ .ok u) : S.major i = false := by
  cases h : S.major i with
  | false => rfl
  | true =>
    unfold Toks.major at h
    simp only [Bool.and_eq_true, decide_eq_true_eq, beq_iff_eq] at h
    have e : tAt S b i = S.T i := if_pos ⟨hb, by simp_all⟩
    rw [e] at ha
    have hm : majorOk (S.T i).data.toList = true := by simp_all
    exact absurd (num_yes hm).1 (ha _)
theorem major_lt {S : Toks} {i : Nat} (h : S.major i = true) : i < S.n := by
  unfold Toks.major at h
  simp only [Bool.and_eq_true, decide_eq_true_eq, beq_iff_eq] at h
  simp_all

theorem NumOut.b0 {S : Toks} {i b : Nat} {v : Int} {i' b' : Nat} (h : NumOut S i b v i' b') (h0 : b' = 0) : b = 0 := by
  rcases h with ⟨h, -⟩ | ⟨h, -⟩ | ⟨-, -, h⟩
  · exact h
  · exact h
  · omega

set_option maxRecDepth 100000 in
set_option maxHeartbeats 4000000 in
theorem cmajor_any {W : World} {q : Nat} {A : Option Addr} {S : Toks} {cn i b : Nat} {w : World} (hc : CdCtx W q A S w) (h : CSt q A S.n cn i b w) (he : CEnv W) :
    Calls Tryz.prog 159 #[.pointer (some ⟨q, 0, none⟩), .int .i64 1] w fun e w' => ∃ v i' b', e = .returned (.int .i64 v) ∧ CSt q A S.n cn i' b' w' ∧ Kp q w w' ∧ NumOut S i b v i' b' := by
  have hbig := hc.big
  have hr := h.lt
  have NX := Lib.hid (next_any hc h)
  have HH := Lib.hid h
  have hts := tAt_size hc b i
  have hkw : W.heap.size ≤ w.heap.size := hc.below.size
  have HE := Lib.hid (he.on hc.below)
  have HWE := Lib.hid (fun hb v => whole_eq (S := S) (b := b) (i := i) (v := v) hb)
  have NMK := Lib.hid (fun hb hk => major_k (S := S) (i := i) (b := b) hb hk)
  have NME := Lib.hid (fun hb hk => major_e (S := S) (i := i) (b := b) hb hk)
  clear h hc he
  go_enter Tryz.func159, Tryz.ntmps159
  go_wp2_with fail
  refine NX.out.mono ?_; rintro e w1 ⟨y, rfl, hb1⟩
  generalize hk : kAt S b i = k at HWE NMK ⊢
  generalize ht : tAt S b i = t at HWE NME hts ⊢
  clear hk ht
  unfold tokV
  obtain ⟨w2, hw2⟩ : ∃ w2, w2 = w1.alloc (.cells #[.int .i64 k, .int .i64 y, .string t] 124) := ⟨_, rfl⟩
  have B2 : Below w1.heap.size w1 w2 := by rw [hw2]; exact below_new (Below.refl _ _) _
  have T2 : TokBox w1.heap.size k y t w2 := by rw [hw2]; exact heap_alloc_new w1 _
  have B02 := below_over hb1 B2
  have t0 : w2.cell? ⟨w1.heap.size, 0, none⟩ = some (.int .i64 k) := Lib.cell_of_heap T2 0
  have t1 : w2.cell? ⟨w1.heap.size, 1, none⟩ = some (.int .i64 y) := Lib.cell_of_heap T2 1
  have t2 : w2.cell? ⟨w1.heap.size, 2, none⟩ = some (.string t) := Lib.cell_of_heap T2 2
  have HT2 := Lib.hid T2
  have HB02 := Lib.hid B02
  have HW2 := Lib.hid hw2
  have hs1 := hb1.size
  have AT := Lib.hid (atoi_own t w2 hts (HE.out.on B02))
  clear hw2 B2 T2 B02 hb1 NX
  go_upto_region 2 with fail
  rw [← HW2.out]
  go_wp2_with fail
  refine AT.out.mono ?_; rintro e w3 ⟨v, ev, rfl, hb3, hev⟩
  have B03 := below_over HB02.out hb3
  have T3 := HT2.out.on hb3
  have t0 : w3.cell? ⟨w1.heap.size, 0, none⟩ = some (.int .i64 k) := Lib.cell_of_heap T3 0
  have t1 : w3.cell? ⟨w1.heap.size, 1, none⟩ = some (.int .i64 y) := Lib.cell_of_heap T3 1
  have t2 : w3.cell? ⟨w1.heap.size, 2, none⟩ = some (.string t) := Lib.cell_of_heap T3 2
  have HB03 := Lib.hid B03
  have HE3 := Lib.hid (HE.out.on B03)
  have HEV := Lib.hid hev
  clear hev T3 B03 hb3 AT HW2 HT2 HB02
  go_upto_region 3 with fail
  go_cut [8] (fun s6 wx => ∃ u, s6 = .bool u ∧ Below w3.heap.size w3 wx ∧ NumQ S i b v u)
  case first =>
    rcases hid_or (k == 3) with a3 | a3
    · have b3 := a3.out
      have Q := Lib.hid (NumQ.no (v := v) fun hb => NMK.out hb b3)
      clear HEV
      go_quiet (fail)
      go_wp2_with fail
      go_meet
      exact ⟨_, rfl, below_drewN (Below.refl _ _) _, Q.out⟩
    have b3 := a3.out
    rcases HEV.out with ⟨rfl, hok⟩ | ⟨⟨te, pe, rfl⟩, hno⟩
    rotate_left
    · have Q := Lib.hid (NumQ.no (v := v) fun hb => NME.out hb hno)
      clear HEV hno
      go_quiet (fail)
      go_wp2_with fail
      go_meet
      exact ⟨_, rfl, below_drewN (Below.refl _ _) _, Q.out⟩
    have hbd := Lib.atoiAll_bounds hok
    have E1 : t.toList = t.data.toList := Lib.toList_data t
    have E2 : (⟨(Lib.itoa v).toArray⟩ : ByteArray).toList = Lib.itoa v := Lib.toList_data _
    have Q : Hid (NumQ S i b v (Lib.itoa v == t.toList)) := Lib.hid fun hb => by
      rw [E1]
      exact HWE.out hb v b3 hok
    have cI : ∀ dd os, Calls Tryz.prog 70 #[.int .i64 v] (Sort.grow (redrawn w3 dd) os) fun e w'' => e = .returned (.string ⟨(Lib.itoa v).toArray⟩) ∧ ∃ pp : Regrown, w'' = Sort.grow (redrawn w3 pp.d) pp.os := fun dd os => Calls.regrown_of (itoa_own v _ hbd.1 hbd.2 (HE3.out.on (below_regrown w3 dd os)))
    have p0 := cell_regrown t0; have p2 := cell_regrown t2
    clear t0 t1 t2 hbd E1 E2 hok HEV HE HE3 HWE
    refine wp_region_quiet_below (by kernel_rfl) (by kernel_rfl) ?_
    repeat (any_goals (first | go_big_quiet_step (with_reducible exact cI _ _) | quiet_step (with_reducible exact cI _ _)))
    refine wpQuiet_nil ?_
    intro _ hw'
    obtain ⟨⟨dq, osq⟩, hw''⟩ := hw'
    subst hw''
    have hb4 := below_regrown w3 dq osq
    go_wp2_with fail
    go_meet
    exact ⟨_, rfl, hb4, Q.out⟩
  case rest =>
    obtain ⟨u, rfl, hb4, hq⟩ := hcut
    have B04 := below_over HB03.out hb4
    have h4 := HH.out.below B04
    have HK4 := Lib.hid (Kp.of_below (r := q) B04)
    have MU := Lib.hid (fun p => must_any h4 p 2 (by decide))
    have HQ := Lib.hid hq
    have UP : Hid (∀ p w5, (u && (decide (1 ≤ v) && decide (v ≤ 999999999))) = p → CSt q A S.n cn i (mustB b p 2) w5 → Calls Tryz.prog 129 #[.pointer (some ⟨q, 0, none⟩)] w5 fun e w' => e = .returned (.tuple #[]) ∧ CSt q A S.n cn (upI (mustB b p 2) i) (mustB b p 2) w' ∧ Kp q w5 w') := Lib.hid fun p w5 hp h5 => cpass_any h5 (fun e => by
      by_cases hb : b = 0
      · subst hb
        have := (HQ.out rfl).1
        rw [hp] at this
        cases p with
        | true => exact major_lt this.symm
        | false => cases e
      · rw [mustB_bad _ _ hb] at e; exact absurd e hb) hbig
    clear hb4 B04 h4 hq HE HE3 HEV HWE NMK NME HB03 HH t0 t1 t2
    rcases hid_or u with aq | aq
    · have := aq.out; subst this
      go_upto_region 4 with fail
      go_wp2_with fail
      refine (MU.out _).mono ?_; rintro e w5 ⟨rfl, h5, k5⟩
      have HP : Hid ((false && (decide (1 ≤ v) && decide (v ≤ 999999999))) = false) := Lib.hid (by rfl)
      have PS := Lib.hid (UP.out false w5 HP.out h5)
      have O := Lib.hid (HQ.out.out HP.out)
      have HK5 := Lib.hid (HK4.out.trans k5)
      clear h5 k5 UP MU HQ HP HK4
      go_wp2_with fail
      refine PS.out.mono ?_; rintro e w6 ⟨rfl, h6, k6⟩
      have H6 := Lib.hid h6
      have HK6 := Lib.hid (HK5.out.trans k6)
      clear h6 k6 PS HK5
      go_wp2_with fail
      go_ret
      exact ⟨v, _, _, rfl, H6.out, HK6.out, O.out⟩
    have := aq.out; subst this
    rcases hid_or (decide (1 ≤ v)) with a1 | a1
    · have b1 := a1.out
      go_upto_region 4 with fail
      go_wp2_with fail
      refine (MU.out _).mono ?_; rintro e w5 ⟨rfl, h5, k5⟩
      have HP : Hid ((true && (decide (1 ≤ v) && decide (v ≤ 999999999))) = false) := Lib.hid (by rw [b1]; rfl)
      have PS := Lib.hid (UP.out false w5 HP.out h5)
      have O := Lib.hid (HQ.out.out HP.out)
      have HK5 := Lib.hid (HK4.out.trans k5)
      clear h5 k5 UP MU HQ HP HK4
      go_wp2_with fail
      refine PS.out.mono ?_; rintro e w6 ⟨rfl, h6, k6⟩
      have H6 := Lib.hid h6
      have HK6 := Lib.hid (HK5.out.trans k6)
      clear h6 k6 PS HK5
      go_wp2_with fail
      go_ret
      exact ⟨v, _, _, rfl, H6.out, HK6.out, O.out⟩
    have b1 := a1.out
    rcases hid_or (decide (v ≤ 999999999)) with a2 | a2
    · have b2 := a2.out
      go_upto_region 4 with fail
      go_wp2_with fail
      refine (MU.out _).mono ?_; rintro e w5 ⟨rfl, h5, k5⟩
      have HP : Hid ((true && (decide (1 ≤ v) && decide (v ≤ 999999999))) = false) := Lib.hid (by rw [b1, b2]; rfl)
      have PS := Lib.hid (UP.out false w5 HP.out h5)
      have O := Lib.hid (HQ.out.out HP.out)
      have HK5 := Lib.hid (HK4.out.trans k5)
      clear h5 k5 UP MU HQ HP HK4
      go_wp2_with fail
      refine PS.out.mono ?_; rintro e w6 ⟨rfl, h6, k6⟩
      have H6 := Lib.hid h6
      have HK6 := Lib.hid (HK5.out.trans k6)
      clear h6 k6 PS HK5
      go_wp2_with fail
      go_ret
      exact ⟨v, _, _, rfl, H6.out, HK6.out, O.out⟩
    have b2 := a2.out
    go_upto_region 4 with fail
    go_wp2_with fail
    refine (MU.out _).mono ?_; rintro e w5 ⟨rfl, h5, k5⟩
    have HP : Hid ((true && (decide (1 ≤ v) && decide (v ≤ 999999999))) = true) := Lib.hid (by rw [b1, b2]; rfl)
    have PS := Lib.hid (UP.out true w5 HP.out h5)
    have O := Lib.hid (HQ.out.out HP.out)
    have HK5 := Lib.hid (HK4.out.trans k5)
    clear h5 k5 UP MU HQ HP HK4
    go_wp2_with fail
    refine PS.out.mono ?_; rintro e w6 ⟨rfl, h6, k6⟩
    have H6 := Lib.hid h6
    have HK6 := Lib.hid (HK5.out.trans k6)
    clear h6 k6 PS HK5
    go_wp2_with fail
    go_ret
    exact ⟨v, _, _, rfl, H6.out, HK6.out, O.out⟩

end Go.Proofs.YtpfoclpgcbjjoaaGreatDoor

/- The code's reader: a cursor, and how many types have begun. The cursor's calls, as the reader makes them. -/
namespace Go.Proofs.YtpfoclpgcbjjoaaGreatDoor
open Go.RowKit
open Go.Sort
open M

/-- Of what was there only the cursor and the reader may have turned. -/
structure KQ (q r : Nat) (w w' : World) : Prop where
  os : w'.os = w.os
  tape : w'.tape = w.tape
  output : w'.output = w.output
  size : w.heap.size ≤ w'.heap.size
  block : ∀ j, j < w.heap.size → j ≠ r → j ≠ q → w'.heap[j]? = w.heap[j]?
theorem KQ.refl (q r : Nat) (w : World) : KQ q r w w := ⟨rfl, rfl, rfl, Nat.le_refl _, fun _ _ _ _ => rfl⟩
theorem KQ.trans {q r : Nat} {a b c : World} (h : KQ q r a b) (k : KQ q r b c) : KQ q r a c :=
  ⟨k.os.trans h.os, k.tape.trans h.tape, k.output.trans h.output, Nat.le_trans h.size k.size, fun j hj h1 h2 => (k.block j (Nat.lt_of_lt_of_le hj h.size) h1 h2).trans (h.block j hj h1 h2)⟩
theorem KQ.of_below {q r : Nat} {w w' : World} (h : Below w.heap.size w w') : KQ q r w w' := ⟨h.os, h.tape, h.output, h.size, fun j hj _ _ => h.block j hj⟩
theorem KQ.ofKp {q r : Nat} {w w' : World} (h : Kp q w w') : KQ q r w w' := ⟨h.os, h.tape, h.output, h.size, fun j hj _ h2 => h.blk hj h2⟩
theorem KQ.below {q r m : Nat} {w w' : World} (h : KQ q r w w') (hq : m ≤ q) (hr : m ≤ r) (hm : m ≤ w.heap.size) : Below m w w' := ⟨h.os, h.tape, h.output, h.size, fun j hj => h.block j (by omega) (by omega) (by omega)⟩
theorem KQ.put {q r : Nat} {w w' : World} (h : KQ q r w w') (i : Nat) (v : Value) : KQ q r w (w'.setCell ⟨r, i, none⟩ v) :=
  ⟨h.os, h.tape, h.output, by have := h.size; simpa using this, fun j hj h1 h2 => by
    rw [Below.heap_setCell _ _ _ _ (by show j ≠ r; exact h1)]
    exact h.block j hj h1 h2⟩
theorem KQ.alloc {q r : Nat} {w w' : World} (h : KQ q r w w') (o : Obj) : KQ q r w (w'.alloc o) := h.trans (KQ.of_below (below_new (Below.refl _ _) o))
theorem KQ.blk {q r : Nat} {a b : World} (h : KQ q r a b) {j : Nat} (hj : j < a.heap.size) (hne : j ≠ r ∧ j ≠ q) : b.heap[j]? = a.heap[j]? := h.block j hj hne.1 hne.2
theorem KQ.grow {q r : Nat} {w a b : World} {ob : Option Nat} (h : KQ q r w a) (g : a.grownBy b ob) (ho : ∀ k, ob = some k → w.heap.size ≤ k) : KQ q r w b :=
  ⟨g.os.trans h.os, g.tape.trans h.tape, g.output.trans h.output, Nat.le_trans h.size g.size, fun j hj h1 h2 => (g.block j (Nat.lt_of_lt_of_le hj h.size) (fun e => by have := ho j e.symm; omega)).trans (h.block j hj h1 h2)⟩

/-- The reader. -/
structure RSt (q r : Nat) (A : Option Addr) (n cn i c b : Nat) (w : World) : Prop where
  cur : CSt q A n cn i b w
  box : ∃ y : Int, (b = 0 → y = c) ∧ w.heap[r]? = some (.cells #[.pointer (some ⟨q, 0, none⟩), .int .i64 y] 203 (0, 0))
theorem RSt.qlt {q r : Nat} {A : Option Addr} {n cn i c b : Nat} {w : World} (h : RSt q r A n cn i c b w) : q < w.heap.size := h.cur.lt
theorem RSt.lt {q r : Nat} {A : Option Addr} {n cn i c b : Nat} {w : World} (h : RSt q r A n cn i c b w) : r < w.heap.size := by
  obtain ⟨y, -, h2⟩ := h.box
  exact (Array.getElem?_eq_some_iff.1 h2).1
theorem RSt.ne {q r : Nat} {A : Option Addr} {n cn i c b : Nat} {w : World} (h : RSt q r A n cn i c b w) : r ≠ q := by
  obtain ⟨y, -, h2⟩ := h.box
  obtain ⟨vs, h1⟩ := h.cur.typ
  exact two_types h2 h1 (by decide)
theorem RSt.p {q r : Nat} {A : Option Addr} {n cn i c b : Nat} {w : World} (h : RSt q r A n cn i c b w) : w.cell? ⟨r, 0, none⟩ = some (.pointer (some ⟨q, 0, none⟩)) := by
  obtain ⟨y, -, h2⟩ := h.box
  have := Lib.cell_of_heap h2 0
  simpa using this
theorem RSt.keep {q r : Nat} {A : Option Addr} {n cn i c b : Nat} {w w' : World} (h : RSt q r A n cn i c b w) (e : ∀ k : Nat, (∀ (vs : Array Value) (T : TypeId) (fr : Nat × Nat), w.heap[k]? = some (Obj.cells vs T fr) → T = 91 ∨ T = 126 ∨ T = 203) → k < w.heap.size → w'.heap[k]? = w.heap[k]?) : RSt q r A n cn i c b w' := by
  obtain ⟨vq, hq⟩ := h.cur.typ
  refine ⟨h.cur.keep (e q (fun vs T fr h1 => ?_) h.qlt) (fun g vs fr hg => e g (fun vs' T fr' h1 => ?_) (Array.getElem?_eq_some_iff.1 hg).1), ?_⟩
  · rw [hq] at h1; simp only [Option.some.injEq, Obj.cells.injEq] at h1; exact .inr (.inl h1.2.1.symm)
  · rw [hg] at h1; simp only [Option.some.injEq, Obj.cells.injEq] at h1; exact .inl h1.2.1.symm
  · obtain ⟨y, hy, h2⟩ := h.box
    refine ⟨y, hy, (e r (fun vs T fr h1 => ?_) h.lt).trans h2⟩
    rw [h2] at h1; simp only [Option.some.injEq, Obj.cells.injEq] at h1; exact .inr (.inr h1.2.1.symm)
theorem RSt.below {q r : Nat} {A : Option Addr} {n cn i c b : Nat} {w w' : World} (h : RSt q r A n cn i c b w) (hb : Below w.heap.size w w') : RSt q r A n cn i c b w' := h.keep fun k _ hk => hb.block k hk
theorem RSt.other {q r : Nat} {A : Option Addr} {n cn i c b : Nat} {w w' : World} (h : RSt q r A n cn i c b w) {g : Nat} {old : Array Value} {T : TypeId} {fr : Nat × Nat} (hg : w.heap[g]? = some (.cells old T fr)) (hT : T ≠ 91 ∧ T ≠ 126 ∧ T ≠ 203) (e : ∀ k, k ≠ g → w'.heap[k]? = w.heap[k]?) : RSt q r A n cn i c b w' :=
  h.keep fun k hk _ => e k fun hkg => by
    subst hkg
    rcases hk _ _ _ hg with e | e | e
    · exact hT.1 e
    · exact hT.2.1 e
    · exact hT.2.2 e
theorem RSt.turn {q r : Nat} {A : Option Addr} {n cn i c b i' b' : Nat} {w w' : World} (h : RSt q r A n cn i c b w) (h1 : CSt q A n cn i' b' w') (k : Kp q w w') (hb : b' = 0 → b = 0) : RSt q r A n cn i' c b' w' := by
  obtain ⟨y, hy, h2⟩ := h.box
  exact ⟨h1, y, fun e => hy (hb e), (k.blk h.lt h.ne).trans h2⟩
/-- Types++. -/
theorem RSt.more {q r : Nat} {A : Option Addr} {n cn i c b : Nat} {w : World} (h : RSt q r A n cn i c b w) (hc : c ≤ 500) :
    ∃ x : Int, w.cell? ⟨r, 1, none⟩ = some (.int .i64 x) ∧ w.frozen? ⟨r, 1, none⟩ = false ∧ (b = 0 → x = c) ∧ RSt q r A n cn i (c + 1) b (w.setCell ⟨r, 1, none⟩ (.int .i64 (wrap64 (x + 1)))) := by
  obtain ⟨y, hy, h2⟩ := h.box
  have hne := h.ne
  have h3 := Joins.block_setCell (i := 1) h2 (.int .i64 (wrap64 (y + 1)))
  refine ⟨y, by have := Lib.cell_of_heap h2 1; simpa using this, Lib.frozen_of_heap h2 1, hy, h.cur.keep (Below.heap_setCell _ _ _ _ (by show q ≠ r; omega)) (fun g vs fr hg => Below.heap_setCell _ _ _ _ (by show g ≠ r; exact two_types hg h2 (by decide))), wrap64 (y + 1), fun e => ?_, by simpa using h3⟩
  rw [hy e]
  unfold wrap64; omega
/-- Behind an error it does not matter how many there are. -/
theorem RSt.any {q r : Nat} {A : Option Addr} {n cn i c b : Nat} {w : World} (h : RSt q r A n cn i c b w) (hb : b ≠ 0) (c' : Nat) : RSt q r A n cn i c' b w := by
  obtain ⟨y, hy, h2⟩ := h.box
  exact ⟨h.cur, y, fun e => absurd e hb, h2⟩

/-- What every call of the code's reader stands on. -/
structure RCtx (W : World) (q r : Nat) (A : Option Addr) (S : Toks) (w : World) : Prop where
  cur : CdCtx W q A S w
  ler : W.heap.size ≤ r
theorem RCtx.on {W : World} {q r : Nat} {A : Option Addr} {S : Toks} {w w' : World} (h : RCtx W q r A S w) (hk : KQ q r w w') : RCtx W q r A S w' :=
  ⟨⟨h.cur.toks, h.cur.below.trans (hk.below h.cur.le h.ler h.cur.below.size), h.cur.le, h.cur.big, h.cur.small⟩, h.ler⟩

theorem rnext_any {W : World} {q r : Nat} {A : Option Addr} {S : Toks} {cn i c b : Nat} {w : World} (hc : RCtx W q r A S w) (h : RSt q r A S.n cn i c b w) :
    Calls Tryz.prog 130 #[.pointer (some ⟨q, 0, none⟩)] w fun e w' => ∃ y, e = .returned (tokV (kAt S b i) y (tAt S b i)) ∧ Below w.heap.size w w' := next_any hc.cur h.cur
theorem rmust_any {q r : Nat} {A : Option Addr} {n cn i c b : Nat} {w : World} (h : RSt q r A n cn i c b w) (so : Bool) (code : Nat) (hco : code ≠ 0) :
    Calls Tryz.prog 127 #[.pointer (some ⟨q, 0, none⟩), .bool so, .int .i64 code] w fun e w' => e = .returned (.tuple #[]) ∧ RSt q r A n cn i c (mustB b so code) w' ∧ KQ q r w w' :=
  (must_any h.cur so code hco).mono fun _ _ ⟨he, h1, k1⟩ => ⟨he, h.turn h1 k1 (mustB_0 hco), .ofKp k1⟩
theorem rskip_any {W : World} {q r : Nat} {A : Option Addr} {S : Toks} {cn i c b : Nat} {w : World} (hc : RCtx W q r A S w) (h : RSt q r A S.n cn i c b w) (s : ByteArray) :
    Calls Tryz.prog 160 #[.pointer (some ⟨q, 0, none⟩), .string s] w fun e w' => e = .returned (.bool (decide (b = 0) && S.sign i s.data.toList)) ∧ RSt q r A S.n cn (psI b (S.sign i s.data.toList) i) c b w' ∧ KQ q r w w' :=
  (skip_any hc.cur h.cur s).mono fun _ _ ⟨he, h1, k1⟩ => ⟨he, h.turn h1 k1 id, .ofKp k1⟩
theorem rsign_any {W : World} {q r : Nat} {A : Option Addr} {S : Toks} {cn i c b : Nat} {w : World} (hc : RCtx W q r A S w) (h : RSt q r A S.n cn i c b w) (s : ByteArray) :
    Calls Tryz.prog 134 #[.pointer (some ⟨q, 0, none⟩), .string s] w fun e w' => e = .returned (.tuple #[]) ∧ RSt q r A S.n cn (psI b (S.sign i s.data.toList) i) c (psB b (S.sign i s.data.toList)) w' ∧ KQ q r w w' :=
  (csign_any hc.cur h.cur s).mono fun _ _ ⟨he, h1, k1⟩ => ⟨he, h.turn h1 k1 psB_0, .ofKp k1⟩
theorem rpass_any {W : World} {q r : Nat} {A : Option Addr} {S : Toks} {cn i c : Nat} {w : World} (hc : RCtx W q r A S w) (h : RSt q r A S.n cn i c 0 w) (hi : i < S.n) :
    Calls Tryz.prog 129 #[.pointer (some ⟨q, 0, none⟩)] w fun e w' => e = .returned (.tuple #[]) ∧ RSt q r A S.n cn (i + 1) c 0 w' ∧ KQ q r w w' :=
  (cpass_any h.cur (fun _ => hi) hc.cur.big).mono fun _ _ ⟨he, h1, k1⟩ => ⟨he, h.turn h1 k1 id, .ofKp k1⟩
theorem rword_any {W : World} {q r : Nat} {A : Option Addr} {S : Toks} {cn i c b : Nat} {w : World} (hc : RCtx W q r A S w) (h : RSt q r A S.n cn i c b w) (f : Nat) (p : Int → ByteArray → Bool) (hf : AsksOk f p) (hp0 : p 0 ⟨#[]⟩ = false) :
    Calls Tryz.prog 88 #[.pointer (some ⟨q, 0, none⟩), .func (.func f) #[] #[]] w fun e w' => ∃ s i' b', e = .returned (.string s) ∧ s.size ≤ 281474976710656 ∧ RSt q r A S.n cn i' c b' w' ∧ KQ q r w w' ∧ NameOut S (decide (i < S.n) && p (S.K i) (S.T i)) i b s i' b' :=
  (cword_any hc.cur h.cur f p hf hp0).mono fun _ _ ⟨s, i', b', he, hs, h1, k1, hN⟩ => ⟨s, i', b', he, hs, h.turn h1 k1 hN.b0, .ofKp k1, hN⟩
theorem rmajor_any {W : World} {q r : Nat} {A : Option Addr} {S : Toks} {cn i c b : Nat} {w : World} (hc : RCtx W q r A S w) (h : RSt q r A S.n cn i c b w) (he : CEnv W) :
    Calls Tryz.prog 159 #[.pointer (some ⟨q, 0, none⟩), .int .i64 1] w fun e w' => ∃ v i' b', e = .returned (.int .i64 v) ∧ RSt q r A S.n cn i' c b' w' ∧ KQ q r w w' ∧ NumOut S i b v i' b' :=
  (cmajor_any hc.cur h.cur he).mono fun _ _ ⟨v, i', b', e1, h1, k1, hN⟩ => ⟨v, i', b', e1, h.turn h1 k1 hN.b0, .ofKp k1, hN⟩

end Go.Proofs.YtpfoclpgcbjjoaaGreatDoor
