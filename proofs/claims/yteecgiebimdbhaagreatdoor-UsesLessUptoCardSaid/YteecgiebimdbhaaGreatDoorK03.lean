/-
  Several texts in one.
-/
import Derived.Test.YteecgiebimdbhaaGreatDoorK02
import Derived.Lib.AtoiTie
import Derived.Lib.AtoiAllCases
import Derived.Lib.ItoaNum
import Derived.Lib.AtoiErrMem
import Derived.Lib.AppendIntMem
set_option maxRecDepth 100000
set_option maxHeartbeats 4000000
namespace Go.Proofs.YteecgiebimdbhaaGreatDoor
open Go.RowKit
open Go.Sort
open M
namespace M
theorem digs_snoc (c : UInt8) : ∀ (l : List UInt8) (a : Int), digs (l ++ [c]) a = 10 * digs l a + ((c.toNat : Int) - 48)
  | [], _ => rfl
  | _ :: r, _ => digs_snoc c r _
theorem majorOk_iff (l : List UInt8) : majorOk l = true ↔ 1 <= l.length /\ l.length <= 9 /\ (∀ j, j < l.length -> digC (bt l j) = true) /\ 48 < bt l 0 := by
  unfold majorOk
  simp only [Bool.and_eq_true, decide_eq_true_eq];rw [all_iff];exact ⟨fun h => ⟨h.1.1.1, h.1.1.2, h.1.2, h.2⟩, fun h => ⟨⟨⟨h.1, h.2.1⟩, h.2.2.1⟩, h.2.2.2⟩⟩
end M
theorem sign_res {α : Type} (q : Bool) (b i : Nat) (x : Nat -> Res α) : badR (psB b q) (psI b q i) (x (psI b q i)) = badR b i (if q = false then .err 2 i else x (i + 1)) := by
  by_cases hb : b = 0
  · subst hb
    cases q
    · rw [psB_no, psI_no]; rfl
    · rw [psB_yes, psI_yes]; rfl
  · rw [psB_bad _ hb, psI_bad _ _ hb, badR_ne _ _ hb, badR_ne _ _ hb]
def partsR (S : Toks) (k : Int) (z : List UInt8) (f d i c : Nat) : Res Ty := if k = 5 /\ S.sign i z = true then .ok (leafK 5) (i + 1) c else pParts S k z f d i c [] []
def fnR (S : Toks) (f d i c : Nat) : Res Ty := if S.sign i [41] = true then pEnd S f d (i + 1) c [] else pSubs S f d i c []
def listR (S : Toks) (f d i c : Nat) : Res Ty :=
  if S.sign (i + 1) [40] = false then .err 2 (i + 1)
  else match pT S f (d + 1) (i + 2) (c + 1) with
   | .err b j => .err b j
   | .ok s j c' => if S.sign j [41] = false then .err 2 j else .ok (Ty.mk 4 ⟨#[]⟩ 0 ⟨#[]⟩ ⟨#[]⟩ [] [s]) (j + 1) c'
def restR (S : Toks) (f d i c : Nat) : Res Ty :=
  if S.K i = 1 then pLocal S (S.T i) (i + 1) (c + 1)
  else if S.K i = 2 then
    (if baseT (S.T i).data.toList = 4 then
      listR S f d i c
     else if 0 < baseT (S.T i).data.toList then .ok (leafK (baseT (S.T i).data.toList)) (i + 1) (c + 1)
     else .ok (localT ⟨#[]⟩ (S.T i)) (i + 1) (c + 1))
  else if (S.T i).data.toList = [123] then partsR S 5 [125] f d (i + 1) (c + 1)
  else if (S.T i).data.toList = [91] then partsR S 6 [93] f d (i + 1) (c + 1)
  else if (S.T i).data.toList = [60] then pOpen S (i + 1) (c + 1)
  else fnR S f d (i + 1) (c + 1)
theorem pT_eq (S : Toks) (f d i c : Nat) : pT S (f + 1) d i c = if S.begins i = false then .err 2 i else if 32 < d \/ 500 <= c then .err 3 i else restR S f d i c := by
  conv => lhs; unfold pT
  unfold restR listR partsR fnR
  simp;rfl
theorem clone_own (s : ByteArray) (w : World) (hs : s.size <= 281474976710656) : Calls Tryz.prog 104 #[.string s] w fun e w' => e = .returned (.string s) /\ Below w.heap.size w w' := by
  go_enter Tryz.func104, Tryz.ntmps104
  go_wp2_with fail
  refine (Tryz.stringslite_Clone _ _ hs).mono ?_; rintro e w1 ⟨rfl, hb1⟩
  go_wp2
  go_ret;exact ⟨rfl, hb1⟩
structure AsksOk (f : Nat) (p : Int -> ByteArray -> Bool) : Prop where
  says : ∀ (k y : Int) (s : ByteArray) (w : World), s.size <= 9223372036854775807 -> Calls Tryz.prog f #[tokV k y s] w fun e w' => e = .returned (.bool (p k s)) /\ Below w.heap.size w w'
  enters : ∀ args w, (callFunc f args).run Tryz.prog w = .ok (.enter f args) w
theorem asksSmall : AsksOk 110 smallK := ⟨fun k y s w h => isSmall_any k y s w h, enters_of Tryz.func110 (by kernel_rfl) rfl⟩
theorem asksGreat : AsksOk 112 greatK := ⟨fun k y s w h => isGreat_any k y s w h, enters_of Tryz.func112 (by kernel_rfl) rfl⟩
def NameOut (S : Toks) (ok : Bool) (i b : Nat) (s : ByteArray) (i' b' : Nat) : Prop :=
  (b = 0 /\ ok = true /\ s = S.T i /\ i' = i + 1 /\ b' = 0) \/ (b = 0 /\ ok = false /\ i' = i /\ b' = 2) \/ (b ≠ 0 /\ i' = i /\ b' = b)
theorem cword_any {W : World} {q : Nat} {A : Option Addr} {S : Toks} {cn i b : Nat} {w : World} (hc : CdCtx W q A S w) (h : CSt q A S.n cn i b w) (f : Nat) (p : Int -> ByteArray -> Bool) (hf : AsksOk f p) (hp0 : p 0 ⟨#[]⟩ = false) :
    Calls Tryz.prog 109 #[.pointer (some ⟨q, 0, none⟩), .func (.func f) #[] #[]] w fun e w' => ∃ s i' b', e = .returned (.string s) /\ s.size <= 281474976710656 /\ CSt q A S.n cn i' b' w' /\ Kp q w w' /\ NameOut S (decide (i < S.n) && p (S.K i) (S.T i)) i b s i' b' := by
  have hbig := hc.big;have hr := h.lt;have NX := hZ (next_any hc h);have HH := hZ h;have hts := tAt_size hc b i
  have hpk : b = 0 -> p (kAt S b i) (tAt S b i) = (decide (i < S.n) && p (S.K i) (S.T i)) := fun hb => by
    unfold kAt tAt
    by_cases hlt : i < S.n
    · rw [if_pos ⟨hb, hlt⟩, if_pos ⟨hb, hlt⟩]; simp [hlt]
    · rw [if_neg (fun x => hlt x.2), if_neg (fun x => hlt x.2), hp0]; simp [hlt]
  have hpt : b = 0 -> i < S.n -> tAt S b i = S.T i := fun hb hlt => if_pos ⟨hb, hlt⟩
  have HPK := hZ hpk;have HPT := hZ hpt;clear h hc hpk hpt;go_enter Tryz.func109, Tryz.ntmps109
  go_wp2_with fail
  refine NX.out.mono ?_; rintro e w1 ⟨y, rfl, hb1⟩
  generalize hk : kAt S b i = k at HPK ⊢
  generalize ht : tAt S b i = t at HPK HPT hts ⊢
  clear hk ht;unfold tokV
  obtain ⟨w2, hw2⟩ : ∃ w2, w2 = w1.alloc (.cells #[.int .i64 k, .int .i64 y, .string t] 119) := ⟨_, rfl⟩;have B2 : Below w1.heap.size w1 w2 := by rw [hw2]; exact below_new (Below.refl _ _) _
  have T2 : TokBox w1.heap.size k y t w2 := by rw [hw2]; exact heap_alloc_new w1 _
  have B02 := below_over hb1 B2;have t0 : w2.cell? ⟨w1.heap.size, 0, none⟩ = some (.int .i64 k) := cZ T2 0;have t1 : w2.cell? ⟨w1.heap.size, 1, none⟩ = some (.int .i64 y) := cZ T2 1;have t2 : w2.cell? ⟨w1.heap.size, 2, none⟩ = some (.string t) := cZ T2 2;have AF := hZ (hf.says k y t w2 (by omega));have eg := hf.enters;have HT2 := hZ T2;have HB02 := hZ B02;have HW2 := hZ hw2;have hs1 := hb1.size;clear hw2 B2 T2 B02 hb1 NX hf;go_upto_region 2 with fail
  rw [<- HW2.out];unfold tokV at AF
  go_wp2_with fail
  refine AF.out.mono ?_; rintro e w3 ⟨rfl, hb3⟩
  have B03 := below_over HB02.out hb3;have h3 := HH.out.below B03;obtain ⟨v, hv⟩ : ∃ v, p k t = v := ⟨_, rfl⟩;rw [hv];have MU := hZ (must_any h3 v 2 (by decide));have HT3 := hZ (HT2.out.on hb3);have HK3 := hZ (Kp.of_below (r := q) B03);have hl3 : w1.heap.size < w3.heap.size := (Array.getElem?_eq_some_iff.1 HT3.out).1;have HQ := hZ hv;clear hb3 B03 h3 hv t0 t1 t2 AF eg;go_wp2_with fail
  refine MU.out.mono ?_; rintro e w4 ⟨rfl, h4, k4⟩
  have hlt : mustB b v 2 = 0 -> i < S.n := fun e => by
    by_cases hb : b = 0
    · subst hb
      cases v with
      | false => cases e
      | true =>
        have := HPK.out rfl
        rw [HQ.out] at this
        have h2 : decide (i < S.n) = true := by
          cases hd : decide (i < S.n) with
          | true => rfl
          | false => rw [hd] at this; cases this
        simpa using h2
    · rw [mustB_bad _ _ hb] at e; exact absurd e hb
  have PS := hZ (cpass_any h4 hlt hbig);have ht5 : w1.heap.size ≠ q := by omega
  have T4 : Hid (TokBox w1.heap.size k y t w4) := hZ ((k4.blk hl3 ht5).trans HT3.out);have HK4 := hZ (HK3.out.trans k4);have hl4 := Nat.lt_of_lt_of_le hl3 k4.size;have CL := hZ (fun w => clone_own t w hts)
  have OUT : Hid (NameOut S (decide (i < S.n) && p (S.K i) (S.T i)) i b t (upI (mustB b v 2) i) (mustB b v 2)) := hZ (by
    by_cases hb : b = 0
    · subst hb
      have e := HPK.out rfl;rw [HQ.out] at e;rw [<- e];cases v with
      | true =>
        have hl : i < S.n := hlt rfl;exact .inl ⟨rfl, rfl, HPT.out rfl hl, rfl, rfl⟩
      | false => exact .inr (.inl ⟨rfl, rfl, rfl, rfl⟩)
    · rw [mustB_bad _ _ hb, upI_ne _ hb]
      exact .inr (.inr ⟨hb, rfl, rfl⟩))
  clear h4 k4 HT2 HT3 HB02 HW2 MU HPK HPT hlt HH HK3;go_wp2_with fail
  refine PS.out.mono ?_; rintro e w5 ⟨rfl, h5, k5⟩
  have T5 : TokBox w1.heap.size k y t w5 := (k5.blk hl4 ht5).trans T4.out;have t2 : w5.cell? ⟨w1.heap.size, 2, none⟩ = some (.string t) := cZ T5 2;have H5 := hZ h5;have HK5 := hZ (HK4.out.trans k5);clear h5 k5 T5 T4 PS HK4;go_wp2_with fail
  refine (CL.out _).mono ?_; rintro e w6 ⟨rfl, hb6⟩
  have H6' := hZ (H5.out.below hb6)
  have K6 := hZ (HK5.out.trans (Kp.of_below hb6));clear hb6 H5 HK5;go_wp2_with fail
  go_ret;exact ⟨t, _, _, rfl, hts, H6'.out, K6.out, OUT.out⟩
end Go.Proofs.YteecgiebimdbhaaGreatDoor
namespace Go.Proofs.YteecgiebimdbhaaGreatDoor.M
open Go Go.Lib
theorem nd_small {u : Nat} (h : u < 10) : decDigits u = [UInt8.ofNat (48 + u)] := by rw [decDigits, dif_pos h]
theorem nd_big {u : Nat} (h : 10 <= u) : decDigits u = decDigits (u / 10) ++ [UInt8.ofNat (48 + u % 10)] := by rw [decDigits, dif_neg (by omega)]
theorem nd_nat {n : Nat} (h : n < 256) : (UInt8.ofNat n).toNat = n := by simp; omega
theorem nd_ne (u : Nat) : decDigits u ≠ [] := by
  by_cases h : u < 10
  · rw [nd_small h]; simp
  · rw [nd_big (by omega)]; simp
theorem nd_mem : ∀ (n u : Nat), u < n -> ∀ c ∈ decDigits u, 48 <= c.toNat /\ c.toNat <= 57
  | 0, _, h => by omega
  | n + 1, u, h => by
    intro c hc;by_cases hs : u < 10
    · rw [nd_small hs] at hc
      simp only [List.mem_singleton] at hc;rw [hc, nd_nat (by omega)]; omega
    · rw [nd_big (by omega)] at hc
      rcases List.mem_append.1 hc with hc | hc
      · exact nd_mem n (u / 10) (by omega) c hc
      · simp only [List.mem_singleton] at hc
        rw [hc, nd_nat (by omega)]; omega
theorem nd_head : ∀ (n u : Nat), u < n -> 1 <= u -> 48 < bt (decDigits u) 0
  | 0, _, h, _ => by omega
  | n + 1, u, h, h1 => by
    by_cases hs : u < 10
    · rw [nd_small hs]
      have := nd_nat (n := 48 + u) (by omega)
      show (48 : Int) < (((UInt8.ofNat (48 + u)).toNat : Nat) : Int)
      omega
    · rw [nd_big (by omega)]
      have ih := nd_head n (u / 10) (by omega) (by omega);have hne := nd_ne (u / 10);cases hd : decDigits (u / 10) with
      | nil => exact absurd hd hne
      | cons a t => rw [hd] at ih; exact ih
theorem nd_len : ∀ (k u : Nat), u < 10 ^ (k + 1) -> (decDigits u).length <= k + 1
  | 0, u, h => by rw [nd_small (by simpa using h)]; simp
  | k + 1, u, h => by
    by_cases hs : u < 10
    · rw [nd_small hs]; simp
    · rw [nd_big (by omega), List.length_append]
      have := nd_len k (u / 10) (by rw [Nat.pow_succ] at h; omega)
      simp; omega
theorem nd_digs : ∀ (n u : Nat), u < n -> digs (decDigits u) 0 = u
  | 0, _, h => by omega
  | n + 1, u, h => by
    by_cases hs : u < 10
    · rw [nd_small hs]
      have := nd_nat (n := 48 + u) (by omega)
      show 10 * (0 : Int) + ((((UInt8.ofNat (48 + u)).toNat : Nat) : Int) - 48) = u
      omega
    · have := nd_nat (n := 48 + u % 10) (by omega)
      rw [nd_big (by omega), digs_snoc, nd_digs n (u / 10) (by omega)];omega
theorem mem_dig {l : List UInt8} (h : ∀ j, j < l.length -> digC (bt l j) = true) : ∀ c ∈ l, 48 <= c.toNat /\ c.toNat <= 57 := fun c hc => by
  obtain ⟨j, hj⟩ := List.getElem?_of_mem hc;have hl := (List.getElem?_eq_some_iff.1 hj).1;have := h j hl
  unfold digC bt at this
  rw [List.getD_eq_getElem?_getD, hj] at this;simp at this;omega
theorem of_digs : ∀ (n : Nat) (l : List UInt8), l.length = n -> 1 <= n -> (∀ c ∈ l, 48 <= c.toNat /\ c.toNat <= 57) -> 48 < bt l 0 -> 1 <= digs l 0 /\ decDigits (digs l 0).toNat = l
  | 0, _, _, h, _, _ => by omega
  | n + 1, l, hl, _, hm, h0 => by
    have hne : l ≠ [] := fun e => by rw [e] at hl; cases hl
    obtain ⟨l', c, rfl⟩ : ∃ l' c, l = l' ++ [c] := ⟨l.dropLast, l.getLast hne, (List.dropLast_concat_getLast hne).symm⟩;have hc := hm c (by simp)
    have hcc : UInt8.ofNat (48 + (c.toNat - 48)) = c := by
      rw [show 48 + (c.toNat - 48) = c.toNat by omega]; simp
    rw [digs_snoc];by_cases hn : n = 0
    · subst hn
      have e : l' = [] := List.length_eq_zero_iff.1 (by simpa using hl);subst e
      have h1 : 48 < c.toNat := by
        have : (48 : Int) < ((c.toNat : Nat) : Int) := h0
        omega
      have hv : (10 * digs [] 0 + (((c.toNat : Nat) : Int) - 48)).toNat = c.toNat - 48 := by
        show (10 * (0 : Int) + (((c.toNat : Nat) : Int) - 48)).toNat = _
        omega
      refine ⟨by show (1 : Int) <= 10 * 0 + _; omega, ?_⟩;rw [hv, nd_small (by omega), hcc]; rfl
    · have hl' : l'.length = n := by simpa using hl
      have hb : bt (l' ++ [c]) 0 = bt l' 0 := by
        unfold bt
        cases l' with
        | nil => simp at hl'; omega
        | cons a t => rfl
      rw [hb] at h0;obtain ⟨h1, h2⟩ := of_digs n l' hl' (by omega) (fun x hx => hm x (by simp [hx])) h0;generalize digs l' 0 = m at h1 h2
      refine ⟨by omega, ?_⟩;have e1 : (10 * m + (((c.toNat : Nat) : Int) - 48)).toNat / 10 = m.toNat := by omega
      have e2 : (10 * m + (((c.toNat : Nat) : Int) - 48)).toNat % 10 = c.toNat - 48 := by omega
      rw [nd_big (by omega), e1, e2, h2, hcc]
theorem digs_lt : ∀ (l : List UInt8) (a : Int) (k : Nat), 0 <= a -> a < (10 ^ k : Nat) -> (∀ c ∈ l, 48 <= c.toNat /\ c.toNat <= 57) -> 0 <= digs l a /\ digs l a < (10 ^ (k + l.length) : Nat)
  | [], a, k, h0, h1, _ => ⟨h0, h1⟩
  | c :: r, a, k, h0, h1, hm => by
    have hc := hm c (by simp);have e : (10 ^ (k + 1) : Nat) = 10 * 10 ^ k := by rw [Nat.pow_succ, Nat.mul_comm]
    have := digs_lt r (10 * a + ((c.toNat : Int) - 48)) (k + 1) (by omega) (by rw [e]; push_cast; push_cast at h1; omega) (fun x hx => hm x (by simp [hx]))
    rw [show k + (c :: r).length = k + 1 + r.length by simp; omega];exact this
theorem dec_digs : ∀ (l : List UInt8) (a : Nat), (∀ c ∈ l, 48 <= c.toNat /\ c.toNat <= 57) -> ∃ n : Nat, decFrom a l = some n /\ (n : Int) = digs l a
  | [], a, _ => ⟨a, rfl, rfl⟩
  | c :: r, a, hm => by
    have hc := hm c (by simp);have hd : digitVal c = some (c.toNat - 48) := by unfold digitVal; rw [if_pos (by omega)]
    obtain ⟨n, h1, h2⟩ := dec_digs r (a * 10 + (c.toNat - 48)) (fun x hx => hm x (by simp [hx]));refine ⟨n, by simp only [decFrom, hd]; exact h1, ?_⟩;rw [h2];show digs r _ = digs r _
    congr 1; omega
theorem num_yes {l : List UInt8} (h : majorOk l = true) : atoiAll l = .ok (digs l 0) /\ 1 <= digs l 0 /\ digs l 0 <= 999999999 /\ decDigits (digs l 0).toNat = l := by
  obtain ⟨h1, h9, hd, h0⟩ := (majorOk_iff l).1 h;have hm := mem_dig hd;obtain ⟨p1, p2⟩ := of_digs l.length l rfl h1 hm h0;have hb := digs_lt l 0 0 (by omega) (by decide) hm;have hp : 10 ^ (0 + l.length) <= 10 ^ 9 := Nat.pow_le_pow_right (by decide) (by omega);have e9 : (10 : Nat) ^ 9 = 1000000000 := by decide
  refine ⟨?_, p1, by omega, p2⟩;rw [atoiAll_short l (by omega)];cases l with
  | nil => simp at h1
  | cons c r =>
    have hc := hm c (by simp)
    have n45 : (c == 45) = false := by
      rw [beq_eq_false_iff_ne]; intro e; rw [e] at hc
      have : (45 : UInt8).toNat = 45 := rfl
      omega
    have n43 : (c == 43) = false := by
      rw [beq_eq_false_iff_ne]; intro e; rw [e] at hc
      have : (43 : UInt8).toNat = 43 := rfl
      omega
    obtain ⟨n, e1, e2⟩ := dec_digs (c :: r) 0 hm;unfold atoi decNat
    simp only [n45, n43];rw [show (decFrom 0 (c :: r)) = some n from e1];simp [NumEnd.ofOption, e2]
theorem num_of {l : List UInt8} {v : Int} (h1 : 1 <= v) (h9 : v <= 999999999) (h : decDigits v.toNat = l) : majorOk l = true /\ digs l 0 = v := by
  subst h
  have hl := nd_len 8 v.toNat (by have : (10 : Nat) ^ (8 + 1) = 1000000000 := by decide
                                  omega)
  have hne := nd_ne v.toNat;refine ⟨(majorOk_iff _).2 ⟨?_, hl, fun j hj => ?_, nd_head (v.toNat + 1) v.toNat (by omega) (by omega)⟩, by rw [nd_digs (v.toNat + 1) v.toNat (by omega)]; omega⟩
  · rcases Nat.eq_zero_or_pos (decDigits v.toNat).length with e | e
    · exact absurd (List.length_eq_zero_iff.1 e) hne
    · exact e
  · have := nd_mem (v.toNat + 1) v.toNat (by omega) _ (List.getElem_mem hj)
    unfold digC bt
    rw [List.getD_eq_getElem?_getD, List.getElem?_eq_getElem hj];simp;omega
end Go.Proofs.YteecgiebimdbhaaGreatDoor.M
namespace Go.Proofs.YteecgiebimdbhaaGreatDoor
open Go.RowKit
open Go.Sort
open M
structure CEnv (w : World) : Prop where
 pow : Lib.TabIs Tryz.prog w "internal/strconv.uint64pow10" .u64 Lib.pow10Tab
 syn : ∃ te pe, w.cell? ⟨5, 0, none⟩ = some (.iface te pe)
 rng : ∃ te pe, w.cell? ⟨6, 0, none⟩ = some (.iface te pe)
theorem CEnv.on {w w' : World} (h : CEnv w) (hb : Below w.heap.size w w') : CEnv w' := by
 refine ⟨Lib.tabBelow_of_tabIs h.pow w' hb, ?_, ?_⟩
 ·obtain ⟨te, pe, e⟩ := h.syn
  exact ⟨te, pe, (hb.cell (p := ⟨5, 0, none⟩) (World.block_lt_of_cell? _ _ e)).trans e⟩
 ·obtain ⟨te, pe, e⟩ := h.rng
  exact ⟨te, pe, (hb.cell (p := ⟨6, 0, none⟩) (World.block_lt_of_cell? _ _ e)).trans e⟩
theorem atoi_own (s : ByteArray) (w : World) (hs : s.size <= 281474976710656) (he : CEnv w) : Calls Tryz.prog 192 #[.string s] w fun e w' => ∃ (v : Int) (ev : Value), e = .returned (.tuple #[.int .i64 v, ev]) /\ Below w.heap.size w w' /\
  ((ev = .nilIface /\ Lib.atoiAll s.data.toList = .ok v) \/ ((∃ te pe, ev = .iface te (.pointer (some pe))) /\ ∀ u, Lib.atoiAll s.data.toList ≠ .ok u)) := by
 match h : Lib.atoiAll s.data.toList with
 | Lib.NumEnd.ok v =>
  refine (Tryz.strconv_Atoi_ok s (by omega) v h w).mono ?_;rintro e w' ⟨rfl, hw⟩;refine ⟨v, .nilIface, rfl, ?_, .inl ⟨rfl, rfl⟩⟩;rcases hw with rfl | ⟨t, rfl⟩
  ·exact Below.refl _ _
  ·exact Lib.bytesWorld_below w _ t
 | Lib.NumEnd.syntax =>
  obtain ⟨te, pe, hv⟩ := he.syn;refine (Tryz.strconv_Atoi_syntax s hs h _ w hv (.inr ⟨te, pe, rfl⟩)).mono ?_;rintro e w' ⟨N, rfl, -, -, hb⟩;exact ⟨_, _, rfl, hb, .inr ⟨⟨_, _, rfl⟩, fun u => by simp⟩⟩
 | Lib.NumEnd.range =>
  obtain ⟨te, pe, hv⟩ := he.rng;refine (Tryz.strconv_Atoi_range s hs h _ w hv (.inr ⟨te, pe, rfl⟩)).mono ?_;rintro e w' ⟨N, rfl, -, -, hb⟩;exact ⟨_, _, rfl, hb, .inr ⟨⟨_, _, rfl⟩, fun u => by simp⟩⟩
theorem itoa_own (n : Int) (w : World) (h0 : -9223372036854775808 <= n) (h1 : n <= 9223372036854775807) (he : CEnv w) :
  Calls Tryz.prog 51 #[.int .i64 n] w fun e w' => e = .returned (.string ⟨(Lib.itoa n).toArray⟩) /\ Below w.heap.size w w' :=
 (Tryz.strconv_Itoa n h0 h1 w he.pow).mono fun e w' ⟨he, k, os, hw⟩ => by
  subst hw;exact ⟨he, ⟨rfl, rfl, rfl, Lib.size_grow _ _ _, fun j hj => Lib.heap_grow_old w k os j hj⟩⟩
def NumOut (S : Toks) (i b : Nat) (v : Int) (i' b' : Nat) : Prop :=
 (b = 0 /\ S.major i = true /\ v = digs (S.T i).data.toList 0 /\ i' = i + 1 /\ b' = 0) \/ (b = 0 /\ S.major i = false /\ i' = i /\ b' = 2) \/ (b ≠ 0 /\ i' = i /\ b' = b)
theorem whole_eq {S : Toks} {b i : Nat} {v : Int} (hb : b = 0) (hk : (kAt S b i == 3) = true) (ha : Lib.atoiAll (tAt S b i).data.toList = .ok v) :
  (((Lib.itoa v).toArray.toList == (tAt S b i).data.toList) && (decide (1 <= v) && decide (v <= 999999999))) = S.major i /\ (S.major i = true -> v = digs (S.T i).data.toList 0) := by
 have hk3 : kAt S b i = 3 := by simpa using hk
 have hlt : i < S.n := by
  by_cases h : i < S.n
  ·exact h
  ·unfold kAt at hk3; rw [if_neg (fun x => h x.2)] at hk3; cases hk3
 have e1 : kAt S b i = S.K i := if_pos ⟨hb, hlt⟩
 have e2 : tAt S b i = S.T i := if_pos ⟨hb, hlt⟩
 rw [e2] at ha ⊢
 rw [e1] at hk3
 have hm : S.major i = majorOk (S.T i).data.toList := by unfold Toks.major; simp [hlt, hk3]
 rw [hm]
 cases hq : majorOk (S.T i).data.toList with
 | true =>
  obtain ⟨a1, a2, a3, a4⟩ := num_yes hq;rw [a1] at ha;have hv : digs (S.T i).data.toList 0 = v := by simpa using ha
  refine ⟨?_, fun _ => hv.symm⟩;rw [<- hv];unfold Lib.itoa
  rw [if_neg (by omega)];simp [a4, a2, a3]
 | false =>
  refine ⟨?_, fun h => by cases h⟩;rw [Bool.eq_false_iff];intro h;simp only [Bool.and_eq_true, decide_eq_true_eq, beq_iff_eq] at h;obtain ⟨h1, h2, h3⟩ := h
  have : Lib.decDigits v.toNat = (S.T i).data.toList := by
   rw [<- h1]; unfold Lib.itoa; rw [if_neg (by omega)]
  rw [(num_of h2 h3 this).1] at hq;cases hq
def NumQ (S : Toks) (i b : Nat) (v : Int) (q : Bool) : Prop := b = 0 -> (q && (decide (1 <= v) && decide (v <= 999999999))) = S.major i /\ (S.major i = true -> v = digs (S.T i).data.toList 0)
theorem NumQ.no {S : Toks} {i b : Nat} {v : Int} (h : b = 0 -> S.major i = false) : NumQ S i b v false := fun hb => ⟨(h hb).symm, fun e => by rw [h hb] at e; cases e⟩
theorem NumQ.out {S : Toks} {i b : Nat} {v : Int} {q p : Bool} (h : NumQ S i b v q) (hp : (q && (decide (1 <= v) && decide (v <= 999999999))) = p) : NumOut S i b v (upI (mustB b p 2) i) (mustB b p 2) := by
 by_cases hb : b = 0
 ·subst hb
  obtain ⟨h1, h2⟩ := h rfl;rw [hp] at h1;cases p with
  | true => exact .inl ⟨rfl, h1.symm, h2 h1.symm, rfl, rfl⟩
  | false => exact .inr (.inl ⟨rfl, h1.symm, rfl, rfl⟩)
 ·rw [mustB_bad _ _ hb, upI_ne _ hb]
  exact .inr (.inr ⟨hb, rfl, rfl⟩)
theorem major_k {S : Toks} {i b : Nat} (hb : b = 0) (hk : (kAt S b i == 3) = false) : S.major i = false := by
 cases h : S.major i with
 | false => rfl
 | true =>
  unfold Toks.major at h
  simp only [Bool.and_eq_true, decide_eq_true_eq, beq_iff_eq] at h;have : kAt S b i = S.K i := if_pos ⟨hb, by simp_all⟩
  rw [this] at hk;simp_all
theorem major_e {S : Toks} {i b : Nat} (hb : b = 0) (ha : ∀ u, Lib.atoiAll (tAt S b i).data.toList ≠ .ok u) : S.major i = false := by
 cases h : S.major i with
 | false => rfl
 | true =>
  unfold Toks.major at h
  simp only [Bool.and_eq_true, decide_eq_true_eq, beq_iff_eq] at h;have e : tAt S b i = S.T i := if_pos ⟨hb, by simp_all⟩;rw [e] at ha;have hm : majorOk (S.T i).data.toList = true := by simp_all
  exact absurd (num_yes hm).1 (ha _)
theorem major_lt {S : Toks} {i : Nat} (h : S.major i = true) : i < S.n := by
 unfold Toks.major at h
 simp only [Bool.and_eq_true, decide_eq_true_eq, beq_iff_eq] at h
 simp_all
theorem cmajor_any {W : World} {q : Nat} {A : Option Addr} {S : Toks} {cn i b : Nat} {w : World} (hc : CdCtx W q A S w) (h : CSt q A S.n cn i b w) (he : CEnv W) :
  Calls Tryz.prog 151 #[.pointer (some ⟨q, 0, none⟩), .int .i64 1] w fun e w' => ∃ v i' b', e = .returned (.int .i64 v) /\ CSt q A S.n cn i' b' w' /\ Kp q w w' /\ NumOut S i b v i' b' := by
 have hbig := hc.big
 have hr := h.lt
 have NX := hZ (next_any hc h)
 have HH := hZ h
 have hts := tAt_size hc b i
 have hkw : W.heap.size <= w.heap.size := hc.below.size
 have HE := hZ (he.on hc.below)
 have HWE := hZ (fun hb v => whole_eq (S := S) (b := b) (i := i) (v := v) hb)
 have NMK := hZ (fun hb hk => major_k (S := S) (i := i) (b := b) hb hk)
 have NME := hZ (fun hb hk => major_e (S := S) (i := i) (b := b) hb hk)
 clear h hc he
 go_enter Tryz.func151, Tryz.ntmps151
 go_wp2_with fail
 refine NX.out.mono ?_; rintro e w1 ⟨y, rfl, hb1⟩
 generalize hk : kAt S b i = k at HWE NMK ⊢
 generalize ht : tAt S b i = t at HWE NME hts ⊢
 clear hk ht
 unfold tokV
 obtain ⟨w2, hw2⟩ : ∃ w2, w2 = w1.alloc (.cells #[.int .i64 k, .int .i64 y, .string t] 119) := ⟨_, rfl⟩
 have B2 : Below w1.heap.size w1 w2 := by rw [hw2]; exact below_new (Below.refl _ _) _
 have T2 : TokBox w1.heap.size k y t w2 := by rw [hw2]; exact heap_alloc_new w1 _
 have B02 := below_over hb1 B2
 have t0 : w2.cell? ⟨w1.heap.size, 0, none⟩ = some (.int .i64 k) := cZ T2 0
 have t1 : w2.cell? ⟨w1.heap.size, 1, none⟩ = some (.int .i64 y) := cZ T2 1
 have t2 : w2.cell? ⟨w1.heap.size, 2, none⟩ = some (.string t) := cZ T2 2
 have HT2 := hZ T2
 have HB02 := hZ B02
 have HW2 := hZ hw2
 have hs1 := hb1.size
 have AT := hZ (atoi_own t w2 hts (HE.out.on B02))
 clear hw2 B2 T2 B02 hb1 NX
 go_upto_region 2 with fail
 rw [<- HW2.out]
 go_wp2_with fail
 refine AT.out.mono ?_; rintro e w3 ⟨v, ev, rfl, hb3, hev⟩
 have B03 := below_over HB02.out hb3
 have T3 := HT2.out.on hb3
 have t0 : w3.cell? ⟨w1.heap.size, 0, none⟩ = some (.int .i64 k) := cZ T3 0
 have t1 : w3.cell? ⟨w1.heap.size, 1, none⟩ = some (.int .i64 y) := cZ T3 1
 have t2 : w3.cell? ⟨w1.heap.size, 2, none⟩ = some (.string t) := cZ T3 2
 have HB03 := hZ B03
 have HE3 := hZ (HE.out.on B03)
 have HEV := hZ hev
 clear hev T3 B03 hb3 AT HW2 HT2 HB02
 go_upto_region 3 with fail
 go_cut [8] (fun s6 wx => ∃ u, s6 = .bool u /\ Below w3.heap.size w3 wx /\ NumQ S i b v u)
 case first =>
  rcases hid_or (k == 3) with a3 | a3
  ·have b3 := a3.out
   have Q := hZ (NumQ.no (v := v) fun hb => NMK.out hb b3);clear HEV;go_quiet (fail)
   go_wp2_with fail
   go_meet
   exact ⟨_, rfl, below_drewN (Below.refl _ _) _, Q.out⟩
  have b3 := a3.out;rcases HEV.out with ⟨rfl, hok⟩ | ⟨⟨te, pe, rfl⟩, hno⟩
  rotate_left
  ·have Q := hZ (NumQ.no (v := v) fun hb => NME.out hb hno)
   clear HEV hno;go_quiet (fail)
   go_wp2_with fail
   go_meet
   exact ⟨_, rfl, below_drewN (Below.refl _ _) _, Q.out⟩
  have hbd := Lib.atoiAll_bounds hok;have E1 : t.toList = t.data.toList := Lib.toList_data t;have E2 : (⟨(Lib.itoa v).toArray⟩ : ByteArray).toList = Lib.itoa v := Lib.toList_data _
  have Q : Hid (NumQ S i b v (Lib.itoa v == t.toList)) := hZ fun hb => by
   rw [E1];exact HWE.out hb v b3 hok
  have cI : ∀ dd os, Calls Tryz.prog 51 #[.int .i64 v] (Sort.grow (redrawn w3 dd) os) fun e w'' => e = .returned (.string ⟨(Lib.itoa v).toArray⟩) /\ ∃ pp : Regrown, w'' = Sort.grow (redrawn w3 pp.d) pp.os := fun dd os => Calls.regrown_of (itoa_own v _ hbd.1 hbd.2 (HE3.out.on (below_regrown w3 dd os)))
  have p0 := cell_regrown t0; have p2 := cell_regrown t2
  clear t0 t1 t2 hbd E1 E2 hok HEV HE HE3 HWE;refine wp_region_quiet_below (by kernel_rfl) (by kernel_rfl) ?_;repeat (any_goals (first | go_big_quiet_step (with_reducible exact cI _ _) | quiet_step (with_reducible exact cI _ _)))
  refine wpQuiet_nil ?_;intro _ hw';obtain ⟨⟨dq, osq⟩, hw''⟩ := hw';subst hw'';have hb4 := below_regrown w3 dq osq;go_wp2_with fail
  go_meet
  exact ⟨_, rfl, hb4, Q.out⟩
 case rest =>
  obtain ⟨u, rfl, hb4, hq⟩ := hcut;have B04 := below_over HB03.out hb4;have h4 := HH.out.below B04;have HK4 := hZ (Kp.of_below (r := q) B04);have MU := hZ (fun p => must_any h4 p 2 (by decide));have HQ := hZ hq
  have UP : Hid (∀ p w5, (u && (decide (1 <= v) && decide (v <= 999999999))) = p -> CSt q A S.n cn i (mustB b p 2) w5 -> Calls Tryz.prog 107 #[.pointer (some ⟨q, 0, none⟩)] w5 fun e w' => e = .returned (.tuple #[]) /\ CSt q A S.n cn (upI (mustB b p 2) i) (mustB b p 2) w' /\ Kp q w5 w') := hZ fun p w5 hp h5 => cpass_any h5 (fun e => by
   by_cases hb : b = 0
   ·subst hb
    have := (HQ.out rfl).1
    rw [hp] at this;cases p with
    | true => exact major_lt this.symm
    | false => cases e
   ·rw [mustB_bad _ _ hb] at e; exact absurd e hb) hbig
  clear hb4 B04 h4 hq HE HE3 HEV HWE NMK NME HB03 HH t0 t1 t2;rcases hid_or u with aq | aq
  ·have := aq.out; subst this
   go_upto_region 4 with fail
   go_wp2_with fail
   refine (MU.out _).mono ?_; rintro e w5 ⟨rfl, h5, k5⟩
   have HP : Hid ((false && (decide (1 <= v) && decide (v <= 999999999))) = false) := hZ (by rfl);have PS := hZ (UP.out false w5 HP.out h5);have O := hZ (HQ.out.out HP.out);have HK5 := hZ (HK4.out.trans k5);clear h5 k5 UP MU HQ HP HK4;go_wp2_with fail
   refine PS.out.mono ?_; rintro e w6 ⟨rfl, h6, k6⟩
   have H6 := hZ h6;have HK6 := hZ (HK5.out.trans k6);clear h6 k6 PS HK5;go_wp2_with fail
   go_ret;exact ⟨v, _, _, rfl, H6.out, HK6.out, O.out⟩
  have := aq.out; subst this
  rcases hid_or (decide (1 <= v)) with a1 | a1
  ·have b1 := a1.out
   go_upto_region 4 with fail
   go_wp2_with fail
   refine (MU.out _).mono ?_; rintro e w5 ⟨rfl, h5, k5⟩
   have HP : Hid ((true && (decide (1 <= v) && decide (v <= 999999999))) = false) := hZ (by rw [b1]; rfl);have PS := hZ (UP.out false w5 HP.out h5);have O := hZ (HQ.out.out HP.out);have HK5 := hZ (HK4.out.trans k5);clear h5 k5 UP MU HQ HP HK4;go_wp2_with fail
   refine PS.out.mono ?_; rintro e w6 ⟨rfl, h6, k6⟩
   have H6 := hZ h6;have HK6 := hZ (HK5.out.trans k6);clear h6 k6 PS HK5;go_wp2_with fail
   go_ret;exact ⟨v, _, _, rfl, H6.out, HK6.out, O.out⟩
  have b1 := a1.out;rcases hid_or (decide (v <= 999999999)) with a2 | a2
  ·have b2 := a2.out
   go_upto_region 4 with fail
   go_wp2_with fail
   refine (MU.out _).mono ?_; rintro e w5 ⟨rfl, h5, k5⟩
   have HP : Hid ((true && (decide (1 <= v) && decide (v <= 999999999))) = false) := hZ (by rw [b1, b2]; rfl);have PS := hZ (UP.out false w5 HP.out h5);have O := hZ (HQ.out.out HP.out);have HK5 := hZ (HK4.out.trans k5);clear h5 k5 UP MU HQ HP HK4;go_wp2_with fail
   refine PS.out.mono ?_; rintro e w6 ⟨rfl, h6, k6⟩
   have H6 := hZ h6;have HK6 := hZ (HK5.out.trans k6);clear h6 k6 PS HK5;go_wp2_with fail
   go_ret;exact ⟨v, _, _, rfl, H6.out, HK6.out, O.out⟩
  have b2 := a2.out;go_upto_region 4 with fail
  go_wp2_with fail
  refine (MU.out _).mono ?_; rintro e w5 ⟨rfl, h5, k5⟩
  have HP : Hid ((true && (decide (1 <= v) && decide (v <= 999999999))) = true) := hZ (by rw [b1, b2]; rfl);have PS := hZ (UP.out true w5 HP.out h5);have O := hZ (HQ.out.out HP.out);have HK5 := hZ (HK4.out.trans k5);clear h5 k5 UP MU HQ HP HK4;go_wp2_with fail
  refine PS.out.mono ?_; rintro e w6 ⟨rfl, h6, k6⟩
  have H6 := hZ h6;have HK6 := hZ (HK5.out.trans k6);clear h6 k6 PS HK5;go_wp2_with fail
  go_ret;exact ⟨v, _, _, rfl, H6.out, HK6.out, O.out⟩
structure KQ (q r : Nat) (w w' : World) : Prop where
  os : w'.os = w.os
  tape : w'.tape = w.tape
  output : w'.output = w.output
  size : w.heap.size <= w'.heap.size
  block : ∀ j, j < w.heap.size -> j ≠ r -> j ≠ q -> w'.heap[j]? = w.heap[j]?
theorem KQ.trans {q r : Nat} {a b c : World} (h : KQ q r a b) (k : KQ q r b c) : KQ q r a c :=
  ⟨k.os.trans h.os, k.tape.trans h.tape, k.output.trans h.output, Nat.le_trans h.size k.size, fun j hj h1 h2 => (k.block j (Nat.lt_of_lt_of_le hj h.size) h1 h2).trans (h.block j hj h1 h2)⟩
theorem KQ.of_below {q r : Nat} {w w' : World} (h : Below w.heap.size w w') : KQ q r w w' := ⟨h.os, h.tape, h.output, h.size, fun j hj _ _ => h.block j hj⟩
theorem KQ.ofKp {q r : Nat} {w w' : World} (h : Kp q w w') : KQ q r w w' := ⟨h.os, h.tape, h.output, h.size, fun j hj _ h2 => h.blk hj h2⟩
theorem KQ.below {q r m : Nat} {w w' : World} (h : KQ q r w w') (hq : m <= q) (hr : m <= r) (hm : m <= w.heap.size) : Below m w w' := ⟨h.os, h.tape, h.output, h.size, fun j hj => h.block j (by omega) (by omega) (by omega)⟩
theorem KQ.put {q r : Nat} {w w' : World} (h : KQ q r w w') (i : Nat) (v : Value) : KQ q r w (w'.setCell ⟨r, i, none⟩ v) :=
  ⟨h.os, h.tape, h.output, by have := h.size; simpa using this, fun j hj h1 h2 => by
    rw [Below.heap_setCell _ _ _ _ (by show j ≠ r; exact h1)];exact h.block j hj h1 h2⟩
theorem KQ.blk {q r : Nat} {a b : World} (h : KQ q r a b) {j : Nat} (hj : j < a.heap.size) (hne : j ≠ r /\ j ≠ q) : b.heap[j]? = a.heap[j]? := h.block j hj hne.1 hne.2
structure RSt (q r : Nat) (A : Option Addr) (n cn i c b : Nat) (w : World) : Prop where
  cur : CSt q A n cn i b w
  box : ∃ y : Int, (b = 0 -> y = c) /\ w.heap[r]? = some (.cells #[.pointer (some ⟨q, 0, none⟩), .int .i64 y] 213 (0, 0))
theorem RSt.qlt {q r : Nat} {A : Option Addr} {n cn i c b : Nat} {w : World} (h : RSt q r A n cn i c b w) : q < w.heap.size := h.cur.lt
theorem RSt.lt {q r : Nat} {A : Option Addr} {n cn i c b : Nat} {w : World} (h : RSt q r A n cn i c b w) : r < w.heap.size := by
  obtain ⟨y, -, h2⟩ := h.box;exact (Array.getElem?_eq_some_iff.1 h2).1
theorem RSt.ne {q r : Nat} {A : Option Addr} {n cn i c b : Nat} {w : World} (h : RSt q r A n cn i c b w) : r ≠ q := by
  obtain ⟨y, -, h2⟩ := h.box;obtain ⟨vs, h1⟩ := h.cur.typ;exact two_types h2 h1 (by decide)
theorem RSt.p {q r : Nat} {A : Option Addr} {n cn i c b : Nat} {w : World} (h : RSt q r A n cn i c b w) : w.cell? ⟨r, 0, none⟩ = some (.pointer (some ⟨q, 0, none⟩)) := by
  obtain ⟨y, -, h2⟩ := h.box;have := cZ h2 0
  simpa using this
theorem RSt.keep {q r : Nat} {A : Option Addr} {n cn i c b : Nat} {w w' : World} (h : RSt q r A n cn i c b w) (e : ∀ k : Nat, (∀ (vs : Array Value) (T : TypeId) (fr : Nat × Nat), w.heap[k]? = some (Obj.cells vs T fr) -> T = 94 \/ T = 114 \/ T = 213) -> k < w.heap.size -> w'.heap[k]? = w.heap[k]?) : RSt q r A n cn i c b w' := by
  obtain ⟨vq, hq⟩ := h.cur.typ;refine ⟨h.cur.keep (e q (fun vs T fr h1 => ?_) h.qlt) (fun g vs fr hg => e g (fun vs' T fr' h1 => ?_) (Array.getElem?_eq_some_iff.1 hg).1), ?_⟩
  · rw [hq] at h1; simp only [Option.some.injEq, Obj.cells.injEq] at h1; exact .inr (.inl h1.2.1.symm)
  · rw [hg] at h1; simp only [Option.some.injEq, Obj.cells.injEq] at h1; exact .inl h1.2.1.symm
  · obtain ⟨y, hy, h2⟩ := h.box
    refine ⟨y, hy, (e r (fun vs T fr h1 => ?_) h.lt).trans h2⟩;rw [h2] at h1; simp only [Option.some.injEq, Obj.cells.injEq] at h1; exact .inr (.inr h1.2.1.symm)
theorem RSt.below {q r : Nat} {A : Option Addr} {n cn i c b : Nat} {w w' : World} (h : RSt q r A n cn i c b w) (hb : Below w.heap.size w w') : RSt q r A n cn i c b w' := h.keep fun k _ hk => hb.block k hk
theorem RSt.other {q r : Nat} {A : Option Addr} {n cn i c b : Nat} {w w' : World} (h : RSt q r A n cn i c b w) {g : Nat} {old : Array Value} {T : TypeId} {fr : Nat × Nat} (hg : w.heap[g]? = some (.cells old T fr)) (hT : T ≠ 94 /\ T ≠ 114 /\ T ≠ 213) (e : ∀ k, k ≠ g -> w'.heap[k]? = w.heap[k]?) : RSt q r A n cn i c b w' :=
  h.keep fun k hk _ => e k fun hkg => by
    subst hkg;rcases hk _ _ _ hg with e | e | e
    · exact hT.1 e
    · exact hT.2.1 e
    · exact hT.2.2 e
theorem RSt.turn {q r : Nat} {A : Option Addr} {n cn i c b i' b' : Nat} {w w' : World} (h : RSt q r A n cn i c b w) (h1 : CSt q A n cn i' b' w') (k : Kp q w w') (hb : b' = 0 -> b = 0) : RSt q r A n cn i' c b' w' := by
  obtain ⟨y, hy, h2⟩ := h.box;exact ⟨h1, y, fun e => hy (hb e), (k.blk h.lt h.ne).trans h2⟩
theorem RSt.more {q r : Nat} {A : Option Addr} {n cn i c b : Nat} {w : World} (h : RSt q r A n cn i c b w) (hc : c <= 500) :
    ∃ x : Int, w.cell? ⟨r, 1, none⟩ = some (.int .i64 x) /\ w.frozen? ⟨r, 1, none⟩ = false /\ (b = 0 -> x = c) /\ RSt q r A n cn i (c + 1) b (w.setCell ⟨r, 1, none⟩ (.int .i64 (wrap64 (x + 1)))) := by
  obtain ⟨y, hy, h2⟩ := h.box;have hne := h.ne;have h3 := Joins.block_setCell (i := 1) h2 (.int .i64 (wrap64 (y + 1)));refine ⟨y, by have := cZ h2 1; simpa using this, Lib.frozen_of_heap h2 1, hy, h.cur.keep (Below.heap_setCell _ _ _ _ (by show q ≠ r; omega)) (fun g vs fr hg => Below.heap_setCell _ _ _ _ (by show g ≠ r; exact two_types hg h2 (by decide))), wrap64 (y + 1), fun e => ?_, by simpa using h3⟩;rw [hy e];unfold wrap64; omega
theorem RSt.any {q r : Nat} {A : Option Addr} {n cn i c b : Nat} {w : World} (h : RSt q r A n cn i c b w) (hb : b ≠ 0) (c' : Nat) : RSt q r A n cn i c' b w := by
  obtain ⟨y, hy, h2⟩ := h.box;exact ⟨h.cur, y, fun e => absurd e hb, h2⟩
structure RCtx (W : World) (q r : Nat) (A : Option Addr) (S : Toks) (w : World) : Prop where
  cur : CdCtx W q A S w
  ler : W.heap.size <= r
theorem RCtx.on {W : World} {q r : Nat} {A : Option Addr} {S : Toks} {w w' : World} (h : RCtx W q r A S w) (hk : KQ q r w w') : RCtx W q r A S w' :=
  ⟨⟨h.cur.toks, h.cur.below.trans (hk.below h.cur.le h.ler h.cur.below.size), h.cur.le, h.cur.big, h.cur.small⟩, h.ler⟩
theorem rnext_any {W : World} {q r : Nat} {A : Option Addr} {S : Toks} {cn i c b : Nat} {w : World} (hc : RCtx W q r A S w) (h : RSt q r A S.n cn i c b w) :
    Calls Tryz.prog 153 #[.pointer (some ⟨q, 0, none⟩)] w fun e w' => ∃ y, e = .returned (tokV (kAt S b i) y (tAt S b i)) /\ Below w.heap.size w w' := next_any hc.cur h.cur
theorem rmust_any {q r : Nat} {A : Option Addr} {n cn i c b : Nat} {w : World} (h : RSt q r A n cn i c b w) (so : Bool) (code : Nat) (hco : code ≠ 0) :
    Calls Tryz.prog 106 #[.pointer (some ⟨q, 0, none⟩), .bool so, .int .i64 code] w fun e w' => e = .returned (.tuple #[]) /\ RSt q r A n cn i c (mustB b so code) w' /\ KQ q r w w' :=
  (must_any h.cur so code hco).mono fun _ _ ⟨he, h1, k1⟩ => ⟨he, h.turn h1 k1 (mustB_0 hco), .ofKp k1⟩
theorem rpass_any {W : World} {q r : Nat} {A : Option Addr} {S : Toks} {cn i c : Nat} {w : World} (hc : RCtx W q r A S w) (h : RSt q r A S.n cn i c 0 w) (hi : i < S.n) :
    Calls Tryz.prog 107 #[.pointer (some ⟨q, 0, none⟩)] w fun e w' => e = .returned (.tuple #[]) /\ RSt q r A S.n cn (i + 1) c 0 w' /\ KQ q r w w' :=
  (cpass_any h.cur (fun _ => hi) hc.cur.big).mono fun _ _ ⟨he, h1, k1⟩ => ⟨he, h.turn h1 k1 id, .ofKp k1⟩
theorem small_k (S : Toks) (i : Nat) : (decide (i < S.n) && smallK (S.K i) (S.T i)) = S.small i := by unfold smallK Toks.small; rw [Bool.and_assoc]
theorem great_k (S : Toks) (i : Nat) : (decide (i < S.n) && greatK (S.K i) (S.T i)) = S.great i := by unfold greatK Toks.great; rw [Bool.and_assoc]
def COut (w : World) (cu r : Nat) (A : Option Addr) (n cn : Nat) (R : Res Ty) (e : Ending) (w' : World) : Prop :=
  ∃ (l : List Value) (t : Ty) (i c b : Nat), e = .returned (.agg l.toArray) /\ TyAt (strike (· < w.heap.size) w') l t /\ KQ cu r w w' /\ RSt cu r A n cn i c b w' /\ c <= 500 /\ badR b i (.ok t i c) = R
theorem COut.seal {w wk : World} {cu r b m : Nat} {A : Option Addr} {n cn i c bd : Nat} {R : Res Ty} {t : Ty} {old : Array Value} {v0 v1 v2 v3 v4 v5 v6 : Value}
    (hb : w.heap.size <= b) (hres : wk.heap[b]? = some (.cells old 55 (0, 0))) (hK : KQ cu r w wk) (hT : TyAt (strike (· < m) wk) [v0, v1, v2, v3, v4, v5, v6] t) (hbm : b < m) (hr : r < w.heap.size) (hC : RSt cu r A n cn i c bd wk) (h5 : c <= 500) (hR : badR bd i (.ok t i c) = R) :
    (∀ i v, ([v0, v1, v2, v3, v4, v5, v6] : List Value)[i]? = some v -> (wk.setRow b #[v0, v1, v2, v3, v4, v5, v6]).cell? ⟨b, i, none⟩ = some v) /\
    COut w cu r A n cn R (.returned (.agg #[v0, v1, v2, v3, v4, v5, v6])) (wk.setRow b #[v0, v1, v2, v3, v4, v5, v6]) := by
  refine ⟨cell7 (setRow_heap wk b old _ _ _ hres), [v0, v1, v2, v3, v4, v5, v6], t, i, c, bd, rfl, ?_, ?_, ?_, h5, hR⟩
  · exact hT.move (by simp) fun b' hlt hS => ⟨by omega, setRow_other wk b b' _ (by omega)⟩
  · exact ⟨hK.os, hK.tape, hK.output, by have := hK.size; simpa using this, fun j hj h1 h2 => (setRow_other wk b j _ (by omega)).trans (hK.block j hj h1 h2)⟩
  · exact hC.other hres (by decide) (fun k hk => setRow_other wk b k _ (by omega))
def Bx (b : Nat) (w : World) : Prop := w.heap[b]? = some (.cells #[.int .i64 0, .string ⟨#[]⟩, .int .i64 0, .string ⟨#[]⟩, .string ⟨#[]⟩, .slice none 0 0, .slice none 0 0] 55 (0, 0))
theorem nameOut_res {α : Type} {S : Toks} {ok : Bool} {i b : Nat} {s : ByteArray} {i' b' : Nat} (h : NameOut S ok i b s i' b') (x : ByteArray -> Nat -> Res α) :
    badR b' i' (x s i') = badR b i (if ok = false then .err 2 i else x (S.T i) (i + 1)) := by
  rcases h with ⟨rfl, rfl, rfl, rfl, rfl⟩ | ⟨rfl, rfl, rfl, rfl⟩ | ⟨hb, rfl, rfl⟩
  · rfl
  · rfl
  · rw [badR_ne _ _ hb, badR_ne _ _ hb]
theorem numOut_res {α : Type} {S : Toks} {i b : Nat} {v : Int} {i' b' : Nat} (h : NumOut S i b v i' b') (x : Int -> Nat -> Res α) :
    badR b' i' (x v i') = badR b i (if S.major i = false then .err 2 i else x (digs (S.T i).data.toList 0) (i + 1)) := by
  rcases h with ⟨rfl, h1, rfl, rfl, rfl⟩ | ⟨rfl, h1, rfl, rfl⟩ | ⟨hb, rfl, rfl⟩
  · rw [h1]; rfl
  · rw [h1]; rfl
  · rw [badR_ne _ _ hb, badR_ne _ _ hb]
def readR (S : Toks) (f d n i c : Nat) : Res Ty := if S.begins i = true /\ 20 < n then .err 3 i else pT S f d i c
theorem readR_one {S : Toks} {f d i c : Nat} : readR S f d 1 i c = pT S f d i c := if_neg (fun x => by omega)
theorem great_base {l : List UInt8} (h : greatB l = true) : baseT l = 0 := by
  unfold baseT
  split
  · rename_i e; subst e; exact absurd h (by decide)
  split
  · rename_i e; subst e; exact absurd h (by decide)
  split
  · rename_i e; subst e; exact absurd h (by decide)
  split
  · rename_i e; subst e; exact absurd h (by decide)
  rfl
theorem baseT_range (l : List UInt8) : baseT l = 0 \/ baseT l = 1 \/ baseT l = 2 \/ baseT l = 3 \/ baseT l = 4 := by
  unfold baseT
  repeat' split
  all_goals simp
def kindR (S : Toks) (f d i c : Nat) (k : Int) : Res Ty :=
  if k = 4 then listR S f d i c
  else if k = 5 then partsR S 5 [125] f d (i + 1) (c + 1)
  else if k = 6 then partsR S 6 [93] f d (i + 1) (c + 1)
  else if k = 7 then fnR S f d (i + 1) (c + 1)
  else if k = 8 then (if S.small i = true then pLocal S (S.T i) (i + 1) (c + 1) else if S.great i = false then .err 2 i else .ok (localT ⟨#[]⟩ (S.T i)) (i + 1) (c + 1))
  else if k = 9 then pOpen S (i + 1) (c + 1)
  else .ok (leafK k) (i + 1) (c + 1)
theorem begins_iff (S : Toks) {i : Nat} (hi : i < S.n) : S.begins i = decide (begunK (S.K i) (S.T i) ≠ 0) := by
  have hs : S.small i = smallK (S.K i) (S.T i) := by rw [<- small_k]; simp [hi]
  have hg : S.great i = greatK (S.K i) (S.T i) := by rw [<- great_k]; simp [hi]
  unfold Toks.begins begunK
  rw [hs, hg];by_cases h : smallK (S.K i) (S.T i) = true \/ greatK (S.K i) (S.T i) = true
  · rw [if_pos h]
    rcases h with h | h <;> simp [h, hi]
  · rw [if_neg h]
    have h1 : smallK (S.K i) (S.T i) = false := by cases e : smallK (S.K i) (S.T i) with | true => exact absurd (.inl e) h | false => rfl
    have h2 : greatK (S.K i) (S.T i) = false := by cases e : greatK (S.K i) (S.T i) with | true => exact absurd (.inr e) h | false => rfl
    rw [h1, h2];by_cases k2 : S.K i = 2
    · rw [if_pos k2]
      rcases baseT_range (S.T i).data.toList with e | e | e | e | e <;> simp [hi, k2, e]
    · rw [if_neg k2]
      by_cases k4 : S.K i = 4
      · rw [if_pos k4]
        unfold signK
        repeat' split
        all_goals simp_all
      · rw [if_neg k4]
        simp [k2, k4]
theorem rest_kind (S : Toks) {f d i c : Nat} (hi : i < S.n) (hb : S.begins i = true) : restR S f d i c = kindR S f d i c (begunK (S.K i) (S.T i)) := by
  have hs : S.small i = smallK (S.K i) (S.T i) := by rw [<- small_k]; simp [hi]
  have hg : S.great i = greatK (S.K i) (S.T i) := by rw [<- great_k]; simp [hi]
  rw [begins_iff S hi] at hb;unfold restR
  by_cases h1 : smallK (S.K i) (S.T i) = true
  · have e : begunK (S.K i) (S.T i) = 8 := if_pos (.inl h1)
    have k1 : S.K i = 1 := by unfold smallK at h1; simp at h1; exact h1.1
    rw [e, if_pos k1];unfold kindR
    rw [hs, h1];rfl
  by_cases h2 : greatK (S.K i) (S.T i) = true
  · have e : begunK (S.K i) (S.T i) = 8 := if_pos (.inr h2)
    have k2 : S.K i = 2 /\ greatB (S.T i).data.toList = true := by unfold greatK at h2; simpa using h2
    have hz := great_base k2.2;rw [e, if_neg (by rw [k2.1]; decide), if_pos k2.1, hz];unfold kindR
    rw [hs, hg, h2, show smallK (S.K i) (S.T i) = false by simpa using h1];rfl
  have e : begunK (S.K i) (S.T i) = if S.K i = 2 then baseT (S.T i).data.toList else if S.K i = 4 then signK (S.T i).data.toList else 0 := if_neg (fun x => x.elim h1 h2)
  rw [e] at hb ⊢;by_cases k2 : S.K i = 2
  · rw [if_pos k2] at hb ⊢
    rw [if_neg (by rw [k2]; decide), if_pos k2];rcases baseT_range (S.T i).data.toList with q | q | q | q | q
    · rw [q] at hb; simp at hb
    all_goals rw [q]; rfl
  · rw [if_neg k2] at hb ⊢
    by_cases k4 : S.K i = 4
    · rw [if_pos k4] at hb ⊢
      rw [if_neg (by rw [k4]; decide), if_neg k2];by_cases a1 : (S.T i).data.toList = [123]
      · rw [if_pos a1, a1]; rfl
      rw [if_neg a1];by_cases a2 : (S.T i).data.toList = [91]
      · rw [if_pos a2, a2]; rfl
      rw [if_neg a2];by_cases a3 : (S.T i).data.toList = [60]
      · rw [if_pos a3, a3]; rfl
      rw [if_neg a3];by_cases a4 : (S.T i).data.toList = [40]
      · rw [a4]; rfl
      · have : signK (S.T i).data.toList = 0 := by unfold signK; rw [if_neg a1, if_neg a2, if_neg a4, if_neg a3]
        rw [this] at hb; simp at hb
    · rw [if_neg k4] at hb; simp at hb
end Go.Proofs.YteecgiebimdbhaaGreatDoor
namespace Go.Proofs.YteecgiebimdbhaaGreatDoor
open Go Go.Sort Go.RowKit
def feeds (ops : Array Oper) : Bool := (List.range (ops.size - 1)).all fun i => (List.range ops.size).any fun j => decide (i < j) && ((ops[j]?).map fun o => o.after.any fun e => Region.binds .any e && (e.on == i)).getD false
def backward (ops : Array Oper) : Bool := (List.range ops.size).all fun i => ((ops[i]?).map fun o => o.after.all fun e => !Region.binds .any e || decide (e.on < i)).getD true
def Closed (ops : Array Oper) (listed : Array Bool) : Prop := ∀ i o, ops[i]? = some o -> listed.getD i false = true -> ∀ e ∈ o.after, Region.binds .any e = true -> listed.getD e.on false = true
section
variable {P : Program} {ops ops' : Array Oper} {C : World -> Prop}
theorem Closed.step {listed : Array Bool} {i : Nat} (h : Closed ops listed) (hi : i ∈ Region.ready .any ops listed) : Closed ops (listed.setIfInBounds i true) := by
  obtain ⟨-, o, ho, hall⟩ := mem_ready.1 hi;intro j oj hj hl e he hb;by_cases hij : i = j
  · subst hij
    rw [ho] at hj; obtain rfl := Option.some.inj hj
    exact getD_set_true (hall e he hb)
  · rw [getD_set_ne false hij] at hl
    exact getD_set_true (h j oj hj hl e he hb)
theorem inBounds {listed : Array Bool} {i : Nat} (h : i < listed.size) (b : Bool) : listed.getD i b = listed.getD i false := by
  simp [h]
theorem ready_some {listed : Array Bool} (hsz : listed.size = ops.size) (hb : backward ops = true) : ∀ (m i : Nat), i < m -> i < ops.size -> listed.getD i false = false -> ∃ j, j ∈ Region.ready .any ops listed
  | 0, i, hm, _, _ => by omega
  | m + 1, i, hm, hi, hu => by
    obtain ⟨o, ho⟩ : ∃ o, ops[i]? = some o := ⟨_, Array.getElem?_eq_getElem hi⟩;by_cases hall : ∀ e ∈ o.after, Region.binds .any e = true -> listed.getD e.on false = true
    · exact ⟨i, mem_ready.2 ⟨by rw [inBounds (by omega)]; exact hu, o, ho, hall⟩⟩
    · simp only [Classical.not_forall] at hall
      obtain ⟨e, he, hbe, hne⟩ := hall;have h1 := (List.all_eq_true.1 hb) i (List.mem_range.2 hi);rw [ho] at h1;simp only [Option.map_some, Option.getD_some] at h1;have h2 := (Array.all_eq_true_iff_forall_mem.1 h1) e he;rw [hbe] at h2;simp only [Bool.not_true, Bool.false_or, decide_eq_true_eq] at h2;exact ready_some hsz hb m e.on (by omega) (by omega) (by simpa using hne)
theorem last_ready {listed : Array Bool} {s : Nat} (hs : s + 1 = ops.size) (hf : feeds ops = true) (hc : Closed ops listed) (hr : s ∈ Region.ready .any ops listed) : ∀ (m i : Nat), s - i < m -> i < s -> listed.getD i false = true
  | 0, i, hm, _ => by omega
  | m + 1, i, hm, hi => by
    have h1 := (List.all_eq_true.1 hf) i (List.mem_range.2 (by omega));obtain ⟨j, hj, h2⟩ := List.any_eq_true.1 h1;simp only [Bool.and_eq_true, decide_eq_true_eq] at h2;have hjs := List.mem_range.1 hj;obtain ⟨o, ho⟩ : ∃ o, ops[j]? = some o := ⟨_, Array.getElem?_eq_getElem hjs⟩;obtain ⟨hij, h3⟩ := h2;rw [ho] at h3;simp only [Option.map_some, Option.getD_some] at h3;obtain ⟨e, he, h4⟩ := Array.any_eq_true'.1 h3;simp only [Bool.and_eq_true, beq_iff_eq] at h4;obtain ⟨hb, rfl⟩ := h4;by_cases hjs' : j = s
    · subst hjs'
      obtain ⟨-, o', ho', hall⟩ := mem_ready.1 hr;rw [ho] at ho'; obtain rfl := Option.some.inj ho'
      exact hall e he hb
    · exact hc j o ho (last_ready hs hf hc hr m j (by omega) (by omega)) e he hb
theorem put_put (a : Act) (d : Option Tmp) (u v : Value) : (a.put d u).put d v = a.put d v := by
  cases d with
  | none => rfl
  | some d => simp [Act.put]
def LastAt (P : Program) (o : Oper) (Q : Exit -> Act -> World -> Prop) (a : Act) (w : World) : Prop :=
  ∃ f args, (execOp a.eval o).run P w = .ok (.enter f args) w /\ Calls P f args w (fun e w'' => ∃ v, e = .returned v /\ Q .normal (a.put o.dst v) w'')
theorem wpAny_of_last {s : Nat} {o o' : Oper} (hsz : ops'.size = ops.size) (hs : s + 1 = ops.size) (heq : ∀ i, i ≠ s -> ops'[i]? = ops[i]?) (ho : ops[s]? = some o) (ho' : ops'[s]? = some o')
    (haf : o'.after = o.after) (hdst : o'.dst = o.dst) (hg : o.guard = none) (hg' : o'.guard = none) (hlook : ∀ d, o.dst = some d -> d ∉ o.looksAt ops) (hsel : ∀ cs b, o.op ≠ .select cs b)
    (hf : feeds ops = true) (hb : backward ops = true) {Q : Exit -> Act -> World -> Prop} :
    ∀ (fuel : Nat) (listed : Array Bool) (a : Act) (w : World), listed.size = ops.size -> Closed ops listed -> listed.getD s false = false -> C w ->
      wpAnyQ P .any ops' C (fun a' => ∀ w', C w' -> LastAt P o Q a' w') fuel listed a -> wpAny P .any ops Q fuel listed a w := by
  have hy : ∀ t, yielded ops' t = yielded ops t := by
    intro t; funext j
    unfold yielded
    by_cases hj : j = s
    · subst hj; rw [ho, ho']; simp [hdst]
    · rw [heq j hj]
  have hready : ∀ listed, Region.ready .any ops' listed = Region.ready .any ops listed := by
    intro listed;unfold Region.ready
    rw [hsz];congr 1; funext i
    by_cases hi : i = s
    · subst hi; rw [ho, ho']; simp [haf]
    · rw [heq i hi]
  intro fuel;induction fuel with
  | zero =>
    intro listed a w hl hc hu hw h;obtain ⟨j, hj⟩ := ready_some hl hb (s + 1) s (by omega) (by omega) hu;rw [<- hready, h.1] at hj; cases hj
  | succ fuel ih =>
    intro listed a w hl hc hu hw h;obtain ⟨j, hj⟩ := ready_some hl hb (s + 1) s (by omega) (by omega) hu;refine ⟨fun h0 => absurd hj (by rw [h0]; exact List.not_mem_nil), fun i hi => ?_⟩;have hq := h.2 i (by rw [hready]; exact hi);by_cases his : i = s
    · subst his
      have hall := last_ready hs hf hc hi
      have hnone : Region.ready .any ops (listed.setIfInBounds i true) = [] := by
        rw [List.eq_nil_iff_forall_not_mem];intro k hk;obtain ⟨h1, ok, hok, -⟩ := mem_ready.1 hk;have hks := (Array.getElem?_eq_some_iff.1 hok).1;by_cases hki : k = i
        · subst hki
          simp [hl, hks] at h1
        · rw [getD_set_ne true (Ne.symm hki), inBounds (by omega), hall (i + 1) k (by omega) (by omega)] at h1
          cases h1
      unfold qOp at hq
      simp only [ho', Region.wanted, hg', if_true] at hq;obtain ⟨u, -, hn⟩ := hq
      have hQ : ∀ w', C w' -> LastAt P o Q (a.put o'.dst u) w' := by
        cases fuel with
        | zero => exact hn.2
        | succ fuel => exact hn.1 (by rw [hready]; exact hnone)
      obtain ⟨f, args, hrun, hcall⟩ := hQ w hw;rw [hdst, execOp_put (ops := ops) o hsel a o.dst u hlook] at hrun;unfold wpOp
      simp only [ho, Region.wanted, hg, if_true];refine .inl ?_;unfold Oper.wp
      rw [hrun];simp only [Oper.upon];refine hcall.mono ?_;rintro e w'' ⟨v, rfl, hv⟩;rw [hdst, put_put] at hv;cases fuel with
      | zero => exact ⟨hnone, hv⟩
      | succ fuel => exact ⟨fun _ => hv, fun k hk => by rw [hnone] at hk; cases hk⟩
    · have h1 := wpOp_of_qOp (K' := wpAny P .any ops Q fuel (listed.setIfInBounds i true)) (Q' := Q) hw (fun a' w' hw' hh => ih _ a' w' (by simp [hl]) (hc.step hi) (by rw [getD_set_ne false his]; exact hu) hw' hh) hq
      unfold wpOp at h1 ⊢
      rw [heq i his, hy] at h1;exact h1
def tameLast (l : List Oper) (o : Oper) : List Oper := l.dropLast ++ [{ o with op := .move (.const undef) }]
theorem wp_region_last {id : Nat} {Q : Exit -> Act -> World -> Prop} {a : Act} {w : World} {l : List Oper} {o : Oper} (hm : P.follows .mixedOrders = true) (hlast : l.getLast? = some o)
    (hg : o.guard = none) (hlook : (match o.dst with | some d => !(o.looksAt l.toArray).contains d | none => true) = true) (hsel : ∀ cs b, o.op ≠ .select cs b)
    (hB : Region.lexB .any (tameLast l o).toArray = true) (hf : feeds l.toArray = true) (hb : backward l.toArray = true) (hC : C { w with drawn := w.drawn + 1 })
    (h : wpQuiet P (tameLast l o).toArray C (fun a' => ∀ w', C w' -> LastAt P o Q a' w') (tameLast l o) a) : (Code.region id l.toArray true).wp P Q a w := by
  obtain ⟨l0, hl0⟩ : ∃ l0, l = l0 ++ [o] := by
    rcases List.eq_nil_or_concat l with rfl | ⟨l0, x, rfl⟩
    · simp at hlast
    · simp at hlast; subst hlast; exact ⟨l0, by simp⟩
  have ht : tameLast l o = l0 ++ [{ o with op := .move (.const undef) }] := by unfold tameLast; rw [hl0]; simp
  rw [ht] at h hB;simp only [Region.lexB, Bool.and_eq_true] at hB;have hq := wpAnyQ_lex (C := C) (md := .any) (P := P) hB.1 _ 0 (Array.replicate (l0 ++ [{ o with op := .move (.const undef) }]).toArray.size false) a (by simp) (by simpa using hB.2) h;refine wp_region_any hm (wpAny_of_last (ops' := (l0 ++ [{ o with op := .move (.const undef) }]).toArray) (s := l0.length) (o := o) (o' := { o with op := .move (.const undef) }) (C := C) ?_ ?_ ?_ ?_ ?_ rfl rfl hg hg ?_ hsel hf hb _ _ _ _ ?_ ?_ ?_ hC ?_)
  · rw [hl0]; simp
  · rw [hl0]; simp
  · intro i hi
    rw [hl0];simp only [List.getElem?_toArray];rcases Nat.lt_or_ge i l0.length with h1 | h1
    · rw [List.getElem?_append_left h1, List.getElem?_append_left h1]
    · rw [List.getElem?_eq_none (by simp; omega), List.getElem?_eq_none (by simp; omega)]
  · rw [hl0]; simp
  · simp
  · intro d hd
    rw [hd] at hlook;simpa using hlook
  · simp
  · intro i oi _ hl
    exfalso
    rcases Nat.lt_or_ge i l.toArray.size with hi | hi
    · simp at hi; simp [hi] at hl
    · simp at hi; simp [Nat.not_lt.2 hi] at hl
  · have : l0.length < l.length := by rw [hl0]; simp
    simp [this]
  · have e : l.toArray.size = (l0 ++ [{ o with op := .move (.const undef) }]).length := by rw [hl0]; simp
    have e2 : (l0 ++ [{ o with op := Op.move (.const undef) }]).toArray.size = l.toArray.size := by rw [e]; simp
    rw [e2] at hq;rw [e, <- e];rw [<- e] at hq;exact hq
end
end Go.Proofs.YteecgiebimdbhaaGreatDoor
