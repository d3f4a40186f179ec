/-
  Several texts in one.
-/
import Derived.Test.YtddlmigofilejaaGreatDoorK04
import Derived.Lib.AtoiTie
import Derived.Lib.AtoiAllCases
import Derived.Lib.ItoaNum
set_option maxRecDepth 100000
set_option maxHeartbeats 4000000
namespace Go.Proofs.YtddlmigofilejaaGreatDoor
open Go.RowKit
open Go.Sort
open M
namespace M
theorem digs_snoc (c : UInt8) : ∀ (l : List UInt8) (a : Int), digs (l ++ [c]) a = 10 * digs l a + ((c.toNat : Int) - 48)
 | [], _ => rfl
 | _ :: r, _ => digs_snoc c r _
theorem take_snoc (l : List UInt8) (k : Nat) (h : k < l.length) : l.take (k + 1) = l.take k ++ [l.getD k 0] := by
 rw [List.take_add_one, List.getElem?_eq_getElem h]
 simp [List.getD_eq_getElem?_getD, List.getElem?_eq_getElem h]
inductive Maj (l : List UInt8) (k : Nat) : Int -> Bool -> Prop where
 | yes (hl : 1 <= l.length /\ l.length <= 9) (ha : ∀ j, j < k -> digC (bt l j) = true) (h0 : 0 < k -> 48 < bt l 0) (hb : 0 <= digs (l.take k) 0 /\ digs (l.take k) 0 < (10 ^ k : Nat)) : Maj l k (digs (l.take k) 0) true
 | no (n : Int) (h : majorOk l = false) : Maj l k n false
theorem Maj.start {l : List UInt8} (hl : 1 <= l.length /\ l.length <= 9) : Maj l 0 0 true := by
 have h := Maj.yes (l := l) (k := 0) hl (fun j hj => by omega) (fun hj => by omega) (by rw [List.take_zero]; show (0 : Int) <= 0 /\ (0 : Int) < ((10 ^ 0 : Nat) : Int); decide)
 rw [List.take_zero] at h
 exact h
theorem Maj.step_yes {l : List UInt8} {k : Nat} (hl : 1 <= l.length /\ l.length <= 9) (ha : ∀ j, j < k -> digC (bt l j) = true) (h0 : 0 < k -> 48 < bt l 0) (hb : 0 <= digs (l.take k) 0 /\ digs (l.take k) 0 < (10 ^ k : Nat))
  (hk : k < l.length) {x : Int} (hx : x = bt l k) (h1 : 48 <= x) (h2 : x <= 57) (h3 : 0 < k \/ 48 < x) {n : Int} (hn : n = 10 * digs (l.take k) 0 + x - 48) : Maj l (k + 1) n true := by
 subst hx
 have e : digs (l.take (k + 1)) 0 = n := by
  rw [take_snoc l k hk, digs_snoc, hn];unfold bt
  omega
 rw [<- e]
 refine .yes hl (fun j hj => ?_) (fun _ => ?_) ?_
 ·rcases Nat.lt_or_ge j k with d | d
  ·exact ha j d
  ·rw [show j = k by omega]; unfold digC; simp; omega
 ·rcases h3 with h3 | h3
  ·exact h0 h3
  ·rcases Nat.eq_zero_or_pos k with z | z
   ·rw [z] at h3; exact h3
   ·exact h0 z
 ·rw [e, hn, Nat.pow_succ]
  obtain ⟨b1, b2⟩ := hb;generalize digs (l.take k) 0 = m at b1 b2
  generalize (10 ^ k : Nat) = p at b2
  constructor
  ·omega
  ·push_cast; omega
theorem majorOk_iff (l : List UInt8) : majorOk l = true ↔ 1 <= l.length /\ l.length <= 9 /\ (∀ j, j < l.length -> digC (bt l j) = true) /\ 48 < bt l 0 := by
 unfold majorOk
 simp only [Bool.and_eq_true, decide_eq_true_eq]
 rw [all_iff]
 exact ⟨fun h => ⟨h.1.1.1, h.1.1.2, h.1.2, h.2⟩, fun h => ⟨⟨⟨h.1, h.2.1⟩, h.2.2.1⟩, h.2.2.2⟩⟩
theorem major_len (l : List UInt8) (h : ¬ (1 <= l.length /\ l.length <= 9)) : majorOk l = false := by
 rw [Bool.eq_false_iff]; intro e; exact h ⟨((majorOk_iff l).1 e).1, ((majorOk_iff l).1 e).2.1⟩
theorem major_byte {l : List UInt8} {k : Nat} (hk : k < l.length) {x : Int} (hx : x = bt l k) (h : x < 48 \/ 57 < x \/ (k = 0 /\ x <= 48)) : majorOk l = false := by
 rw [Bool.eq_false_iff]; intro e
 obtain ⟨_, _, a, z⟩ := (majorOk_iff l).1 e
 have := a k hk
 unfold digC at this
 simp at this
 rcases h with h | h | ⟨rfl, h⟩ <;> omega
theorem Maj.all {l : List UInt8} {k : Nat} (hl : 1 <= l.length /\ l.length <= 9) (ha : ∀ j, j < k -> digC (bt l j) = true) (h0 : 0 < k -> 48 < bt l 0) (hk : l.length <= k) : majorOk l = true :=
 (majorOk_iff l).2 ⟨hl.1, hl.2, fun j hj => ha j (by omega), h0 (by omega)⟩
end M
def mjV (b : Nat) (q : Bool) (l : List UInt8) : Int := if b = 0 /\ q = true then digs l 0 else 0
theorem mjV_bad {b : Nat} (q : Bool) (l : List UInt8) (h : b ≠ 0) : mjV b q l = 0 := if_neg (fun x => h x.1)
theorem major_three {W : World} {r : Nat} {S : Toks} {cn i c g o : Nat} {w : World} (hc : RdCtx W r (some ⟨g, o, none⟩) S w) (h : Rd r (some ⟨g, o, none⟩) S.n cn i c 0 w) (hlt : i < S.n) (hk : Hid ((S.K i == 3) = true)) (hz : (S.T i).size <= 9223372036854775807)
  (k0 : w.cell? ⟨g, o + i * 3, none⟩ = some (.int .i64 (S.K i))) (k2 : w.cell? ⟨g, o + i * 3 + 2, none⟩ = some (.string (S.T i))) :
  Calls Tryz.prog 134 #[.pointer (some ⟨r, 0, none⟩)] w fun e w' => e = .returned (.int .i64 (mjV 0 (S.major i) (S.T i).data.toList)) /\ Rd r (some ⟨g, o, none⟩) S.n cn (psI 0 (S.major i) i) c (psB 0 (S.major i)) w' /\ Kp r w w' := by
 have hbig := hc.big
 have c0 := h.c0
 have c1 := h.c1
 have c3 := h.c3
 have HR := zH h
 simp at c3
 have hk1 : (S.K i != 3) = false := by simp only [bne, hk.out]; rfl
 have MQ : Hid (S.major i = majorOk (S.T i).data.toList) := zH (by unfold Toks.major; rw [hk.out, decide_eq_true hlt]; rfl)
 rw [MQ.out]
 have ESZ : Hid ((S.T i).data.toList.length = (S.T i).size) := zH (by rw [Array.length_toList]; rfl)
 clear hc h hk MQ
 generalize hT : S.T i = T at k2 hz ESZ ⊢
 obtain ⟨l, hL⟩ : ∃ l, l = T.data.toList := ⟨_, rfl⟩
 have BT : Hid (∀ k (hk : k < T.size), (T[k].toNat : Int) = bt l k) := zH (fun k hk => by rw [hL]; exact bt_eq T k hk)
 rw [<- hL]
 rw [<- hL] at ESZ
 have NO : Hid (majorOk l = false -> mjV 0 (majorOk l) l = 0 /\ psI 0 (majorOk l) i = i /\ psB 0 (majorOk l) = 2) := zH (fun e => by rw [e]; exact ⟨rfl, rfl, rfl⟩)
 have YES : Hid (majorOk l = true -> mjV 0 (majorOk l) l = digs l 0 /\ psI 0 (majorOk l) i = i + 1 /\ psB 0 (majorOk l) = 0) := zH (fun e => by rw [e]; exact ⟨rfl, rfl, rfl⟩)
 clear hT hL
 by_cases hl : 1 <= T.size /\ T.size <= 9
 rotate_left
 ·have R := zH (NO.out (major_len _ (by rw [ESZ.out]; exact hl)))
  rw [R.out.1, R.out.2.1, R.out.2.2];clear R NO YES ESZ BT;by_cases h0 : T.size = 0
  ·have h1 : (T.size : Int) < 1 := by omega
   clear hl;as_aux_lemma =>
   go_enter Tryz.func134, Tryz.ntmps134
   go_wp2_with fail
   go_quiet (fail)
   generalize nq = n0
   go_wp2_with fail
   go_quiet (fail)
   go_wp2_with fail
   obtain ⟨w1, hw1⟩ : ∃ w1, w1 = w.drewN (n0 + nq) := ⟨_, rfl⟩;rw [<- hw1];have hb1 : Below w.heap.size w w1 := by rw [hw1]; exact below_drewN (Below.refl _ _) _
   have HB1 := zH hb1;clear hb1 hw1;go_loop [4, 5, 6] (fun nv qv iv => nv = .int .i64 0 /\ qv = .bool false /\ iv = .int .i64 0) (fun _ _ iv => (intOf iv).toNat)
   case atStart => exact ⟨rfl, by first | rfl | rw [decide_eq_false (by omega)], rfl⟩
   case round =>
    obtain ⟨rfl, rfl, rfl⟩ := hrel;go_wp2_with fail
    have hb1 := HB1.out;refine (wrong_any (HR.out.on hb1)).mono ?_; rintro e w2 ⟨rfl, h2, k2⟩
    go_wp2_with fail
    go_ret;exact ⟨rfl, h2, (Kp.of_below hb1).trans k2⟩
  ·have h1 : ¬ (T.size : Int) < 1 := by omega
   have h2 : 1 <= (T.size : Int) := by omega
   have h3 : 9 < (T.size : Int) := by omega
   have h4 : ¬ (T.size : Int) <= 9 := by omega
   clear hl;as_aux_lemma =>
   go_enter Tryz.func134, Tryz.ntmps134
   go_wp2_with fail
   go_quiet (fail)
   generalize nq = n0
   go_wp2_with fail
   go_quiet (fail)
   go_wp2_with fail
   obtain ⟨w1, hw1⟩ : ∃ w1, w1 = w.drewN (n0 + nq) := ⟨_, rfl⟩;rw [<- hw1];have hb1 : Below w.heap.size w w1 := by rw [hw1]; exact below_drewN (Below.refl _ _) _
   have HB1 := zH hb1;clear hb1 hw1;go_loop [4, 5, 6] (fun nv qv iv => nv = .int .i64 0 /\ qv = .bool false /\ iv = .int .i64 0) (fun _ _ iv => (intOf iv).toNat)
   case atStart => exact ⟨rfl, by first | rfl | rw [decide_eq_false (by omega)], rfl⟩
   case round =>
    obtain ⟨rfl, rfl, rfl⟩ := hrel;go_wp2_with fail
    have hb1 := HB1.out;refine (wrong_any (HR.out.on hb1)).mono ?_; rintro e w2 ⟨rfl, h2, k2⟩
    go_wp2_with fail
    go_ret;exact ⟨rfl, h2, (Kp.of_below hb1).trans k2⟩
 ·obtain ⟨hl1, hl2⟩ := hl
  have h1 : ¬ (T.size : Int) < 1 := by omega
  have h2 : 1 <= (T.size : Int) := by omega
  have h3 : ¬ 9 < (T.size : Int) := by omega
  have h4 : (T.size : Int) <= 9 := by omega
  have HLL : Hid (1 <= l.length /\ l.length <= 9) := zH (by rw [ESZ.out]; exact ⟨hl1, hl2⟩);go_enter Tryz.func134, Tryz.ntmps134
  go_wp2_with fail
  go_quiet (fail)
  generalize nq = n0
  go_wp2_with fail
  go_quiet (fail)
  go_wp2_with fail
  obtain ⟨w1, hw1⟩ : ∃ w1, w1 = w.drewN (n0 + nq) := ⟨_, rfl⟩;rw [<- hw1];have hb1 : Below w.heap.size w w1 := by rw [hw1]; exact below_drewN (Below.refl _ _) _
  have H1 := HR.out.on hb1;have K1 := zH (Kp.of_below (r := r) hb1);have d1 := H1.c1;have f1 := H1.f 1;have HR1 := zH H1;clear H1 hb1 hw1 c0 c1 c3 k0 k2 HR;go_loop [4, 5, 6] (fun nv qv iv => ∃ (k : Nat) (m : Int) (q : Bool), k <= T.size /\ iv = .int .i64 k /\ nv = .int .i64 m /\ qv = .bool q /\ Hid (Maj l k m q)) (fun _ _ iv => T.size - (intOf iv).toNat)
  case atStart => exact ⟨0, 0, true, by omega, rfl, rfl, rfl, zH (.start HLL.out)⟩
  case round =>
   obtain ⟨k, m, q, hk, rfl, rfl, rfl, HM⟩ := hrel;cases HM.out with
   | no _ hno =>
    have HN := zH hno;clear hno HM;by_cases hlt1 : k < T.size
    all_goals
     go_wp2_with fail
     refine (wrong_any HR1.out).mono ?_; rintro e w2 ⟨rfl, h2, k2⟩
     go_wp2_with fail
     go_ret;have R := NO.out HN.out;exact ⟨by rw [R.1]; rfl, by rw [R.2.1, R.2.2]; exact h2, K1.out.trans k2⟩
   | yes _ ha h0 hbd =>
    have HA := zH ha;have H0 := zH h0;have HB := zH hbd;clear ha h0 hbd HM;by_cases hlt1 : k < T.size
    ·have BK := zH (BT.out k hlt1)
     have HP : (10 ^ k : Nat) <= 100000000 := Nat.le_trans (Nat.pow_le_pow_right (by omega) (show k <= 8 by omega)) (by decide);have m0 : 0 <= digs (l.take k) 0 := HB.out.1;have m1 : digs (l.take k) 0 < 100000000 := by have := HB.out.2; omega
     clear HP;obtain ⟨m, hm⟩ : ∃ m, m = digs (l.take k) 0 := ⟨_, rfl⟩;rw [<- hm] at m0 m1 ⊢;have HMM := zH hm;clear hm;by_cases x1 : (T[k].toNat : Int) < 48
     ·have x2 : ¬ 48 <= (T[k].toNat : Int) := by omega
      go_wp2_with fail
      go_round
      case rel =>
       refine ⟨k + 1, _, _, by omega, (by first | rfl | go_num), rfl, rfl, zH ?_⟩;exact .no _ (major_byte (by rw [ESZ.out]; exact hlt1) BK.out (by omega))
      case measure => simp [intOf] <;> omega
     by_cases x3 : 57 < (T[k].toNat : Int)
     ·have x2 : 48 <= (T[k].toNat : Int) := by omega
      have x4 : ¬ (T[k].toNat : Int) <= 57 := by omega
      go_wp2_with fail
      go_round
      case rel =>
       refine ⟨k + 1, _, _, by omega, (by first | rfl | go_num), rfl, rfl, zH ?_⟩;exact .no _ (major_byte (by rw [ESZ.out]; exact hlt1) BK.out (by omega))
      case measure => simp [intOf] <;> omega
     have y1 : 48 <= (T[k].toNat : Int) := by omega
     have y2 : (T[k].toNat : Int) <= 57 := by omega
     by_cases x5 : 48 < (T[k].toNat : Int)
     ·by_cases hk0 : k = 0
      ·subst hk0
       go_wp2_with fail
       go_round
       case rel =>
        refine ⟨0 + 1, _, _, by omega, (by first | rfl | go_num), rfl, rfl, zH ?_⟩;exact .step_yes HLL.out HA.out H0.out HB.out (by rw [ESZ.out]; exact hlt1) BK.out (by omega) (by omega) (by omega) (by rw [<- HMM.out])
       case measure => simp [intOf] <;> omega
      ·have hk1' : 0 < k := by omega
       go_wp2_with fail
       go_round
       case rel =>
        refine ⟨k + 1, _, _, by omega, (by first | rfl | go_num), rfl, rfl, zH ?_⟩;exact .step_yes HLL.out HA.out H0.out HB.out (by rw [ESZ.out]; exact hlt1) BK.out (by omega) (by omega) (by omega) (by rw [<- HMM.out])
       case measure => simp [intOf] <;> omega
     ·by_cases hk0 : k = 0
      ·subst hk0
       go_wp2_with fail
       go_round
       case rel =>
        refine ⟨0 + 1, _, _, by omega, (by first | rfl | go_num), rfl, rfl, zH ?_⟩;exact .no _ (major_byte (by rw [ESZ.out]; exact hlt1) BK.out (by omega))
       case measure => simp [intOf] <;> omega
      ·have hk1' : 0 < k := by omega
       go_wp2_with fail
       go_round
       case rel =>
        refine ⟨k + 1, _, _, by omega, (by first | rfl | go_num), rfl, rfl, zH ?_⟩;exact .step_yes HLL.out HA.out H0.out HB.out (by rw [ESZ.out]; exact hlt1) BK.out (by omega) (by omega) (by omega) (by rw [<- HMM.out])
       case measure => simp [intOf] <;> omega
    ·go_wp2_with fail
     go_ret;have q := Maj.all HLL.out HA.out H0.out (by rw [ESZ.out]; omega);have R := YES.out q;have e : l.take k = l := List.take_of_length_le (by rw [ESZ.out]; omega);rw [R.1, R.2.1, R.2.2, e];exact ⟨rfl, by have := HR1.out.at (i + 1); simpa using this, K1.out.put 1 _⟩
theorem major_any {W : World} {r : Nat} {A : Option Addr} {S : Toks} {cn i c b : Nat} {w : World} (hc : RdCtx W r A S w) (h : Rd r A S.n cn i c b w) :
    Calls Tryz.prog 134 #[.pointer (some ⟨r, 0, none⟩)] w fun e w' => e = .returned (.int .i64 (mjV b (S.major i) (S.T i).data.toList)) /\ Rd r A S.n cn (psI b (S.major i) i) c (psB b (S.major i)) w' /\ Kp r w w' := by
  have hbig := hc.big;have c0 := h.c0;have c1 := h.c1;have c3 := h.c3;have HR := zH h;by_cases hb : b = 0
  rotate_left
  · have b1 : (((b : Nat) : Int) == 0) = false := by simp; omega
    have b2 : (((b : Nat) : Int) != 0) = true := by simp; omega
    have b3 : ¬ b = 0 := hb;have RV := zH (mjV_bad (S.major i) (S.T i).data.toList hb);have RI := zH (psI_bad (S.major i) i hb);have RB := zH (psB_bad (S.major i) hb);have RW := zH (wrB_ne hb);rw [RV.out, RI.out, RB.out];clear hb hc h;as_aux_lemma =>
    go_enter Tryz.func134, Tryz.ntmps134
    go_wp2_with fail
    go_quiet (fail)
    go_wp2_with fail
    have hb1 : Below w.heap.size w (w.drewN nq) := below_drewN (Below.refl _ _) _;refine (wrong_any (HR.out.on hb1)).mono ?_; rintro e w2 ⟨rfl, h2, k2⟩
    go_wp2_with fail
    go_ret;exact ⟨rfl, by rw [RW.out] at h2; exact h2, (Kp.of_below hb1).trans k2⟩
  subst hb;simp at c3;have NO : S.major i = false -> Hid (mjV 0 (S.major i) (S.T i).data.toList = 0 /\ psI 0 (S.major i) i = i /\ psB 0 (S.major i) = 2) := fun e => zH (by rw [e]; exact ⟨rfl, rfl, rfl⟩)
  by_cases hlt : i < S.n
  rotate_left
  · have R := NO (by unfold Toks.major; simp [hlt])
    rw [R.out.1, R.out.2.1, R.out.2.2];have hle : S.n <= i := by omega
    clear R NO hc h;as_aux_lemma =>
    go_enter Tryz.func134, Tryz.ntmps134
    go_wp2_with fail
    go_quiet (fail)
    go_wp2_with fail
    have hb1 : Below w.heap.size w (w.drewN nq) := below_drewN (Below.refl _ _) _;refine (wrong_any (HR.out.on hb1)).mono ?_; rintro e w2 ⟨rfl, h2, k2⟩
    go_wp2_with fail
    go_ret;exact ⟨rfl, h2, (Kp.of_below hb1).trans k2⟩
  obtain ⟨g, o, y, rfl, hg, k0, k1, k2, hz⟩ := hc.toksAt i hlt;rcases hid_or (S.K i == 3) with hk | hk
  · have R := NO (by unfold Toks.major; rw [hk.out]; simp)
    rw [R.out.1, R.out.2.1, R.out.2.2];have hk1 : (S.K i != 3) = true := by simp only [bne, hk.out]; rfl
    clear R NO hc h;as_aux_lemma =>
    go_enter Tryz.func134, Tryz.ntmps134
    go_wp2_with fail
    go_quiet (fail)
    go_wp2_with fail
    have hb1 : Below w.heap.size w (w.drewN nq) := below_drewN (Below.refl _ _) _;refine (wrong_any (HR.out.on hb1)).mono ?_; rintro e w2 ⟨rfl, h2, k2⟩
    go_wp2_with fail
    go_ret;exact ⟨rfl, h2, (Kp.of_below hb1).trans k2⟩
  exact major_three hc h hlt hk hz k0 k2
def TypeOk (W : World) (r : Nat) (A : Option Addr) (S : Toks) (cn f : Nat) : Prop :=
  ∀ (d i c b : Nat) (w : World), d <= 33 -> c <= 500 -> RdCtx W r A S w -> Rd r A S.n cn i c b w -> (b = 0 -> ∀ j, pT S f d i c ≠ .err 99 j) ->
    Calls Tryz.prog 82 #[.pointer (some ⟨r, 0, none⟩), .int .i64 d] w (TyOut w r A S.n cn (badR b i (pT S f d i c)))
def oneR (S : Toks) (f d i c n : Nat) : Res Ty := if S.begins i = true /\ 20 <= n then .err 3 i else pT S f (d + 1) i c
theorem one_any {W : World} {r : Nat} {A : Option Addr} {S : Toks} {cn f : Nat} (hTy : TypeOk W r A S cn f) (d i c b n : Nat) (w : World) (hd : d <= 32) (hn : n <= 40) (hc5 : c <= 500) (hc : RdCtx W r A S w) (h : Rd r A S.n cn i c b w) (hne : b = 0 -> ∀ j, oneR S f d i c n ≠ .err 99 j) :
    Calls Tryz.prog 174 #[.pointer (some ⟨r, 0, none⟩), .int .i64 n, .int .i64 d] w (TyOut w r A S.n cn (badR b i (oneR S f d i c n))) := by
  have hr := h.lt;obtain ⟨W1, hW1⟩ : ∃ W1, W1 = w.alloc (.cells #[.int .i64 0, .string ⟨#[]⟩, .int .i64 0, .string ⟨#[]⟩, .string ⟨#[]⟩, .slice none 0 0, .slice none 0 0] 48) := ⟨_, rfl⟩;have B1 : Below w.heap.size w W1 := by rw [hW1]; exact below_new (Below.refl _ _) _
  have s1 : W1.heap.size = w.heap.size + 1 := by rw [hW1]; simp
  have X1 : W1.heap[w.heap.size]? = some (.cells #[.int .i64 0, .string ⟨#[]⟩, .int .i64 0, .string ⟨#[]⟩, .string ⟨#[]⟩, .slice none 0 0, .slice none 0 0] 48 (0, 0)) := by rw [hW1]; exact heap_alloc_new w _
  have C1 := hc.on (Kp.of_below B1) hr;have R1 := h.on B1;have BG := zH (begins_any C1 R1);have HX1 := zH X1;have HC1 := zH C1;have HR1 := zH R1;have HB1 := zH B1;have HW1 := zH hW1;clear hc h B1 X1 C1 R1 hW1;go_enter Tryz.func174, Tryz.ntmps174
  go_wp2_with fail
  rw [<- HW1.out];refine BG.out.mono ?_; rintro e w2 ⟨rfl, hb2⟩
  have K2 : Kp r w w2 := (Kp.of_below HB1.out).trans (Kp.of_below hb2);have C2 := HC1.out.on (Kp.of_below hb2) HR1.out.lt;have R2 := HR1.out.on hb2;have s2 := hb2.size;have X2 : w2.heap[w.heap.size]? = _ := (hb2.block _ (by omega)).trans HX1.out;by_cases hlim : b = 0 /\ S.begins i = true /\ 20 <= n
  · obtain ⟨rfl, hbg, hn20⟩ := hlim
    have e0 : (decide (0 = 0) && S.begins i) = true := by rw [hbg]; rfl
    have RR : Hid (badR 0 i (oneR S f d i c n) = .err 3 i) := zH (by rw [badR_0]; unfold oneR; rw [if_pos ⟨hbg, hn20⟩]);rw [e0];have R3 := R2.bad 3;obtain ⟨W3, hW3⟩ : ∃ W3, W3 = w2.setCell ⟨r, 3, none⟩ (.int .i64 3) := ⟨_, rfl⟩;have X3 : W3.heap[w.heap.size]? = _ := (by rw [hW3, Below.heap_setCell _ _ _ _ (by show w.heap.size ≠ r; omega)] : W3.heap[w.heap.size]? = w2.heap[w.heap.size]?).trans X2;have SEAL := zH (TyOut.seal (res := badR 0 i (oneR S f d i c n)) (A := A) (n := S.n) (cn := cn) (Nat.le_refl _) X3 (by rw [hW3]; exact K2.put 3 _) (TyAt.zero (strike (· < w.heap.size + 1) W3)) (Nat.lt_succ_self _) hr (by rw [hW3, RR.out]; exact RdRes.bad (by decide) hc5 R3));have c3 := R2.c3;have f3 := R2.f 3;simp at c3;have n20 : (20 : Int) <= n := by omega
    have HW3 := zH hW3;have HX3 := zH X3;clear hW3 X2 X3 R3 R2 C2 K2 hbg hne e0 hb2 hTy;as_aux_lemma =>
    go_upto_region 4 with fail
    rw [<- HW3.out];clear c3 f3;have X3 := HX3.out;go_wp2_with (first | ((with_reducible refine wpList_putRow 48 (w.heap.size) #[.int .i64 0, .string ⟨#[]⟩, .int .i64 0, .string ⟨#[]⟩, .string ⟨#[]⟩, .slice none 0 0, .slice none 0 0] _ _ X3 ?_ ?_ ?_ ?_ ?_ ?_); exact tySize; rfl; exact tyOne; iterate 2 (focus (first | (go_simp; done) | rfl))))
    exact ret_agg1 (fn := Tryz.f174) (vs := [.int .i64 0, .string ⟨#[]⟩, .int .i64 0, .string ⟨#[]⟩, .string ⟨#[]⟩, .slice none 0 0, .slice none 0 0]) (b := w.heap.size) rfl rfl Tryz.underlying48 (by kernel_rfl) SEAL.out.1 rfl SEAL.out.2
  · have RR : badR b i (oneR S f d i c n) = badR b i (pT S f (d + 1) i c) := by
      by_cases hb : b = 0
      · subst hb
        rw [badR_0, badR_0]; unfold oneR; rw [if_neg (fun x => hlim ⟨rfl, x⟩)]
      · rw [badR_ne _ _ hb, badR_ne _ _ hb]
    have TY := zH (hTy (d + 1) i c b w2 (by omega) hc5 C2 R2 (fun hb j => by
      subst hb;have := hne rfl j
      rw [<- badR_0 i (oneR S f d i c n), RR, badR_0] at this;exact this))
    obtain ⟨bg, hbg⟩ : ∃ bg, (decide (b = 0) && S.begins i) = bg := ⟨_, rfl⟩
    have hor : bg = false \/ (bg = true /\ ¬ (20 : Int) <= n) := by
      cases bg with
      | false => exact .inl rfl
      | true =>
        simp at hbg;exact .inr ⟨rfl, fun e => hlim ⟨hbg.1, hbg.2, by omega⟩⟩
    rw [hbg];have HX2 := zH X2;have HK2 := zH K2;have hs2 : w.heap.size < w2.heap.size := by omega
    have hd0 : (0 : Int) <= d := by omega
    have hd1 : (d : Int) <= 32 := by omega
    have hcast : Hid (((d : Int) + 1) = ((d + 1 : Nat) : Int)) := zH (by omega);have HRR := zH RR;clear hbg X2 R2 C2 K2 hb2 hTy hne hlim RR;rcases hor with rfl | ⟨rfl, hn2⟩
    all_goals
      as_aux_lemma =>
      go_wp2_with fail
      rw [hcast.out];refine TY.out.mono ?_; rintro e w3 ⟨l, t, rfl, hT3, hK3, hR3⟩
      obtain ⟨An, cA, As, cS, rfl, -⟩ := hT3.parts;have X3 : w3.heap[w.heap.size]? = _ := (hK3.blk hs2 (by omega)).trans HX2.out;have SEAL := zH (TyOut.seal (Nat.le_refl _) X3 (HK2.out.trans hK3) hT3 hs2 hr (HRR.out ▸ hR3));clear hT3 hK3 hR3;go_wp2_with (first | ((with_reducible refine wpList_putRow 48 (w.heap.size) #[.int .i64 t.kind, .string t.pkg, .int .i64 t.major, .string t.mod, .string t.name, .slice An t.names.length cA, .slice As t.subs.length cS] _ _ X3 ?_ ?_ ?_ ?_ ?_ ?_); exact tySize; rfl; exact tyOne; iterate 2 (focus (first | (go_simp; done) | rfl))))
      exact ret_agg1 (fn := Tryz.f174) (vs := [.int .i64 t.kind, .string t.pkg, .int .i64 t.major, .string t.mod, .string t.name, .slice An t.names.length cA, .slice As t.subs.length cS]) (b := w.heap.size) rfl rfl Tryz.underlying48 (by kernel_rfl) SEAL.out.1 rfl SEAL.out.2
structure NameAt (W : World) (r : Nat) (A : Option Addr) (S : Toks) (cn i c b : Nat) (ok : Bool) (f : Nat) (g : Bool) (s : ByteArray) (i' b' : Nat) : Prop where
  size : s.size <= 9223372036854775807
  asks : ∀ w, RdCtx W r A S w -> Rd r A S.n cn i c b w -> Calls Tryz.prog f #[.pointer (some ⟨r, 0, none⟩)] w fun e w' => e = .returned (.bool g) /\ Below w.heap.size w w'
  takes : ∀ w, RdCtx W r A S w -> Rd r A S.n cn i c b w -> Calls Tryz.prog 129 #[.pointer (some ⟨r, 0, none⟩), .bool g] w fun e w' => e = .returned (.string s) /\ Rd r A S.n cn i' c b' w' /\ Kp r w w'
  ends : (b = 0 /\ ok = true /\ s = S.T i /\ i' = i + 1 /\ b' = 0) \/ (b = 0 /\ ok = false /\ i' = i /\ b' = 2) \/ (b ≠ 0 /\ i' = i /\ b' = b)
theorem tok_size {W : World} {r : Nat} {A : Option Addr} {S : Toks} {w : World} (hc : RdCtx W r A S w) {i : Nat} (hi : i < S.n) : (S.T i).size <= 9223372036854775807 := by
  obtain ⟨g, o, y, -, -, -, -, -, hz⟩ := hc.toks i hi;exact hz
theorem name_great {W : World} {r : Nat} {A : Option Addr} {S : Toks} {cn i c b : Nat} {w : World} (hc : RdCtx W r A S w) : ∃ g s i' b', NameAt W r A S cn i c b (S.great i) 130 g s i' b' := by
  by_cases hb : b = 0
  · subst hb
    cases hg : S.great i with
    | true =>
      refine ⟨true, S.T i, i + 1, 0, tok_size hc (great_lt hg), fun w hc h => ?_, fun w hc h => word_yes hc h (great_lt hg), .inl ⟨rfl, rfl, rfl, rfl, rfl⟩⟩;refine (rgreat_any hc h).mono fun e w' h => ⟨?_, h.2⟩
      rw [h.1, hg]; rfl
    | false =>
      refine ⟨false, ⟨#[]⟩, i, 2, by decide, fun w hc h => ?_, fun w hc h => ?_, .inr (.inl ⟨rfl, rfl, rfl, rfl⟩)⟩
      · refine (rgreat_any hc h).mono fun e w' h => ⟨?_, h.2⟩
        rw [h.1, hg]; rfl
      · refine (word_no h).mono fun e w' h => ⟨h.1, ?_, h.2.2⟩
        have := h.2.1; rw [wrB_0] at this; exact this
  · refine ⟨false, ⟨#[]⟩, i, b, by decide, fun w hc h => ?_, fun w hc h => ?_, .inr (.inr ⟨hb, rfl, rfl⟩)⟩
    · refine (rgreat_any hc h).mono fun e w' h => ⟨?_, h.2⟩
      rw [h.1]; simp [hb]
    · refine (word_no h).mono fun e w' h => ⟨h.1, ?_, h.2.2⟩
      have := h.2.1; rw [wrB_ne hb] at this; exact this
theorem name_small {W : World} {r : Nat} {A : Option Addr} {S : Toks} {cn i c b : Nat} {w : World} (hc : RdCtx W r A S w) : ∃ g s i' b', NameAt W r A S cn i c b (S.small i) 133 g s i' b' := by
  by_cases hb : b = 0
  · subst hb
    cases hg : S.small i with
    | true =>
      refine ⟨true, S.T i, i + 1, 0, tok_size hc (small_lt hg), fun w hc h => ?_, fun w hc h => word_yes hc h (small_lt hg), .inl ⟨rfl, rfl, rfl, rfl, rfl⟩⟩;refine (rsmall_any hc h).mono fun e w' h => ⟨?_, h.2⟩
      rw [h.1, hg]; rfl
    | false =>
      refine ⟨false, ⟨#[]⟩, i, 2, by decide, fun w hc h => ?_, fun w hc h => ?_, .inr (.inl ⟨rfl, rfl, rfl, rfl⟩)⟩
      · refine (rsmall_any hc h).mono fun e w' h => ⟨?_, h.2⟩
        rw [h.1, hg]; rfl
      · refine (word_no h).mono fun e w' h => ⟨h.1, ?_, h.2.2⟩
        have := h.2.1; rw [wrB_0] at this; exact this
  · refine ⟨false, ⟨#[]⟩, i, b, by decide, fun w hc h => ?_, fun w hc h => ?_, .inr (.inr ⟨hb, rfl, rfl⟩)⟩
    · refine (rsmall_any hc h).mono fun e w' h => ⟨?_, h.2⟩
      rw [h.1]; simp [hb]
    · refine (word_no h).mono fun e w' h => ⟨h.1, ?_, h.2.2⟩
      have := h.2.1; rw [wrB_ne hb] at this; exact this
theorem sign_res {α : Type} (q : Bool) (b i : Nat) (x : Nat -> Res α) : badR (psB b q) (psI b q i) (x (psI b q i)) = badR b i (if q = false then .err 2 i else x (i + 1)) := by
  by_cases hb : b = 0
  · subst hb
    cases q
    · rw [psB_no, psI_no]; rfl
    · rw [psB_yes, psI_yes]; rfl
  · rw [psB_bad _ hb, psI_bad _ _ hb, badR_ne _ _ hb, badR_ne _ _ hb]
theorem name_res {α : Type} {W : World} {r : Nat} {A : Option Addr} {S : Toks} {cn i c b : Nat} {ok g : Bool} {f : Nat} {s : ByteArray} {i' b' : Nat} (h : NameAt W r A S cn i c b ok f g s i' b') (x : ByteArray -> Nat -> Res α) :
    badR b' i' (x s i') = badR b i (if ok = false then .err 2 i else x (S.T i) (i + 1)) := by
  rcases h.ends with ⟨rfl, rfl, rfl, rfl, rfl⟩ | ⟨rfl, rfl, rfl, rfl⟩ | ⟨hb, rfl, rfl⟩
  · rfl
  · rfl
  · rw [badR_ne _ _ hb, badR_ne _ _ hb]
def partsR (S : Toks) (k : Int) (z : List UInt8) (f d i c : Nat) : Res Ty := if k = 5 /\ S.sign i z = true then .ok (leafK 5) (i + 1) c else pParts S k z f d i c [] []
def fnR (S : Toks) (f d i c : Nat) : Res Ty := if S.sign i [41] = true then pEnd S f d (i + 1) c [] else pSubs S f d i c []
def PartsOk (W : World) (r : Nat) (A : Option Addr) (S : Toks) (cn f : Nat) : Prop :=
  ∀ (k : Int) (z : ByteArray) (d i c : Nat) (w : World), (k = 5 \/ k = 6) -> d <= 32 -> c <= 500 -> RdCtx W r A S w -> Rd r A S.n cn i c 0 w -> (∀ j, partsR S k z.data.toList f d i c ≠ .err 99 j) ->
    Calls Tryz.prog 132 #[.pointer (some ⟨r, 0, none⟩), .int .i64 k, .string z, .int .i64 d] w (TyOut w r A S.n cn (partsR S k z.data.toList f d i c))
def FnOk (W : World) (r : Nat) (A : Option Addr) (S : Toks) (cn f : Nat) : Prop :=
  ∀ (d i c : Nat) (w : World), d <= 32 -> c <= 500 -> RdCtx W r A S w -> Rd r A S.n cn i c 0 w -> (∀ j, fnR S f d i c ≠ .err 99 j) ->
    Calls Tryz.prog 135 #[.pointer (some ⟨r, 0, none⟩), .int .i64 d] w (TyOut w r A S.n cn (fnR S f d i c))
def listR (S : Toks) (f d i c : Nat) : Res Ty :=
  if S.sign (i + 1) [40] = false then .err 2 (i + 1)
  else match pT S f (d + 1) (i + 2) (c + 1) with
   | .err b j => .err b j
   | .ok s j c' => if S.sign j [41] = false then .err 2 j else .ok (Ty.mk 4 ⟨#[]⟩ 0 ⟨#[]⟩ ⟨#[]⟩ [] [s]) (j + 1) c'
def restR (S : Toks) (f d i c : Nat) : Res Ty :=
  if S.K i = 1 then pLocal S (S.T i) (i + 1) (c + 1)
  else if S.K i = 2 then
    (if baseT (S.T i).data.toList = 4 then
      listR S f d i c
     else if 0 < baseT (S.T i).data.toList then .ok (leafK (baseT (S.T i).data.toList)) (i + 1) (c + 1)
     else .ok (localT ⟨#[]⟩ (S.T i)) (i + 1) (c + 1))
  else if (S.T i).data.toList = [123] then partsR S 5 [125] f d (i + 1) (c + 1)
  else if (S.T i).data.toList = [91] then partsR S 6 [93] f d (i + 1) (c + 1)
  else if (S.T i).data.toList = [60] then pOpen S (i + 1) (c + 1)
  else fnR S f d (i + 1) (c + 1)
theorem pT_eq (S : Toks) (f d i c : Nat) : pT S (f + 1) d i c = if S.begins i = false then .err 2 i else if 32 < d \/ 500 <= c then .err 3 i else restR S f d i c := by
  conv => lhs; unfold pT
  unfold restR listR partsR fnR
  simp;rfl
theorem list_res {S : Toks} {f d i c b2 i2 c2 : Nat} {s : Ty} (h : badR (psB 0 (S.sign (i + 1) [40])) (psI 0 (S.sign (i + 1) [40]) (i + 1)) (pT S f (d + 1) (psI 0 (S.sign (i + 1) [40]) (i + 1)) (c + 1)) = badR b2 i2 (.ok s i2 c2)) :
    listR S f d i c = badR (psB b2 (S.sign i2 [41])) (psI b2 (S.sign i2 [41]) i2) (.ok (Ty.mk 4 ⟨#[]⟩ 0 ⟨#[]⟩ ⟨#[]⟩ [] [s]) (psI b2 (S.sign i2 [41]) i2) c2) := by
  rw [sign_res (S.sign i2 [41]) b2 i2 (fun j => Res.ok (Ty.mk 4 ⟨#[]⟩ 0 ⟨#[]⟩ ⟨#[]⟩ [] [s]) j c2)];rw [sign_res (S.sign (i + 1) [40]) 0 (i + 1) (fun j => pT S f (d + 1) j (c + 1)), badR_0] at h;unfold listR
  by_cases hq : S.sign (i + 1) [40] = false
  · rw [if_pos hq] at h ⊢
    by_cases hb : b2 = 0
    · subst hb; cases h
    · rw [badR_ne _ _ hb] at h ⊢; exact h
  · rw [if_neg hq] at h ⊢
    rw [h];by_cases hb : b2 = 0
    · subst hb; rfl
    · rw [badR_ne _ _ hb, badR_ne _ _ hb]
theorem local_res {W : World} {r : Nat} {A : Option Addr} {S : Toks} {cn i c c1 : Nat} {g : Bool} {f : Nat} {s d : ByteArray} {i' b' : Nat}
    (h : NameAt W r A S cn (psI 0 (S.sign i [46]) i) c1 (psB 0 (S.sign i [46])) (S.great (psI 0 (S.sign i [46]) i)) f g s i' b') : pLocal S d i c = badR b' i' (.ok (localT d s) i' c) := by
  rw [name_res h (fun s j => Res.ok (localT d s) j c), sign_res (S.sign i [46]) 0 i (fun j => if S.great j = false then Res.err 2 j else Res.ok (localT d (S.T j)) (j + 1) c), badR_0];rfl
theorem open_res {W : World} {r : Nat} {A : Option Addr} {S : Toks} {cn i c c1 c2 c3 : Nat} {g1 g2 g3 : Bool} {f1 f2 f3 : Nat} {s1 s2 s3 : ByteArray} {i1 b1 i2 b2 i3 b3 : Nat}
    (h1 : NameAt W r A S cn i c1 0 (S.small i) f1 g1 s1 i1 b1)
    (h2 : NameAt W r A S cn (psI b1 (S.major i1) i1) c2 (psB b1 (S.major i1)) (S.small (psI b1 (S.major i1) i1)) f2 g2 s2 i2 b2)
    (h3 : NameAt W r A S cn i2 c3 b2 (S.great i2) f3 g3 s3 i3 b3) :
    pOpen S i c = badR (psB b3 (S.sign i3 [62])) (psI b3 (S.sign i3 [62]) i3) (.ok (.mk 9 s1 (mjV b1 (S.major i1) (S.T i1).data.toList) s2 s3 [] []) (psI b3 (S.sign i3 [62]) i3) c) := by
  rw [sign_res (S.sign i3 [62]) b3 i3 (fun j => Res.ok (Ty.mk 9 s1 (mjV b1 (S.major i1) (S.T i1).data.toList) s2 s3 [] []) j c)];rw [name_res h3 (fun s j => if S.sign j [62] = false then Res.err 2 j else Res.ok (Ty.mk 9 s1 (mjV b1 (S.major i1) (S.T i1).data.toList) s2 s [] []) (j + 1) c)];rw [name_res h2 (fun s j => if S.great j = false then Res.err 2 j else if S.sign (j + 1) [62] = false then Res.err 2 (j + 1) else Res.ok (Ty.mk 9 s1 (mjV b1 (S.major i1) (S.T i1).data.toList) s (S.T j) [] []) (j + 1 + 1) c)];rw [sign_res (S.major i1) b1 i1 (fun j => if S.small j = false then Res.err 2 j else if S.great (j + 1) = false then Res.err 2 (j + 1) else if S.sign (j + 1 + 1) [62] = false then Res.err 2 (j + 1 + 1) else Res.ok (Ty.mk 9 s1 (mjV b1 (S.major i1) (S.T i1).data.toList) (S.T j) (S.T (j + 1)) [] []) (j + 1 + 1 + 1) c)];rcases h1.ends with ⟨-, hk, rfl, rfl, rfl⟩ | ⟨-, hk, rfl, rfl⟩ | ⟨h, -⟩
  · unfold pOpen
    rw [hk, badR_0, if_neg (by decide)];by_cases hm : S.major (i + 1) = false
    · rw [if_pos hm, if_pos hm]
    · have hm' : S.major (i + 1) = true := by simpa using hm
      rw [if_neg hm, if_neg hm, hm'];rfl
  · unfold pOpen
    rw [hk]; rfl
  · exact absurd rfl h
theorem clone_own (s : ByteArray) (w : World) (hs : s.size <= 281474976710656) : Calls Tryz.prog 69 #[.string s] w fun e w' => e = .returned (.string s) /\ Below w.heap.size w w' := by
  go_enter Tryz.func69, Tryz.ntmps69
  go_wp2_with fail
  refine (Tryz.stringslite_Clone _ _ hs).mono ?_; rintro e w1 ⟨rfl, hb1⟩
  go_wp2
  go_ret;exact ⟨rfl, hb1⟩
structure AsksOk (f : Nat) (p : Int -> ByteArray -> Bool) : Prop where
  says : ∀ (k y : Int) (s : ByteArray) (w : World), s.size <= 9223372036854775807 -> Calls Tryz.prog f #[tokV k y s] w fun e w' => e = .returned (.bool (p k s)) /\ Below w.heap.size w w'
  enters : ∀ args w, (callFunc f args).run Tryz.prog w = .ok (.enter f args) w
theorem asksSmall : AsksOk 75 smallK := ⟨fun k y s w h => isSmall_any k y s w h, enters_of Tryz.func75 (by kernel_rfl) rfl⟩
theorem asksGreat : AsksOk 77 greatK := ⟨fun k y s w h => isGreat_any k y s w h, enters_of Tryz.func77 (by kernel_rfl) rfl⟩
def NameOut (S : Toks) (ok : Bool) (i b : Nat) (s : ByteArray) (i' b' : Nat) : Prop :=
  (b = 0 /\ ok = true /\ s = S.T i /\ i' = i + 1 /\ b' = 0) \/ (b = 0 /\ ok = false /\ i' = i /\ b' = 2) \/ (b ≠ 0 /\ i' = i /\ b' = b)
theorem NameOut.b0 {S : Toks} {ok : Bool} {i b : Nat} {s : ByteArray} {i' b' : Nat} (h : NameOut S ok i b s i' b') (h0 : b' = 0) : b = 0 := by
  rcases h with ⟨h, -⟩ | ⟨h, -⟩ | ⟨-, -, h⟩
  · exact h
  · exact h
  · omega
theorem cword_any {W : World} {q : Nat} {A : Option Addr} {S : Toks} {cn i b : Nat} {w : World} (hc : CdCtx W q A S w) (h : CSt q A S.n cn i b w) (f : Nat) (p : Int -> ByteArray -> Bool) (hf : AsksOk f p) (hp0 : p 0 ⟨#[]⟩ = false) :
    Calls Tryz.prog 74 #[.pointer (some ⟨q, 0, none⟩), .func (.func f) #[] #[]] w fun e w' => ∃ s i' b', e = .returned (.string s) /\ s.size <= 281474976710656 /\ CSt q A S.n cn i' b' w' /\ Kp q w w' /\ NameOut S (decide (i < S.n) && p (S.K i) (S.T i)) i b s i' b' := by
  have hbig := hc.big;have hr := h.lt;have NX := zH (next_any hc h);have HH := zH h;have hts := tAt_size hc b i
  have hpk : b = 0 -> p (kAt S b i) (tAt S b i) = (decide (i < S.n) && p (S.K i) (S.T i)) := fun hb => by
    unfold kAt tAt
    by_cases hlt : i < S.n
    · rw [if_pos ⟨hb, hlt⟩, if_pos ⟨hb, hlt⟩]; simp [hlt]
    · rw [if_neg (fun x => hlt x.2), if_neg (fun x => hlt x.2), hp0]; simp [hlt]
  have hpt : b = 0 -> i < S.n -> tAt S b i = S.T i := fun hb hlt => if_pos ⟨hb, hlt⟩
  have HPK := zH hpk;have HPT := zH hpt;clear h hc hpk hpt;go_enter Tryz.func74, Tryz.ntmps74
  go_wp2_with fail
  refine NX.out.mono ?_; rintro e w1 ⟨y, rfl, hb1⟩
  generalize hk : kAt S b i = k at HPK ⊢
  generalize ht : tAt S b i = t at HPK HPT hts ⊢
  clear hk ht;unfold tokV
  obtain ⟨w2, hw2⟩ : ∃ w2, w2 = w1.alloc (.cells #[.int .i64 k, .int .i64 y, .string t] 92) := ⟨_, rfl⟩;have B2 : Below w1.heap.size w1 w2 := by rw [hw2]; exact below_new (Below.refl _ _) _
  have T2 : TokBox w1.heap.size k y t w2 := by rw [hw2]; exact heap_alloc_new w1 _
  have B02 := below_over hb1 B2;have t0 : w2.cell? ⟨w1.heap.size, 0, none⟩ = some (.int .i64 k) := cZ T2 0;have t1 : w2.cell? ⟨w1.heap.size, 1, none⟩ = some (.int .i64 y) := cZ T2 1;have t2 : w2.cell? ⟨w1.heap.size, 2, none⟩ = some (.string t) := cZ T2 2;have AF := zH (hf.says k y t w2 (by omega));have eg := hf.enters;have HT2 := zH T2;have HB02 := zH B02;have HW2 := zH hw2;have hs1 := hb1.size;clear hw2 B2 T2 B02 hb1 NX hf;go_upto_region 2 with fail
  rw [<- HW2.out];unfold tokV at AF
  go_wp2_with fail
  refine AF.out.mono ?_; rintro e w3 ⟨rfl, hb3⟩
  have B03 := below_over HB02.out hb3;have h3 := HH.out.below B03;obtain ⟨v, hv⟩ : ∃ v, p k t = v := ⟨_, rfl⟩;rw [hv];have MU := zH (must_any h3 v 2 (by decide));have HT3 := zH (HT2.out.on hb3);have HK3 := zH (Kp.of_below (r := q) B03);have hl3 : w1.heap.size < w3.heap.size := (Array.getElem?_eq_some_iff.1 HT3.out).1;have HQ := zH hv;clear hb3 B03 h3 hv t0 t1 t2 AF eg;go_wp2_with fail
  refine MU.out.mono ?_; rintro e w4 ⟨rfl, h4, k4⟩
  have hlt : mustB b v 2 = 0 -> i < S.n := fun e => by
    by_cases hb : b = 0
    · subst hb
      cases v with
      | false => cases e
      | true =>
        have := HPK.out rfl
        rw [HQ.out] at this
        have h2 : decide (i < S.n) = true := by
          cases hd : decide (i < S.n) with
          | true => rfl
          | false => rw [hd] at this; cases this
        simpa using h2
    · rw [mustB_bad _ _ hb] at e; exact absurd e hb
  have PS := zH (cpass_any h4 hlt hbig);have ht5 : w1.heap.size ≠ q := by omega
  have T4 : Hid (TokBox w1.heap.size k y t w4) := zH ((k4.blk hl3 ht5).trans HT3.out);have HK4 := zH (HK3.out.trans k4);have hl4 := Nat.lt_of_lt_of_le hl3 k4.size;have CL := zH (fun w => clone_own t w hts)
  have OUT : Hid (NameOut S (decide (i < S.n) && p (S.K i) (S.T i)) i b t (upI (mustB b v 2) i) (mustB b v 2)) := zH (by
    by_cases hb : b = 0
    · subst hb
      have e := HPK.out rfl;rw [HQ.out] at e;rw [<- e];cases v with
      | true =>
        have hl : i < S.n := hlt rfl;exact .inl ⟨rfl, rfl, HPT.out rfl hl, rfl, rfl⟩
      | false => exact .inr (.inl ⟨rfl, rfl, rfl, rfl⟩)
    · rw [mustB_bad _ _ hb, upI_ne _ hb]
      exact .inr (.inr ⟨hb, rfl, rfl⟩))
  clear h4 k4 HT2 HT3 HB02 HW2 MU HPK HPT hlt HH HK3;go_wp2_with fail
  refine PS.out.mono ?_; rintro e w5 ⟨rfl, h5, k5⟩
  have T5 : TokBox w1.heap.size k y t w5 := (k5.blk hl4 ht5).trans T4.out;have t2 : w5.cell? ⟨w1.heap.size, 2, none⟩ = some (.string t) := cZ T5 2;have H5 := zH h5;have HK5 := zH (HK4.out.trans k5);clear h5 k5 T5 T4 PS HK4;go_wp2_with fail
  refine (CL.out _).mono ?_; rintro e w6 ⟨rfl, hb6⟩
  have H6' := zH (H5.out.below hb6)
  have K6 := zH (HK5.out.trans (Kp.of_below hb6));clear hb6 H5 HK5;go_wp2_with fail
  go_ret;exact ⟨t, _, _, rfl, hts, H6'.out, K6.out, OUT.out⟩
end Go.Proofs.YtddlmigofilejaaGreatDoor
namespace Go.Proofs.YtddlmigofilejaaGreatDoor.M
open Go Go.Lib
theorem nd_small {u : Nat} (h : u < 10) : decDigits u = [UInt8.ofNat (48 + u)] := by rw [decDigits, dif_pos h]
theorem nd_big {u : Nat} (h : 10 <= u) : decDigits u = decDigits (u / 10) ++ [UInt8.ofNat (48 + u % 10)] := by rw [decDigits, dif_neg (by omega)]
theorem nd_nat {n : Nat} (h : n < 256) : (UInt8.ofNat n).toNat = n := by simp; omega
theorem nd_ne (u : Nat) : decDigits u ≠ [] := by
  by_cases h : u < 10
  · rw [nd_small h]; simp
  · rw [nd_big (by omega)]; simp
theorem nd_mem : ∀ (n u : Nat), u < n -> ∀ c ∈ decDigits u, 48 <= c.toNat /\ c.toNat <= 57
  | 0, _, h => by omega
  | n + 1, u, h => by
    intro c hc;by_cases hs : u < 10
    · rw [nd_small hs] at hc
      simp only [List.mem_singleton] at hc;rw [hc, nd_nat (by omega)]; omega
    · rw [nd_big (by omega)] at hc
      rcases List.mem_append.1 hc with hc | hc
      · exact nd_mem n (u / 10) (by omega) c hc
      · simp only [List.mem_singleton] at hc
        rw [hc, nd_nat (by omega)]; omega
theorem nd_head : ∀ (n u : Nat), u < n -> 1 <= u -> 48 < bt (decDigits u) 0
  | 0, _, h, _ => by omega
  | n + 1, u, h, h1 => by
    by_cases hs : u < 10
    · rw [nd_small hs]
      have := nd_nat (n := 48 + u) (by omega)
      show (48 : Int) < (((UInt8.ofNat (48 + u)).toNat : Nat) : Int)
      omega
    · rw [nd_big (by omega)]
      have ih := nd_head n (u / 10) (by omega) (by omega);have hne := nd_ne (u / 10);cases hd : decDigits (u / 10) with
      | nil => exact absurd hd hne
      | cons a t => rw [hd] at ih; exact ih
theorem nd_len : ∀ (k u : Nat), u < 10 ^ (k + 1) -> (decDigits u).length <= k + 1
  | 0, u, h => by rw [nd_small (by simpa using h)]; simp
  | k + 1, u, h => by
    by_cases hs : u < 10
    · rw [nd_small hs]; simp
    · rw [nd_big (by omega), List.length_append]
      have := nd_len k (u / 10) (by rw [Nat.pow_succ] at h; omega)
      simp; omega
theorem nd_digs : ∀ (n u : Nat), u < n -> digs (decDigits u) 0 = u
  | 0, _, h => by omega
  | n + 1, u, h => by
    by_cases hs : u < 10
    · rw [nd_small hs]
      have := nd_nat (n := 48 + u) (by omega)
      show 10 * (0 : Int) + ((((UInt8.ofNat (48 + u)).toNat : Nat) : Int) - 48) = u
      omega
    · have := nd_nat (n := 48 + u % 10) (by omega)
      rw [nd_big (by omega), digs_snoc, nd_digs n (u / 10) (by omega)];omega
theorem mem_dig {l : List UInt8} (h : ∀ j, j < l.length -> digC (bt l j) = true) : ∀ c ∈ l, 48 <= c.toNat /\ c.toNat <= 57 := fun c hc => by
  obtain ⟨j, hj⟩ := List.getElem?_of_mem hc;have hl := (List.getElem?_eq_some_iff.1 hj).1;have := h j hl
  unfold digC bt at this
  rw [List.getD_eq_getElem?_getD, hj] at this;simp at this;omega
theorem of_digs : ∀ (n : Nat) (l : List UInt8), l.length = n -> 1 <= n -> (∀ c ∈ l, 48 <= c.toNat /\ c.toNat <= 57) -> 48 < bt l 0 -> 1 <= digs l 0 /\ decDigits (digs l 0).toNat = l
  | 0, _, _, h, _, _ => by omega
  | n + 1, l, hl, _, hm, h0 => by
    have hne : l ≠ [] := fun e => by rw [e] at hl; cases hl
    obtain ⟨l', c, rfl⟩ : ∃ l' c, l = l' ++ [c] := ⟨l.dropLast, l.getLast hne, (List.dropLast_concat_getLast hne).symm⟩;have hc := hm c (by simp)
    have hcc : UInt8.ofNat (48 + (c.toNat - 48)) = c := by
      rw [show 48 + (c.toNat - 48) = c.toNat by omega]; simp
    rw [digs_snoc];by_cases hn : n = 0
    · subst hn
      have e : l' = [] := List.length_eq_zero_iff.1 (by simpa using hl);subst e
      have h1 : 48 < c.toNat := by
        have : (48 : Int) < ((c.toNat : Nat) : Int) := h0
        omega
      have hv : (10 * digs [] 0 + (((c.toNat : Nat) : Int) - 48)).toNat = c.toNat - 48 := by
        show (10 * (0 : Int) + (((c.toNat : Nat) : Int) - 48)).toNat = _
        omega
      refine ⟨by show (1 : Int) <= 10 * 0 + _; omega, ?_⟩;rw [hv, nd_small (by omega), hcc]; rfl
    · have hl' : l'.length = n := by simpa using hl
      have hb : bt (l' ++ [c]) 0 = bt l' 0 := by
        unfold bt
        cases l' with
        | nil => simp at hl'; omega
        | cons a t => rfl
      rw [hb] at h0;obtain ⟨h1, h2⟩ := of_digs n l' hl' (by omega) (fun x hx => hm x (by simp [hx])) h0;generalize digs l' 0 = m at h1 h2
      refine ⟨by omega, ?_⟩;have e1 : (10 * m + (((c.toNat : Nat) : Int) - 48)).toNat / 10 = m.toNat := by omega
      have e2 : (10 * m + (((c.toNat : Nat) : Int) - 48)).toNat % 10 = c.toNat - 48 := by omega
      rw [nd_big (by omega), e1, e2, h2, hcc]
theorem digs_lt : ∀ (l : List UInt8) (a : Int) (k : Nat), 0 <= a -> a < (10 ^ k : Nat) -> (∀ c ∈ l, 48 <= c.toNat /\ c.toNat <= 57) -> 0 <= digs l a /\ digs l a < (10 ^ (k + l.length) : Nat)
  | [], a, k, h0, h1, _ => ⟨h0, h1⟩
  | c :: r, a, k, h0, h1, hm => by
    have hc := hm c (by simp);have e : (10 ^ (k + 1) : Nat) = 10 * 10 ^ k := by rw [Nat.pow_succ, Nat.mul_comm]
    have := digs_lt r (10 * a + ((c.toNat : Int) - 48)) (k + 1) (by omega) (by rw [e]; push_cast; push_cast at h1; omega) (fun x hx => hm x (by simp [hx]))
    rw [show k + (c :: r).length = k + 1 + r.length by simp; omega];exact this
theorem dec_digs : ∀ (l : List UInt8) (a : Nat), (∀ c ∈ l, 48 <= c.toNat /\ c.toNat <= 57) -> ∃ n : Nat, decFrom a l = some n /\ (n : Int) = digs l a
  | [], a, _ => ⟨a, rfl, rfl⟩
  | c :: r, a, hm => by
    have hc := hm c (by simp);have hd : digitVal c = some (c.toNat - 48) := by unfold digitVal; rw [if_pos (by omega)]
    obtain ⟨n, h1, h2⟩ := dec_digs r (a * 10 + (c.toNat - 48)) (fun x hx => hm x (by simp [hx]));refine ⟨n, by simp only [decFrom, hd]; exact h1, ?_⟩;rw [h2];show digs r _ = digs r _
    congr 1; omega
theorem num_yes {l : List UInt8} (h : majorOk l = true) : atoiAll l = .ok (digs l 0) /\ 1 <= digs l 0 /\ digs l 0 <= 999999999 /\ decDigits (digs l 0).toNat = l := by
  obtain ⟨h1, h9, hd, h0⟩ := (majorOk_iff l).1 h;have hm := mem_dig hd;obtain ⟨p1, p2⟩ := of_digs l.length l rfl h1 hm h0;have hb := digs_lt l 0 0 (by omega) (by decide) hm;have hp : 10 ^ (0 + l.length) <= 10 ^ 9 := Nat.pow_le_pow_right (by decide) (by omega);have e9 : (10 : Nat) ^ 9 = 1000000000 := by decide
  refine ⟨?_, p1, by omega, p2⟩;rw [atoiAll_short l (by omega)];cases l with
  | nil => simp at h1
  | cons c r =>
    have hc := hm c (by simp)
    have n45 : (c == 45) = false := by
      rw [beq_eq_false_iff_ne]; intro e; rw [e] at hc
      have : (45 : UInt8).toNat = 45 := rfl
      omega
    have n43 : (c == 43) = false := by
      rw [beq_eq_false_iff_ne]; intro e; rw [e] at hc
      have : (43 : UInt8).toNat = 43 := rfl
      omega
    obtain ⟨n, e1, e2⟩ := dec_digs (c :: r) 0 hm;unfold atoi decNat
    simp only [n45, n43];rw [show (decFrom 0 (c :: r)) = some n from e1];simp [NumEnd.ofOption, e2]
theorem num_of {l : List UInt8} {v : Int} (h1 : 1 <= v) (h9 : v <= 999999999) (h : decDigits v.toNat = l) : majorOk l = true /\ digs l 0 = v := by
  subst h
  have hl := nd_len 8 v.toNat (by have : (10 : Nat) ^ (8 + 1) = 1000000000 := by decide
                                  omega)
  have hne := nd_ne v.toNat;refine ⟨(majorOk_iff _).2 ⟨?_, hl, fun j hj => ?_, nd_head (v.toNat + 1) v.toNat (by omega) (by omega)⟩, by rw [nd_digs (v.toNat + 1) v.toNat (by omega)]; omega⟩
  · rcases Nat.eq_zero_or_pos (decDigits v.toNat).length with e | e
    · exact absurd (List.length_eq_zero_iff.1 e) hne
    · exact e
  · have := nd_mem (v.toNat + 1) v.toNat (by omega) _ (List.getElem_mem hj)
    unfold digC bt
    rw [List.getD_eq_getElem?_getD, List.getElem?_eq_getElem hj];simp;omega
end Go.Proofs.YtddlmigofilejaaGreatDoor.M
