/-
  Several texts in one.
-/
import Derived.Test.YtddlmigofilejaaGreatDoorK09
import Derived.Lib.AtoiErrMem
import Derived.Lib.AppendIntMem
set_option maxRecDepth 100000
set_option maxHeartbeats 4000000
namespace Go.Proofs.YtddlmigofilejaaGreatDoor
open Go.RowKit
open Go.Sort
open M
structure CEnv (w : World) : Prop where
 pow : Lib.TabIs Tryz.prog w "internal/strconv.uint64pow10" .u64 Lib.pow10Tab
 syn : ∃ te pe, w.cell? ⟨2, 0, none⟩ = some (.iface te pe)
 rng : ∃ te pe, w.cell? ⟨3, 0, none⟩ = some (.iface te pe)
theorem CEnv.on {w w' : World} (h : CEnv w) (hb : Below w.heap.size w w') : CEnv w' := by
 refine ⟨Lib.tabBelow_of_tabIs h.pow w' hb, ?_, ?_⟩
 ·obtain ⟨te, pe, e⟩ := h.syn
  exact ⟨te, pe, (hb.cell (p := ⟨2, 0, none⟩) (World.block_lt_of_cell? _ _ e)).trans e⟩
 ·obtain ⟨te, pe, e⟩ := h.rng
  exact ⟨te, pe, (hb.cell (p := ⟨3, 0, none⟩) (World.block_lt_of_cell? _ _ e)).trans e⟩
theorem atoi_own (s : ByteArray) (w : World) (hs : s.size <= 281474976710656) (he : CEnv w) : Calls Tryz.prog 161 #[.string s] w fun e w' => ∃ (v : Int) (ev : Value), e = .returned (.tuple #[.int .i64 v, ev]) /\ Below w.heap.size w w' /\
  ((ev = .nilIface /\ Lib.atoiAll s.data.toList = .ok v) \/ ((∃ te pe, ev = .iface te (.pointer (some pe))) /\ ∀ u, Lib.atoiAll s.data.toList ≠ .ok u)) := by
 match h : Lib.atoiAll s.data.toList with
 | Lib.NumEnd.ok v =>
  refine (Tryz.strconv_Atoi_ok s (by omega) v h w).mono ?_;rintro e w' ⟨rfl, hw⟩;refine ⟨v, .nilIface, rfl, ?_, .inl ⟨rfl, rfl⟩⟩;rcases hw with rfl | ⟨t, rfl⟩
  ·exact Below.refl _ _
  ·exact Lib.bytesWorld_below w _ t
 | Lib.NumEnd.syntax =>
  obtain ⟨te, pe, hv⟩ := he.syn;refine (Tryz.strconv_Atoi_syntax s hs h _ w hv (.inr ⟨te, pe, rfl⟩)).mono ?_;rintro e w' ⟨N, rfl, -, -, hb⟩;exact ⟨_, _, rfl, hb, .inr ⟨⟨_, _, rfl⟩, fun u => by simp⟩⟩
 | Lib.NumEnd.range =>
  obtain ⟨te, pe, hv⟩ := he.rng;refine (Tryz.strconv_Atoi_range s hs h _ w hv (.inr ⟨te, pe, rfl⟩)).mono ?_;rintro e w' ⟨N, rfl, -, -, hb⟩;exact ⟨_, _, rfl, hb, .inr ⟨⟨_, _, rfl⟩, fun u => by simp⟩⟩
theorem itoa_own (n : Int) (w : World) (h0 : -9223372036854775808 <= n) (h1 : n <= 9223372036854775807) (he : CEnv w) :
  Calls Tryz.prog 162 #[.int .i64 n] w fun e w' => e = .returned (.string ⟨(Lib.itoa n).toArray⟩) /\ Below w.heap.size w w' :=
 (Tryz.strconv_Itoa n h0 h1 w he.pow).mono fun e w' ⟨he, k, os, hw⟩ => by
  subst hw;exact ⟨he, ⟨rfl, rfl, rfl, Lib.size_grow _ _ _, fun j hj => Lib.heap_grow_old w k os j hj⟩⟩
def NumOut (S : Toks) (i b : Nat) (v : Int) (i' b' : Nat) : Prop :=
 (b = 0 /\ S.major i = true /\ v = digs (S.T i).data.toList 0 /\ i' = i + 1 /\ b' = 0) \/ (b = 0 /\ S.major i = false /\ i' = i /\ b' = 2) \/ (b ≠ 0 /\ i' = i /\ b' = b)
theorem whole_eq {S : Toks} {b i : Nat} {v : Int} (hb : b = 0) (hk : (kAt S b i == 3) = true) (ha : Lib.atoiAll (tAt S b i).data.toList = .ok v) :
  (((Lib.itoa v).toArray.toList == (tAt S b i).data.toList) && (decide (1 <= v) && decide (v <= 999999999))) = S.major i /\ (S.major i = true -> v = digs (S.T i).data.toList 0) := by
 have hk3 : kAt S b i = 3 := by simpa using hk
 have hlt : i < S.n := by
  by_cases h : i < S.n
  ·exact h
  ·unfold kAt at hk3; rw [if_neg (fun x => h x.2)] at hk3; cases hk3
 have e1 : kAt S b i = S.K i := if_pos ⟨hb, hlt⟩
 have e2 : tAt S b i = S.T i := if_pos ⟨hb, hlt⟩
 rw [e2] at ha ⊢
 rw [e1] at hk3
 have hm : S.major i = majorOk (S.T i).data.toList := by unfold Toks.major; simp [hlt, hk3]
 rw [hm]
 cases hq : majorOk (S.T i).data.toList with
 | true =>
  obtain ⟨a1, a2, a3, a4⟩ := num_yes hq;rw [a1] at ha;have hv : digs (S.T i).data.toList 0 = v := by simpa using ha
  refine ⟨?_, fun _ => hv.symm⟩;rw [<- hv];unfold Lib.itoa
  rw [if_neg (by omega)];simp [a4, a2, a3]
 | false =>
  refine ⟨?_, fun h => by cases h⟩;rw [Bool.eq_false_iff];intro h;simp only [Bool.and_eq_true, decide_eq_true_eq, beq_iff_eq] at h;obtain ⟨h1, h2, h3⟩ := h
  have : Lib.decDigits v.toNat = (S.T i).data.toList := by
   rw [<- h1]; unfold Lib.itoa; rw [if_neg (by omega)]
  rw [(num_of h2 h3 this).1] at hq;cases hq
def NumQ (S : Toks) (i b : Nat) (v : Int) (q : Bool) : Prop := b = 0 -> (q && (decide (1 <= v) && decide (v <= 999999999))) = S.major i /\ (S.major i = true -> v = digs (S.T i).data.toList 0)
theorem NumQ.no {S : Toks} {i b : Nat} {v : Int} (h : b = 0 -> S.major i = false) : NumQ S i b v false := fun hb => ⟨(h hb).symm, fun e => by rw [h hb] at e; cases e⟩
theorem NumQ.out {S : Toks} {i b : Nat} {v : Int} {q p : Bool} (h : NumQ S i b v q) (hp : (q && (decide (1 <= v) && decide (v <= 999999999))) = p) : NumOut S i b v (upI (mustB b p 2) i) (mustB b p 2) := by
 by_cases hb : b = 0
 ·subst hb
  obtain ⟨h1, h2⟩ := h rfl;rw [hp] at h1;cases p with
  | true => exact .inl ⟨rfl, h1.symm, h2 h1.symm, rfl, rfl⟩
  | false => exact .inr (.inl ⟨rfl, h1.symm, rfl, rfl⟩)
 ·rw [mustB_bad _ _ hb, upI_ne _ hb]
  exact .inr (.inr ⟨hb, rfl, rfl⟩)
theorem major_k {S : Toks} {i b : Nat} (hb : b = 0) (hk : (kAt S b i == 3) = false) : S.major i = false := by
 cases h : S.major i with
 | false => rfl
 | true =>
  unfold Toks.major at h
  simp only [Bool.and_eq_true, decide_eq_true_eq, beq_iff_eq] at h;have : kAt S b i = S.K i := if_pos ⟨hb, by simp_all⟩
  rw [this] at hk;simp_all
theorem major_e {S : Toks} {i b : Nat} (hb : b = 0) (ha : ∀ u, Lib.atoiAll (tAt S b i).data.toList ≠ .ok u) : S.major i = false := by
 cases h : S.major i with
 | false => rfl
 | true =>
  unfold Toks.major at h
  simp only [Bool.and_eq_true, decide_eq_true_eq, beq_iff_eq] at h;have e : tAt S b i = S.T i := if_pos ⟨hb, by simp_all⟩;rw [e] at ha;have hm : majorOk (S.T i).data.toList = true := by simp_all
  exact absurd (num_yes hm).1 (ha _)
theorem major_lt {S : Toks} {i : Nat} (h : S.major i = true) : i < S.n := by
 unfold Toks.major at h
 simp only [Bool.and_eq_true, decide_eq_true_eq, beq_iff_eq] at h
 simp_all
theorem NumOut.b0 {S : Toks} {i b : Nat} {v : Int} {i' b' : Nat} (h : NumOut S i b v i' b') (h0 : b' = 0) : b = 0 := by
 rcases h with ⟨h, -⟩ | ⟨h, -⟩ | ⟨-, -, h⟩
 ·exact h
 ·exact h
 ·omega
theorem cmajor_any {W : World} {q : Nat} {A : Option Addr} {S : Toks} {cn i b : Nat} {w : World} (hc : CdCtx W q A S w) (h : CSt q A S.n cn i b w) (he : CEnv W) :
  Calls Tryz.prog 118 #[.pointer (some ⟨q, 0, none⟩), .int .i64 1] w fun e w' => ∃ v i' b', e = .returned (.int .i64 v) /\ CSt q A S.n cn i' b' w' /\ Kp q w w' /\ NumOut S i b v i' b' := by
 have hbig := hc.big
 have hr := h.lt
 have NX := zH (next_any hc h)
 have HH := zH h
 have hts := tAt_size hc b i
 have hkw : W.heap.size <= w.heap.size := hc.below.size
 have HE := zH (he.on hc.below)
 have HWE := zH (fun hb v => whole_eq (S := S) (b := b) (i := i) (v := v) hb)
 have NMK := zH (fun hb hk => major_k (S := S) (i := i) (b := b) hb hk)
 have NME := zH (fun hb hk => major_e (S := S) (i := i) (b := b) hb hk)
 clear h hc he
 go_enter Tryz.func118, Tryz.ntmps118
 go_wp2_with fail
 refine NX.out.mono ?_; rintro e w1 ⟨y, rfl, hb1⟩
 generalize hk : kAt S b i = k at HWE NMK ⊢
 generalize ht : tAt S b i = t at HWE NME hts ⊢
 clear hk ht
 unfold tokV
 obtain ⟨w2, hw2⟩ : ∃ w2, w2 = w1.alloc (.cells #[.int .i64 k, .int .i64 y, .string t] 92) := ⟨_, rfl⟩
 have B2 : Below w1.heap.size w1 w2 := by rw [hw2]; exact below_new (Below.refl _ _) _
 have T2 : TokBox w1.heap.size k y t w2 := by rw [hw2]; exact heap_alloc_new w1 _
 have B02 := below_over hb1 B2
 have t0 : w2.cell? ⟨w1.heap.size, 0, none⟩ = some (.int .i64 k) := cZ T2 0
 have t1 : w2.cell? ⟨w1.heap.size, 1, none⟩ = some (.int .i64 y) := cZ T2 1
 have t2 : w2.cell? ⟨w1.heap.size, 2, none⟩ = some (.string t) := cZ T2 2
 have HT2 := zH T2
 have HB02 := zH B02
 have HW2 := zH hw2
 have hs1 := hb1.size
 have AT := zH (atoi_own t w2 hts (HE.out.on B02))
 clear hw2 B2 T2 B02 hb1 NX
 go_upto_region 2 with fail
 rw [<- HW2.out]
 go_wp2_with fail
 refine AT.out.mono ?_; rintro e w3 ⟨v, ev, rfl, hb3, hev⟩
 have B03 := below_over HB02.out hb3
 have T3 := HT2.out.on hb3
 have t0 : w3.cell? ⟨w1.heap.size, 0, none⟩ = some (.int .i64 k) := cZ T3 0
 have t1 : w3.cell? ⟨w1.heap.size, 1, none⟩ = some (.int .i64 y) := cZ T3 1
 have t2 : w3.cell? ⟨w1.heap.size, 2, none⟩ = some (.string t) := cZ T3 2
 have HB03 := zH B03
 have HE3 := zH (HE.out.on B03)
 have HEV := zH hev
 clear hev T3 B03 hb3 AT HW2 HT2 HB02
 go_upto_region 3 with fail
 go_cut [8] (fun s6 wx => ∃ u, s6 = .bool u /\ Below w3.heap.size w3 wx /\ NumQ S i b v u)
 case first =>
  rcases hid_or (k == 3) with a3 | a3
  ·have b3 := a3.out
   have Q := zH (NumQ.no (v := v) fun hb => NMK.out hb b3);clear HEV;go_quiet (fail)
   go_wp2_with fail
   go_meet
   exact ⟨_, rfl, below_drewN (Below.refl _ _) _, Q.out⟩
  have b3 := a3.out;rcases HEV.out with ⟨rfl, hok⟩ | ⟨⟨te, pe, rfl⟩, hno⟩
  rotate_left
  ·have Q := zH (NumQ.no (v := v) fun hb => NME.out hb hno)
   clear HEV hno;go_quiet (fail)
   go_wp2_with fail
   go_meet
   exact ⟨_, rfl, below_drewN (Below.refl _ _) _, Q.out⟩
  have hbd := Lib.atoiAll_bounds hok;have E1 : t.toList = t.data.toList := Lib.toList_data t;have E2 : (⟨(Lib.itoa v).toArray⟩ : ByteArray).toList = Lib.itoa v := Lib.toList_data _
  have Q : Hid (NumQ S i b v (Lib.itoa v == t.toList)) := zH fun hb => by
   rw [E1];exact HWE.out hb v b3 hok
  have cI : ∀ dd os, Calls Tryz.prog 162 #[.int .i64 v] (Sort.grow (redrawn w3 dd) os) fun e w'' => e = .returned (.string ⟨(Lib.itoa v).toArray⟩) /\ ∃ pp : Regrown, w'' = Sort.grow (redrawn w3 pp.d) pp.os := fun dd os => Calls.regrown_of (itoa_own v _ hbd.1 hbd.2 (HE3.out.on (below_regrown w3 dd os)))
  have p0 := cell_regrown t0; have p2 := cell_regrown t2
  clear t0 t1 t2 hbd E1 E2 hok HEV HE HE3 HWE;refine wp_region_quiet_below (by kernel_rfl) (by kernel_rfl) ?_;repeat (any_goals (first | go_big_quiet_step (with_reducible exact cI _ _) | quiet_step (with_reducible exact cI _ _)))
  refine wpQuiet_nil ?_;intro _ hw';obtain ⟨⟨dq, osq⟩, hw''⟩ := hw';subst hw'';have hb4 := below_regrown w3 dq osq;go_wp2_with fail
  go_meet
  exact ⟨_, rfl, hb4, Q.out⟩
 case rest =>
  obtain ⟨u, rfl, hb4, hq⟩ := hcut;have B04 := below_over HB03.out hb4;have h4 := HH.out.below B04;have HK4 := zH (Kp.of_below (r := q) B04);have MU := zH (fun p => must_any h4 p 2 (by decide));have HQ := zH hq
  have UP : Hid (∀ p w5, (u && (decide (1 <= v) && decide (v <= 999999999))) = p -> CSt q A S.n cn i (mustB b p 2) w5 -> Calls Tryz.prog 72 #[.pointer (some ⟨q, 0, none⟩)] w5 fun e w' => e = .returned (.tuple #[]) /\ CSt q A S.n cn (upI (mustB b p 2) i) (mustB b p 2) w' /\ Kp q w5 w') := zH fun p w5 hp h5 => cpass_any h5 (fun e => by
   by_cases hb : b = 0
   ·subst hb
    have := (HQ.out rfl).1
    rw [hp] at this;cases p with
    | true => exact major_lt this.symm
    | false => cases e
   ·rw [mustB_bad _ _ hb] at e; exact absurd e hb) hbig
  clear hb4 B04 h4 hq HE HE3 HEV HWE NMK NME HB03 HH t0 t1 t2;rcases hid_or u with aq | aq
  ·have := aq.out; subst this
   go_upto_region 4 with fail
   go_wp2_with fail
   refine (MU.out _).mono ?_; rintro e w5 ⟨rfl, h5, k5⟩
   have HP : Hid ((false && (decide (1 <= v) && decide (v <= 999999999))) = false) := zH (by rfl);have PS := zH (UP.out false w5 HP.out h5);have O := zH (HQ.out.out HP.out);have HK5 := zH (HK4.out.trans k5);clear h5 k5 UP MU HQ HP HK4;go_wp2_with fail
   refine PS.out.mono ?_; rintro e w6 ⟨rfl, h6, k6⟩
   have H6 := zH h6;have HK6 := zH (HK5.out.trans k6);clear h6 k6 PS HK5;go_wp2_with fail
   go_ret;exact ⟨v, _, _, rfl, H6.out, HK6.out, O.out⟩
  have := aq.out; subst this
  rcases hid_or (decide (1 <= v)) with a1 | a1
  ·have b1 := a1.out
   go_upto_region 4 with fail
   go_wp2_with fail
   refine (MU.out _).mono ?_; rintro e w5 ⟨rfl, h5, k5⟩
   have HP : Hid ((true && (decide (1 <= v) && decide (v <= 999999999))) = false) := zH (by rw [b1]; rfl);have PS := zH (UP.out false w5 HP.out h5);have O := zH (HQ.out.out HP.out);have HK5 := zH (HK4.out.trans k5);clear h5 k5 UP MU HQ HP HK4;go_wp2_with fail
   refine PS.out.mono ?_; rintro e w6 ⟨rfl, h6, k6⟩
   have H6 := zH h6;have HK6 := zH (HK5.out.trans k6);clear h6 k6 PS HK5;go_wp2_with fail
   go_ret;exact ⟨v, _, _, rfl, H6.out, HK6.out, O.out⟩
  have b1 := a1.out;rcases hid_or (decide (v <= 999999999)) with a2 | a2
  ·have b2 := a2.out
   go_upto_region 4 with fail
   go_wp2_with fail
   refine (MU.out _).mono ?_; rintro e w5 ⟨rfl, h5, k5⟩
   have HP : Hid ((true && (decide (1 <= v) && decide (v <= 999999999))) = false) := zH (by rw [b1, b2]; rfl);have PS := zH (UP.out false w5 HP.out h5);have O := zH (HQ.out.out HP.out);have HK5 := zH (HK4.out.trans k5);clear h5 k5 UP MU HQ HP HK4;go_wp2_with fail
   refine PS.out.mono ?_; rintro e w6 ⟨rfl, h6, k6⟩
   have H6 := zH h6;have HK6 := zH (HK5.out.trans k6);clear h6 k6 PS HK5;go_wp2_with fail
   go_ret;exact ⟨v, _, _, rfl, H6.out, HK6.out, O.out⟩
  have b2 := a2.out;go_upto_region 4 with fail
  go_wp2_with fail
  refine (MU.out _).mono ?_; rintro e w5 ⟨rfl, h5, k5⟩
  have HP : Hid ((true && (decide (1 <= v) && decide (v <= 999999999))) = true) := zH (by rw [b1, b2]; rfl);have PS := zH (UP.out true w5 HP.out h5);have O := zH (HQ.out.out HP.out);have HK5 := zH (HK4.out.trans k5);clear h5 k5 UP MU HQ HP HK4;go_wp2_with fail
  refine PS.out.mono ?_; rintro e w6 ⟨rfl, h6, k6⟩
  have H6 := zH h6;have HK6 := zH (HK5.out.trans k6);clear h6 k6 PS HK5;go_wp2_with fail
  go_ret;exact ⟨v, _, _, rfl, H6.out, HK6.out, O.out⟩
structure KQ (q r : Nat) (w w' : World) : Prop where
  os : w'.os = w.os
  tape : w'.tape = w.tape
  output : w'.output = w.output
  size : w.heap.size <= w'.heap.size
  block : ∀ j, j < w.heap.size -> j ≠ r -> j ≠ q -> w'.heap[j]? = w.heap[j]?
theorem KQ.trans {q r : Nat} {a b c : World} (h : KQ q r a b) (k : KQ q r b c) : KQ q r a c :=
  ⟨k.os.trans h.os, k.tape.trans h.tape, k.output.trans h.output, Nat.le_trans h.size k.size, fun j hj h1 h2 => (k.block j (Nat.lt_of_lt_of_le hj h.size) h1 h2).trans (h.block j hj h1 h2)⟩
theorem KQ.of_below {q r : Nat} {w w' : World} (h : Below w.heap.size w w') : KQ q r w w' := ⟨h.os, h.tape, h.output, h.size, fun j hj _ _ => h.block j hj⟩
theorem KQ.ofKp {q r : Nat} {w w' : World} (h : Kp q w w') : KQ q r w w' := ⟨h.os, h.tape, h.output, h.size, fun j hj _ h2 => h.blk hj h2⟩
theorem KQ.below {q r m : Nat} {w w' : World} (h : KQ q r w w') (hq : m <= q) (hr : m <= r) (hm : m <= w.heap.size) : Below m w w' := ⟨h.os, h.tape, h.output, h.size, fun j hj => h.block j (by omega) (by omega) (by omega)⟩
theorem KQ.put {q r : Nat} {w w' : World} (h : KQ q r w w') (i : Nat) (v : Value) : KQ q r w (w'.setCell ⟨r, i, none⟩ v) :=
  ⟨h.os, h.tape, h.output, by have := h.size; simpa using this, fun j hj h1 h2 => by
    rw [Below.heap_setCell _ _ _ _ (by show j ≠ r; exact h1)];exact h.block j hj h1 h2⟩
theorem KQ.alloc {q r : Nat} {w w' : World} (h : KQ q r w w') (o : Obj) : KQ q r w (w'.alloc o) := h.trans (KQ.of_below (below_new (Below.refl _ _) o))
theorem KQ.blk {q r : Nat} {a b : World} (h : KQ q r a b) {j : Nat} (hj : j < a.heap.size) (hne : j ≠ r /\ j ≠ q) : b.heap[j]? = a.heap[j]? := h.block j hj hne.1 hne.2
theorem KQ.grow {q r : Nat} {w a b : World} {ob : Option Nat} (h : KQ q r w a) (g : a.grownBy b ob) (ho : ∀ k, ob = some k -> w.heap.size <= k) : KQ q r w b :=
  ⟨g.os.trans h.os, g.tape.trans h.tape, g.output.trans h.output, Nat.le_trans h.size g.size, fun j hj h1 h2 => (g.block j (Nat.lt_of_lt_of_le hj h.size) (fun e => by have := ho j e.symm; omega)).trans (h.block j hj h1 h2)⟩
structure RSt (q r : Nat) (A : Option Addr) (n cn i c b : Nat) (w : World) : Prop where
  cur : CSt q A n cn i b w
  box : ∃ y : Int, (b = 0 -> y = c) /\ w.heap[r]? = some (.cells #[.pointer (some ⟨q, 0, none⟩), .int .i64 y] 188 (0, 0))
theorem RSt.qlt {q r : Nat} {A : Option Addr} {n cn i c b : Nat} {w : World} (h : RSt q r A n cn i c b w) : q < w.heap.size := h.cur.lt
theorem RSt.lt {q r : Nat} {A : Option Addr} {n cn i c b : Nat} {w : World} (h : RSt q r A n cn i c b w) : r < w.heap.size := by
  obtain ⟨y, -, h2⟩ := h.box;exact (Array.getElem?_eq_some_iff.1 h2).1
theorem RSt.ne {q r : Nat} {A : Option Addr} {n cn i c b : Nat} {w : World} (h : RSt q r A n cn i c b w) : r ≠ q := by
  obtain ⟨y, -, h2⟩ := h.box;obtain ⟨vs, h1⟩ := h.cur.typ;exact two_types h2 h1 (by decide)
theorem RSt.p {q r : Nat} {A : Option Addr} {n cn i c b : Nat} {w : World} (h : RSt q r A n cn i c b w) : w.cell? ⟨r, 0, none⟩ = some (.pointer (some ⟨q, 0, none⟩)) := by
  obtain ⟨y, -, h2⟩ := h.box;have := cZ h2 0
  simpa using this
theorem RSt.keep {q r : Nat} {A : Option Addr} {n cn i c b : Nat} {w w' : World} (h : RSt q r A n cn i c b w) (e : ∀ k : Nat, (∀ (vs : Array Value) (T : TypeId) (fr : Nat × Nat), w.heap[k]? = some (Obj.cells vs T fr) -> T = 75 \/ T = 87 \/ T = 188) -> k < w.heap.size -> w'.heap[k]? = w.heap[k]?) : RSt q r A n cn i c b w' := by
  obtain ⟨vq, hq⟩ := h.cur.typ;refine ⟨h.cur.keep (e q (fun vs T fr h1 => ?_) h.qlt) (fun g vs fr hg => e g (fun vs' T fr' h1 => ?_) (Array.getElem?_eq_some_iff.1 hg).1), ?_⟩
  · rw [hq] at h1; simp only [Option.some.injEq, Obj.cells.injEq] at h1; exact .inr (.inl h1.2.1.symm)
  · rw [hg] at h1; simp only [Option.some.injEq, Obj.cells.injEq] at h1; exact .inl h1.2.1.symm
  · obtain ⟨y, hy, h2⟩ := h.box
    refine ⟨y, hy, (e r (fun vs T fr h1 => ?_) h.lt).trans h2⟩;rw [h2] at h1; simp only [Option.some.injEq, Obj.cells.injEq] at h1; exact .inr (.inr h1.2.1.symm)
theorem RSt.below {q r : Nat} {A : Option Addr} {n cn i c b : Nat} {w w' : World} (h : RSt q r A n cn i c b w) (hb : Below w.heap.size w w') : RSt q r A n cn i c b w' := h.keep fun k _ hk => hb.block k hk
theorem RSt.other {q r : Nat} {A : Option Addr} {n cn i c b : Nat} {w w' : World} (h : RSt q r A n cn i c b w) {g : Nat} {old : Array Value} {T : TypeId} {fr : Nat × Nat} (hg : w.heap[g]? = some (.cells old T fr)) (hT : T ≠ 75 /\ T ≠ 87 /\ T ≠ 188) (e : ∀ k, k ≠ g -> w'.heap[k]? = w.heap[k]?) : RSt q r A n cn i c b w' :=
  h.keep fun k hk _ => e k fun hkg => by
    subst hkg;rcases hk _ _ _ hg with e | e | e
    · exact hT.1 e
    · exact hT.2.1 e
    · exact hT.2.2 e
theorem RSt.turn {q r : Nat} {A : Option Addr} {n cn i c b i' b' : Nat} {w w' : World} (h : RSt q r A n cn i c b w) (h1 : CSt q A n cn i' b' w') (k : Kp q w w') (hb : b' = 0 -> b = 0) : RSt q r A n cn i' c b' w' := by
  obtain ⟨y, hy, h2⟩ := h.box;exact ⟨h1, y, fun e => hy (hb e), (k.blk h.lt h.ne).trans h2⟩
theorem RSt.more {q r : Nat} {A : Option Addr} {n cn i c b : Nat} {w : World} (h : RSt q r A n cn i c b w) (hc : c <= 500) :
    ∃ x : Int, w.cell? ⟨r, 1, none⟩ = some (.int .i64 x) /\ w.frozen? ⟨r, 1, none⟩ = false /\ (b = 0 -> x = c) /\ RSt q r A n cn i (c + 1) b (w.setCell ⟨r, 1, none⟩ (.int .i64 (wrap64 (x + 1)))) := by
  obtain ⟨y, hy, h2⟩ := h.box;have hne := h.ne;have h3 := Joins.block_setCell (i := 1) h2 (.int .i64 (wrap64 (y + 1)));refine ⟨y, by have := cZ h2 1; simpa using this, Lib.frozen_of_heap h2 1, hy, h.cur.keep (Below.heap_setCell _ _ _ _ (by show q ≠ r; omega)) (fun g vs fr hg => Below.heap_setCell _ _ _ _ (by show g ≠ r; exact two_types hg h2 (by decide))), wrap64 (y + 1), fun e => ?_, by simpa using h3⟩;rw [hy e];unfold wrap64; omega
theorem RSt.any {q r : Nat} {A : Option Addr} {n cn i c b : Nat} {w : World} (h : RSt q r A n cn i c b w) (hb : b ≠ 0) (c' : Nat) : RSt q r A n cn i c' b w := by
  obtain ⟨y, hy, h2⟩ := h.box;exact ⟨h.cur, y, fun e => absurd e hb, h2⟩
structure RCtx (W : World) (q r : Nat) (A : Option Addr) (S : Toks) (w : World) : Prop where
  cur : CdCtx W q A S w
  ler : W.heap.size <= r
theorem RCtx.on {W : World} {q r : Nat} {A : Option Addr} {S : Toks} {w w' : World} (h : RCtx W q r A S w) (hk : KQ q r w w') : RCtx W q r A S w' :=
  ⟨⟨h.cur.toks, h.cur.below.trans (hk.below h.cur.le h.ler h.cur.below.size), h.cur.le, h.cur.big, h.cur.small⟩, h.ler⟩
theorem rnext_any {W : World} {q r : Nat} {A : Option Addr} {S : Toks} {cn i c b : Nat} {w : World} (hc : RCtx W q r A S w) (h : RSt q r A S.n cn i c b w) :
    Calls Tryz.prog 120 #[.pointer (some ⟨q, 0, none⟩)] w fun e w' => ∃ y, e = .returned (tokV (kAt S b i) y (tAt S b i)) /\ Below w.heap.size w w' := next_any hc.cur h.cur
theorem rmust_any {q r : Nat} {A : Option Addr} {n cn i c b : Nat} {w : World} (h : RSt q r A n cn i c b w) (so : Bool) (code : Nat) (hco : code ≠ 0) :
    Calls Tryz.prog 71 #[.pointer (some ⟨q, 0, none⟩), .bool so, .int .i64 code] w fun e w' => e = .returned (.tuple #[]) /\ RSt q r A n cn i c (mustB b so code) w' /\ KQ q r w w' :=
  (must_any h.cur so code hco).mono fun _ _ ⟨he, h1, k1⟩ => ⟨he, h.turn h1 k1 (mustB_0 hco), .ofKp k1⟩
theorem rskip_any {W : World} {q r : Nat} {A : Option Addr} {S : Toks} {cn i c b : Nat} {w : World} (hc : RCtx W q r A S w) (h : RSt q r A S.n cn i c b w) (s : ByteArray) :
    Calls Tryz.prog 121 #[.pointer (some ⟨q, 0, none⟩), .string s] w fun e w' => e = .returned (.bool (decide (b = 0) && S.sign i s.data.toList)) /\ RSt q r A S.n cn (psI b (S.sign i s.data.toList) i) c b w' /\ KQ q r w w' :=
  (skip_any hc.cur h.cur s).mono fun _ _ ⟨he, h1, k1⟩ => ⟨he, h.turn h1 k1 id, .ofKp k1⟩
theorem rsign_any {W : World} {q r : Nat} {A : Option Addr} {S : Toks} {cn i c b : Nat} {w : World} (hc : RCtx W q r A S w) (h : RSt q r A S.n cn i c b w) (s : ByteArray) :
    Calls Tryz.prog 76 #[.pointer (some ⟨q, 0, none⟩), .string s] w fun e w' => e = .returned (.tuple #[]) /\ RSt q r A S.n cn (psI b (S.sign i s.data.toList) i) c (psB b (S.sign i s.data.toList)) w' /\ KQ q r w w' :=
  (csign_any hc.cur h.cur s).mono fun _ _ ⟨he, h1, k1⟩ => ⟨he, h.turn h1 k1 psB_0, .ofKp k1⟩
theorem rpass_any {W : World} {q r : Nat} {A : Option Addr} {S : Toks} {cn i c : Nat} {w : World} (hc : RCtx W q r A S w) (h : RSt q r A S.n cn i c 0 w) (hi : i < S.n) :
    Calls Tryz.prog 72 #[.pointer (some ⟨q, 0, none⟩)] w fun e w' => e = .returned (.tuple #[]) /\ RSt q r A S.n cn (i + 1) c 0 w' /\ KQ q r w w' :=
  (cpass_any h.cur (fun _ => hi) hc.cur.big).mono fun _ _ ⟨he, h1, k1⟩ => ⟨he, h.turn h1 k1 id, .ofKp k1⟩
theorem rword_any {W : World} {q r : Nat} {A : Option Addr} {S : Toks} {cn i c b : Nat} {w : World} (hc : RCtx W q r A S w) (h : RSt q r A S.n cn i c b w) (f : Nat) (p : Int -> ByteArray -> Bool) (hf : AsksOk f p) (hp0 : p 0 ⟨#[]⟩ = false) :
    Calls Tryz.prog 74 #[.pointer (some ⟨q, 0, none⟩), .func (.func f) #[] #[]] w fun e w' => ∃ s i' b', e = .returned (.string s) /\ s.size <= 281474976710656 /\ RSt q r A S.n cn i' c b' w' /\ KQ q r w w' /\ NameOut S (decide (i < S.n) && p (S.K i) (S.T i)) i b s i' b' :=
  (cword_any hc.cur h.cur f p hf hp0).mono fun _ _ ⟨s, i', b', he, hs, h1, k1, hN⟩ => ⟨s, i', b', he, hs, h.turn h1 k1 hN.b0, .ofKp k1, hN⟩
theorem rmajor_any {W : World} {q r : Nat} {A : Option Addr} {S : Toks} {cn i c b : Nat} {w : World} (hc : RCtx W q r A S w) (h : RSt q r A S.n cn i c b w) (he : CEnv W) :
    Calls Tryz.prog 118 #[.pointer (some ⟨q, 0, none⟩), .int .i64 1] w fun e w' => ∃ v i' b', e = .returned (.int .i64 v) /\ RSt q r A S.n cn i' c b' w' /\ KQ q r w w' /\ NumOut S i b v i' b' :=
  (cmajor_any hc.cur h.cur he).mono fun _ _ ⟨v, i', b', e1, h1, k1, hN⟩ => ⟨v, i', b', e1, h.turn h1 k1 hN.b0, .ofKp k1, hN⟩
theorem small_k (S : Toks) (i : Nat) : (decide (i < S.n) && smallK (S.K i) (S.T i)) = S.small i := by unfold smallK Toks.small; rw [Bool.and_assoc]
theorem great_k (S : Toks) (i : Nat) : (decide (i < S.n) && greatK (S.K i) (S.T i)) = S.great i := by unfold greatK Toks.great; rw [Bool.and_assoc]
theorem small_at (S : Toks) (i : Nat) : smallK (kAt S 0 i) (tAt S 0 i) = S.small i := by
  rw [<- small_k];unfold kAt tAt
  by_cases h : i < S.n
  · rw [if_pos ⟨rfl, h⟩, if_pos ⟨rfl, h⟩]; simp [h]
  · rw [if_neg (fun x => h x.2)]; simp [h, smallK]
def COut (w : World) (cu r : Nat) (A : Option Addr) (n cn : Nat) (R : Res Ty) (e : Ending) (w' : World) : Prop :=
  ∃ (l : List Value) (t : Ty) (i c b : Nat), e = .returned (.agg l.toArray) /\ TyAt (strike (· < w.heap.size) w') l t /\ KQ cu r w w' /\ RSt cu r A n cn i c b w' /\ c <= 500 /\ badR b i (.ok t i c) = R
theorem COut.seal {w wk : World} {cu r b m : Nat} {A : Option Addr} {n cn i c bd : Nat} {R : Res Ty} {t : Ty} {old : Array Value} {v0 v1 v2 v3 v4 v5 v6 : Value}
    (hb : w.heap.size <= b) (hres : wk.heap[b]? = some (.cells old 48 (0, 0))) (hK : KQ cu r w wk) (hT : TyAt (strike (· < m) wk) [v0, v1, v2, v3, v4, v5, v6] t) (hbm : b < m) (hr : r < w.heap.size) (hC : RSt cu r A n cn i c bd wk) (h5 : c <= 500) (hR : badR bd i (.ok t i c) = R) :
    (∀ i v, ([v0, v1, v2, v3, v4, v5, v6] : List Value)[i]? = some v -> (wk.setRow b #[v0, v1, v2, v3, v4, v5, v6]).cell? ⟨b, i, none⟩ = some v) /\
    COut w cu r A n cn R (.returned (.agg #[v0, v1, v2, v3, v4, v5, v6])) (wk.setRow b #[v0, v1, v2, v3, v4, v5, v6]) := by
  refine ⟨cell7 (setRow_heap wk b old _ _ _ hres), [v0, v1, v2, v3, v4, v5, v6], t, i, c, bd, rfl, ?_, ?_, ?_, h5, hR⟩
  · exact hT.move (by simp) fun b' hlt hS => ⟨by omega, setRow_other wk b b' _ (by omega)⟩
  · exact ⟨hK.os, hK.tape, hK.output, by have := hK.size; simpa using this, fun j hj h1 h2 => (setRow_other wk b j _ (by omega)).trans (hK.block j hj h1 h2)⟩
  · exact hC.other hres (by decide) (fun k hk => setRow_other wk b k _ (by omega))
def Bx (b : Nat) (w : World) : Prop := w.heap[b]? = some (.cells #[.int .i64 0, .string ⟨#[]⟩, .int .i64 0, .string ⟨#[]⟩, .string ⟨#[]⟩, .slice none 0 0, .slice none 0 0] 48 (0, 0))
theorem nameOut_res {α : Type} {S : Toks} {ok : Bool} {i b : Nat} {s : ByteArray} {i' b' : Nat} (h : NameOut S ok i b s i' b') (x : ByteArray -> Nat -> Res α) :
    badR b' i' (x s i') = badR b i (if ok = false then .err 2 i else x (S.T i) (i + 1)) := by
  rcases h with ⟨rfl, rfl, rfl, rfl, rfl⟩ | ⟨rfl, rfl, rfl, rfl⟩ | ⟨hb, rfl, rfl⟩
  · rfl
  · rfl
  · rw [badR_ne _ _ hb, badR_ne _ _ hb]
theorem numOut_res {α : Type} {S : Toks} {i b : Nat} {v : Int} {i' b' : Nat} (h : NumOut S i b v i' b') (x : Int -> Nat -> Res α) :
    badR b' i' (x v i') = badR b i (if S.major i = false then .err 2 i else x (digs (S.T i).data.toList 0) (i + 1)) := by
  rcases h with ⟨rfl, h1, rfl, rfl, rfl⟩ | ⟨rfl, h1, rfl, rfl⟩ | ⟨hb, rfl, rfl⟩
  · rw [h1]; rfl
  · rw [h1]; rfl
  · rw [badR_ne _ _ hb, badR_ne _ _ hb]
theorem loc0_res {S : Toks} {i c i3 b3 : Nat} {s : ByteArray} (h : NameOut S (decide (i < S.n) && greatK (S.K i) (S.T i)) i 0 s i3 b3) :
    badR b3 i3 (.ok (.mk 8 ⟨#[]⟩ 0 ⟨#[]⟩ s [] []) i3 c) = if S.great i = false then .err 2 i else .ok (localT ⟨#[]⟩ (S.T i)) (i + 1) c := by
  have := nameOut_res h (fun s i => Res.ok (localT ⟨#[]⟩ s) i c)
  rw [great_k] at this;exact this
theorem loc1_res {S : Toks} {i c i3 b3 i5 b5 : Nat} {s1 s : ByteArray} (h1 : NameOut S (decide (i < S.n) && smallK (S.K i) (S.T i)) i 0 s1 i3 b3)
    (h : NameOut S (decide (psI b3 (S.sign i3 [46]) i3 < S.n) && greatK (S.K (psI b3 (S.sign i3 [46]) i3)) (S.T (psI b3 (S.sign i3 [46]) i3))) (psI b3 (S.sign i3 [46]) i3) (psB b3 (S.sign i3 [46])) s i5 b5) :
    badR b5 i5 (.ok (.mk 8 ⟨#[]⟩ 0 s1 s [] []) i5 c) = if S.small i = false then .err 2 i else pLocal S (S.T i) (i + 1) c := by
  have a := nameOut_res h (fun s i => Res.ok (localT s1 s) i c);rw [great_k] at a;have b := sign_res (S.sign i3 [46]) b3 i3 (fun j => if S.great j = false then Res.err 2 j else .ok (localT s1 (S.T j)) (j + 1) c);have d := nameOut_res h1 (fun s j => if S.sign j [46] = false then Res.err 2 j else if S.great (j + 1) = false then .err 2 (j + 1) else .ok (localT s (S.T (j + 1))) (j + 1 + 1) c);rw [small_k] at d;exact a.trans (b.trans d)
theorem clocal_any {W : World} {cu r : Nat} {A : Option Addr} {S : Toks} {cn i c : Nat} {w : World} (hc : RCtx W cu r A S w) (h : RSt cu r A S.n cn i c 0 w) (hc5 : c <= 500) (R : Res Ty) (hR : R = if S.small i = true then pLocal S (S.T i) (i + 1) c else if S.great i = false then .err 2 i else .ok (localT ⟨#[]⟩ (S.T i)) (i + 1) c) :
    Calls Tryz.prog 171 #[.pointer (some ⟨r, 0, none⟩)] w (COut w cu r A S.n cn R) := by
  have hr := h.lt;have hq0 := h.qlt;obtain ⟨w0, hw0⟩ : ∃ w0, w0 = w.alloc (.cells #[.int .i64 0, .string ⟨#[]⟩, .int .i64 0, .string ⟨#[]⟩, .string ⟨#[]⟩, .slice none 0 0, .slice none 0 0] 48) := ⟨_, rfl⟩;have B0 : Below w.heap.size w w0 := by rw [hw0]; exact below_new (Below.refl _ _) _
  have X0 : Bx w.heap.size w0 := by rw [hw0]; exact heap_alloc_new w _
  have hl0 : w.heap.size < w0.heap.size := (Array.getElem?_eq_some_iff.1 X0).1;have NX := zH (rnext_any (hc.on (KQ.of_below B0)) (h.below B0));have HH := zH (h.below B0);have p0 := (h.below B0).p;have HC := zH (hc.on (KQ.of_below B0));have HX0 := zH X0;have HK0 := zH (KQ.of_below (q := cu) (r := r) B0);have hts := tAt_size hc.cur 0 i;have hsm := small_at S i;have HR := zH hR;have HW0 := zH hw0;have hne : w.heap.size ≠ r /\ w.heap.size ≠ cu := ⟨Nat.ne_of_gt hr, Nat.ne_of_gt hq0⟩;clear h hc hR hw0 B0 X0;go_enter Tryz.func171, Tryz.ntmps171
  go_upto_region 1 with fail
  rw [<- HW0.out];go_wp2_with fail
  refine NX.out.mono ?_; rintro e w1 ⟨y, rfl, hb1⟩
  obtain ⟨q, hq⟩ : ∃ q, S.small i = q := ⟨_, rfl⟩;have IS := zH (isSmall_any (kAt S 0 i) y (tAt S 0 i) w1 (by omega));rw [hsm, hq] at IS;have HB1 := zH hb1;have HQ := zH hq;generalize hk : kAt S 0 i = k at IS ⊢
  generalize ht : tAt S 0 i = t at hts IS ⊢
  clear hk ht hb1 NX hsm hq hts;go_wp2_with fail
  refine IS.out.mono ?_; rintro e w2 ⟨rfl, hb2⟩
  have B02 := below_over HB1.out hb2;have HB2 := zH B02;have h2 := HH.out.below B02;have p2 := h2.p;have C2 := HC.out.on (KQ.of_below B02);have HX2 : Hid (Bx w.heap.size w2) := zH ((B02.block _ hl0).trans HX0.out);have HKP2 := zH (HK0.out.trans (KQ.of_below B02));have HC2 := zH C2;have hl2 := Nat.lt_of_lt_of_le hl0 B02.size;clear hb2 IS HB1 B02 HX0 HK0;rcases hid_or q with aq | aq
  · have := aq.out; subst this
    have WD := zH (rword_any C2 h2 _ _ asksGreat (by decide));clear h2 C2 HB2 HH HC;go_wp2_with fail
    refine WD.out.mono ?_; rintro e w3 ⟨s, i3, b3, rfl, hs3, h3, k3, hN⟩
    have p3 := h3.p;have X3 : Bx w.heap.size w3 := (k3.blk hl2 hne).trans HX2.out
    have SEAL := zH (COut.seal (R := R) (Nat.le_refl _) X3 (HKP2.out.trans k3) (TyAt.leaf (strike (· < w.heap.size + 1) w3) 8 ⟨#[]⟩ 0 ⟨#[]⟩ s (by decide) (by decide) (by omega)) (Nat.lt_succ_self _) hr h3 hc5 (by
      rw [loc0_res hN, HR.out, HQ.out]; rfl))
    unfold Bx at X3
    clear h3 k3 hN WD HX2 HKP2 HC2;go_wp2_with (first | ((with_reducible refine wpList_putRow 48 (w.heap.size) #[.int .i64 8, .string ⟨#[]⟩, .int .i64 0, .string ⟨#[]⟩, .string s, .slice none 0 0, .slice none 0 0] _ _ X3 ?_ ?_ ?_ ?_ ?_ ?_); exact tySize; rfl; exact tyOne; iterate 2 (focus (first | (go_simp; done) | rfl))))
    exact ret_agg1 (fn := Tryz.f171) (vs := [.int .i64 8, .string ⟨#[]⟩, .int .i64 0, .string ⟨#[]⟩, .string s, .slice none 0 0, .slice none 0 0]) (b := w.heap.size) rfl rfl Tryz.underlying48 (by kernel_rfl) SEAL.out.1 rfl SEAL.out.2
  · have := aq.out; subst this
    have WD := zH (rword_any C2 h2 _ _ asksSmall (by decide));clear h2 C2 HB2 HH HC;go_wp2_with fail
    refine WD.out.mono ?_; rintro e w3 ⟨s1, i3, b3, rfl, hs3, h3, k3, hN⟩
    have p3 := h3.p;have C3 := HC2.out.on k3;have SG := zH (rsign_any C3 h3 ⟨#[46]⟩);have X3 : Bx w.heap.size w3 := (k3.blk hl2 hne).trans HX2.out;have HX3 := zH X3;have HK3 := zH (HKP2.out.trans k3);have HC3 := zH C3;have HN1 := zH hN;have hl3 := Nat.lt_of_lt_of_le hl2 k3.size;clear h3 k3 hN C3 X3 WD HX2 HKP2 HC2;go_wp2_with fail
    refine SG.out.mono ?_; rintro e w4 ⟨rfl, h4, k4⟩
    have p4 := h4.p;have C4 := HC3.out.on k4;have WD := zH (rword_any C4 h4 _ _ asksGreat (by decide));have HX4 : Hid (Bx w.heap.size w4) := zH ((k4.blk hl3 hne).trans HX3.out);have HK4 := zH (HK3.out.trans k4);have hl4 := Nat.lt_of_lt_of_le hl3 k4.size;clear h4 k4 C4 SG HX3 HK3 HC3;go_wp2_with fail
    refine WD.out.mono ?_; rintro e w5 ⟨s, i5, b5, rfl, hs5, h5, k5, hN⟩
    have p5 := h5.p;have X5 : Bx w.heap.size w5 := (k5.blk hl4 hne).trans HX4.out
    have SEAL := zH (COut.seal (R := R) (Nat.le_refl _) X5 (HK4.out.trans k5) (TyAt.leaf (strike (· < w.heap.size + 1) w5) 8 ⟨#[]⟩ 0 s1 s (by decide) (by omega) (by omega)) (Nat.lt_succ_self _) hr h5 hc5 (by
      rw [loc1_res HN1.out hN, HR.out, HQ.out]; rfl))
    unfold Bx at X5
    clear h5 k5 hN WD HX4 HK4;go_wp2_with (first | ((with_reducible refine wpList_putRow 48 (w.heap.size) #[.int .i64 8, .string ⟨#[]⟩, .int .i64 0, .string s1, .string s, .slice none 0 0, .slice none 0 0] _ _ X5 ?_ ?_ ?_ ?_ ?_ ?_); exact tySize; rfl; exact tyOne; iterate 2 (focus (first | (go_simp; done) | rfl))))
    exact ret_agg1 (fn := Tryz.f171) (vs := [.int .i64 8, .string ⟨#[]⟩, .int .i64 0, .string s1, .string s, .slice none 0 0, .slice none 0 0]) (b := w.heap.size) rfl rfl Tryz.underlying48 (by kernel_rfl) SEAL.out.1 rfl SEAL.out.2
theorem open_any_res {S : Toks} {i c i1 b1 i2 b2 i3 b3 i4 b4 : Nat} {p m n : ByteArray} {v : Int} (hq : S.sign i [60] = true)
    (h1 : NameOut S (decide (i + 1 < S.n) && smallK (S.K (i + 1)) (S.T (i + 1))) (i + 1) 0 p i1 b1) (h2 : NumOut S i1 b1 v i2 b2)
    (h3 : NameOut S (decide (i2 < S.n) && smallK (S.K i2) (S.T i2)) i2 b2 m i3 b3) (h4 : NameOut S (decide (i3 < S.n) && greatK (S.K i3) (S.T i3)) i3 b3 n i4 b4) :
    badR (psB b4 (S.sign i4 [62])) (psI b4 (S.sign i4 [62]) i4) (Res.ok (Ty.mk 9 p v m n [] []) (psI b4 (S.sign i4 [62]) i4) c) = pOpen S (i + 1) c := by
  rw [small_k] at h1 h3;rw [great_k] at h4;have e5 := sign_res (S.sign i4 [62]) b4 i4 (fun j => Res.ok (Ty.mk 9 p v m n [] []) j c);have e4 := nameOut_res h4 (fun n j => if S.sign j [62] = false then Res.err 2 j else Res.ok (Ty.mk 9 p v m n [] []) (j + 1) c);have e3 := nameOut_res h3 (fun m j => if S.great j = false then Res.err 2 j else if S.sign (j + 1) [62] = false then Res.err 2 (j + 1) else Res.ok (Ty.mk 9 p v m (S.T j) [] []) (j + 1 + 1) c);have e2 := numOut_res h2 (fun v j => if S.small j = false then Res.err 2 j else if S.great (j + 1) = false then Res.err 2 (j + 1) else if S.sign (j + 1 + 1) [62] = false then Res.err 2 (j + 1 + 1) else Res.ok (Ty.mk 9 p v (S.T j) (S.T (j + 1)) [] []) (j + 1 + 1 + 1) c);have e1 := nameOut_res h1 (fun p j => if S.major j = false then Res.err 2 j else if S.small (j + 1) = false then Res.err 2 (j + 1) else if S.great (j + 1 + 1) = false then Res.err 2 (j + 1 + 1) else if S.sign (j + 1 + 1 + 1) [62] = false then Res.err 2 (j + 1 + 1 + 1) else Res.ok (Ty.mk 9 p (digs (S.T j).data.toList 0) (S.T (j + 1)) (S.T (j + 1 + 1)) [] []) (j + 1 + 1 + 1 + 1) c);refine e5.trans (e4.trans (e3.trans (e2.trans (e1.trans ?_))));rw [badR_0];rfl
theorem copen_any {W : World} {cu r : Nat} {A : Option Addr} {S : Toks} {cn i c : Nat} {w : World} (hc : RCtx W cu r A S w) (he : CEnv W) (h : RSt cu r A S.n cn i c 0 w) (hc5 : c <= 500) (R : Res Ty) (hq : S.sign i [60] = true) (hR : R = pOpen S (i + 1) c) :
    Calls Tryz.prog 172 #[.pointer (some ⟨r, 0, none⟩)] w (COut w cu r A S.n cn R) := by
  have hr := h.lt;have hq0 := h.qlt;obtain ⟨w0, hw0⟩ : ∃ w0, w0 = w.alloc (.cells #[.int .i64 0, .string ⟨#[]⟩, .int .i64 0, .string ⟨#[]⟩, .string ⟨#[]⟩, .slice none 0 0, .slice none 0 0] 48) := ⟨_, rfl⟩;have B0 : Below w.heap.size w w0 := by rw [hw0]; exact below_new (Below.refl _ _) _
  have X0 : Bx w.heap.size w0 := by rw [hw0]; exact heap_alloc_new w _
  have hl0 : w.heap.size < w0.heap.size := (Array.getElem?_eq_some_iff.1 X0).1;have C0 := hc.on (KQ.of_below B0);have SG := zH (rsign_any C0 (h.below B0) ⟨#[60]⟩);have HC0 := zH C0;have p0 := (h.below B0).p;have HX0 := zH X0;have HK0 := zH (KQ.of_below (q := cu) (r := r) B0);have HR := zH hR;have HQ := zH hq;have HE := zH he;have HW0 := zH hw0;have hne : w.heap.size ≠ r /\ w.heap.size ≠ cu := ⟨Nat.ne_of_gt hr, Nat.ne_of_gt hq0⟩;clear h hc hR hw0 B0 X0 C0 hq he;go_enter Tryz.func172, Tryz.ntmps172
  go_upto_region 1 with fail
  rw [<- HW0.out];go_wp2_with fail
  refine SG.out.mono ?_; rintro e w1 ⟨rfl, h1, k1⟩
  have p1 := h1.p;have hs1 : S.sign i (⟨#[60]⟩ : ByteArray).data.toList = true := HQ.out;rw [hs1] at h1;have h1' : RSt cu r A S.n cn (i + 1) c 0 w1 := h1
  have C1 := HC0.out.on k1;have HX1 : Hid (Bx w.heap.size w1) := zH ((k1.blk hl0 hne).trans HX0.out);have HK1 := zH (HK0.out.trans k1);have HC1 := zH C1;have hl1 := Nat.lt_of_lt_of_le hl0 k1.size;have WD := zH (rword_any C1 h1' _ _ asksSmall (by decide));clear h1 h1' k1 C1 SG HX0 HK0 HC0 hs1;go_wp2_with fail
  refine WD.out.mono ?_; rintro e w2 ⟨s1, i2, b2, rfl, hs2, h2, k2, hN⟩
  have p2 := h2.p;have HN1 := zH hN;have C2 := HC1.out.on k2;have HX2 : Hid (Bx w.heap.size w2) := zH ((k2.blk hl1 hne).trans HX1.out);have HK2 := zH (HK1.out.trans k2);have HC2 := zH C2;have hl2 := Nat.lt_of_lt_of_le hl1 k2.size;have WD' := zH (rmajor_any C2 h2 HE.out)
  clear h2 k2 C2 WD HX1 HK1 HC1 hN;go_wp2_with fail
  refine WD'.out.mono ?_; rintro e w3 ⟨v, i3, b3, rfl, h3, k3, hN⟩
  have p3 := h3.p;have HN2 := zH hN;have C3 := HC2.out.on k3;have HX3 : Hid (Bx w.heap.size w3) := zH ((k3.blk hl2 hne).trans HX2.out);have HK3 := zH (HK2.out.trans k3);have HC3 := zH C3;have hl3 := Nat.lt_of_lt_of_le hl2 k3.size;have WD := zH (rword_any C3 h3 _ _ asksSmall (by decide));clear h3 k3 C3 WD' HX2 HK2 HC2 hN;go_wp2_with fail
  refine WD.out.mono ?_; rintro e w4 ⟨s3, i4, b4, rfl, hs4, h4, k4, hN⟩
  have p4 := h4.p;have HN3 := zH hN;have C4 := HC3.out.on k4;have HX4 : Hid (Bx w.heap.size w4) := zH ((k4.blk hl3 hne).trans HX3.out);have HK4 := zH (HK3.out.trans k4);have HC4 := zH C4;have hl4 := Nat.lt_of_lt_of_le hl3 k4.size;have WD' := zH (rword_any C4 h4 _ _ asksGreat (by decide))
  clear h4 k4 C4 WD HX3 HK3 HC3 hN;go_wp2_with fail
  refine WD'.out.mono ?_; rintro e w5 ⟨s4, i5, b5, rfl, hs5, h5, k5, hN⟩
  have p5 := h5.p;have HN4 := zH hN;have C5 := HC4.out.on k5;have HX5 : Hid (Bx w.heap.size w5) := zH ((k5.blk hl4 hne).trans HX4.out);have HK5 := zH (HK4.out.trans k5);have HC5 := zH C5;have hl5 := Nat.lt_of_lt_of_le hl4 k5.size;have SG := zH (rsign_any C5 h5 ⟨#[62]⟩);clear h5 k5 C5 WD' HX4 HK4 HC4 hN;go_wp2_with fail
  refine SG.out.mono ?_; rintro e w6 ⟨rfl, h6, k6⟩
  have p6 := h6.p;have X6 : Bx w.heap.size w6 := (k6.blk hl5 hne).trans HX5.out;have SEAL := zH (COut.seal (R := R) (Nat.le_refl _) X6 (HK5.out.trans k6) (TyAt.leaf (strike (· < w.heap.size + 1) w6) 9 s1 v s3 s4 (by omega) (by omega) (by omega)) (Nat.lt_succ_self _) hr h6 hc5 ((open_any_res HQ.out HN1.out HN2.out HN3.out HN4.out).trans HR.out.symm));unfold Bx at X6
  clear h6 k6 SG HX5 HK5 HC5;go_wp2_with (first | ((with_reducible refine wpList_putRow 48 (w.heap.size) #[.int .i64 9, .string s1, .int .i64 v, .string s3, .string s4, .slice none 0 0, .slice none 0 0] _ _ X6 ?_ ?_ ?_ ?_ ?_ ?_); exact tySize; rfl; exact tyOne; iterate 2 (focus (first | (go_simp; done) | rfl))))
  exact ret_agg1 (fn := Tryz.f172) (vs := [.int .i64 9, .string s1, .int .i64 v, .string s3, .string s4, .slice none 0 0, .slice none 0 0]) (b := w.heap.size) rfl rfl Tryz.underlying48 (by kernel_rfl) SEAL.out.1 rfl SEAL.out.2
def readR (S : Toks) (f d n i c : Nat) : Res Ty := if S.begins i = true /\ 20 < n then .err 3 i else pT S f d i c
theorem readR_one {S : Toks} {f d i c : Nat} : readR S f d 1 i c = pT S f d i c := if_neg (fun x => by omega)
def CReadOk (W : World) (cu r : Nat) (A : Option Addr) (S : Toks) (cn f : Nat) : Prop := ∀ (d n i c b : Nat) (w : World), RCtx W cu r A S w -> RSt cu r A S.n cn i c b w -> c <= 500 -> d <= 1000000 -> n <= 1000000 -> (b = 0 -> ∀ j, readR S f d n i c ≠ .err 99 j) ->
  Calls Tryz.prog 123 #[.pointer (some ⟨r, 0, none⟩), .int .i64 d, .int .i64 n] w (COut w cu r A S.n cn (badR b i (readR S f d n i c)))
theorem clist_any {W : World} {cu r : Nat} {A : Option Addr} {S : Toks} {cn i c f d d' : Nat} {w : World} (RD : CReadOk W cu r A S cn f) (hc : RCtx W cu r A S w) (h : RSt cu r A S.n cn i (c + 1) 0 w) (hi : i < S.n) (hc5 : c + 1 <= 500) (hd : d' = d + 1) (hd5 : d' <= 1000000) (R : Res Ty) (hR : R = listR S f d i c) (hne : ∀ j, R ≠ .err 99 j) :
    Calls Tryz.prog 167 #[.pointer (some ⟨r, 0, none⟩), .int .i64 d'] w (COut w cu r A S.n cn R) := by
  have hr := h.lt;have hq0 := h.qlt;obtain ⟨w0, hw0⟩ : ∃ w0, w0 = w.alloc (.cells #[.int .i64 0, .string ⟨#[]⟩, .int .i64 0, .string ⟨#[]⟩, .string ⟨#[]⟩, .slice none 0 0, .slice none 0 0] 48) := ⟨_, rfl⟩;have B0 : Below w.heap.size w w0 := by rw [hw0]; exact below_new (Below.refl _ _) _
  have X0 : Bx w.heap.size w0 := by rw [hw0]; exact heap_alloc_new w _
  have hl0 : w.heap.size < w0.heap.size := (Array.getElem?_eq_some_iff.1 X0).1;have hne0 : w.heap.size ≠ r /\ w.heap.size ≠ cu := ⟨Nat.ne_of_gt hr, Nat.ne_of_gt hq0⟩;have C0 := hc.on (KQ.of_below B0);have PA := zH (rpass_any C0 (h.below B0) hi);have p0 := (h.below B0).p;have HC0 := zH C0;have HX0 := zH X0;have HK0 := zH (KQ.of_below (q := cu) (r := r) B0);have HR := zH hR;have HN := zH hne;have RD' := zH RD
  have HW0 := zH hw0;have HD := zH hd;clear h hc hR hne RD hd hw0 B0 X0 C0;go_enter Tryz.func167, Tryz.ntmps167
  go_upto_region 1 with fail
  rw [<- HW0.out];go_wp2_with fail
  refine PA.out.mono ?_; rintro e w1 ⟨rfl, h1, k1⟩
  have C1 := HC0.out.on k1;have SG := zH (rsign_any C1 h1 ⟨#[40]⟩);have HC1 := zH C1;have HX1 : Hid (Bx w.heap.size w1) := zH ((k1.blk hl0 hne0).trans HX0.out);have HK1 := zH (HK0.out.trans k1);have hl1 := Nat.lt_of_lt_of_le hl0 k1.size;have p1 := h1.p;clear h1 k1 C1 PA HC0 HX0 HK0;go_wp2_with fail
  refine SG.out.mono ?_; rintro e w2 ⟨rfl, h2, k2⟩
  have p2 := h2.p;have C2 := HC1.out.on k2;have HX2 : Hid (Bx w.heap.size w2) := zH ((k2.blk hl1 hne0).trans HX1.out);have HK2 := zH (HK1.out.trans k2);have HC2 := zH C2;have hl2 := Nat.lt_of_lt_of_le hl1 k2.size;have hd := HD.out
  have TY := RD'.out d' 1 _ _ _ w2 C2 h2 hc5 hd5 (by omega) (by
    intro hb j q;rw [readR_one, hd] at q;apply HN.out j
    rw [HR.out]
    have e : S.sign (i + 1) [40] = true := by
      cases hq : S.sign (i + 1) [40] with
      | true => rfl
      | false =>
        have hq' : S.sign (i + 1) (⟨#[40]⟩ : ByteArray).data.toList = false := hq
        rw [hq'] at hb; cases hb
    have e' : S.sign (i + 1) (⟨#[40]⟩ : ByteArray).data.toList = true := e
    rw [e'] at q;have q' : pT S f (d + 1) (i + 2) (c + 1) = .err 99 j := q
    unfold listR
    rw [if_neg (by rw [e]; decide), q'])
  rw [readR_one] at TY;have TY1 : Calls Tryz.prog 123 #[.pointer (some ⟨r, 0, none⟩), .int .i64 d', .int .i64 1] w2 _ := TY;have HTY := zH TY1;clear TY TY1 hd C2 h2 k2 SG HX1 HK1 HC1 RD';go_wp2_with fail
  refine HTY.out.mono ?_; rintro e w7 ⟨l, t, i2, c2, b2, rfl, hT7, hK7, R7, hc2, hres⟩
  obtain ⟨An, cA, As, cS, rfl, -⟩ := hT7.parts;obtain ⟨w8, hw8⟩ : ∃ w8, w8 = w7.alloc (.cells #[.int .i64 t.kind, .string t.pkg, .int .i64 t.major, .string t.mod, .string t.name, .slice An t.names.length cA, .slice As t.subs.length cS] 48) := ⟨_, rfl⟩;have hr7 := R7.lt;have hq7 := R7.qlt;have hs7 := hK7.size;have B8 : Below w7.heap.size w7 w8 := by rw [hw8]; exact below_new (Below.refl _ _) _
  have R8 := R7.below B8;have p8 := R8.p;have s8 : w8.heap.size = w7.heap.size + 1 := by rw [hw8]; simp
  have O8 : w8.heap[w7.heap.size]? = some (.cells #[.int .i64 t.kind, .string t.pkg, .int .i64 t.major, .string t.mod, .string t.name, .slice An t.names.length cA, .slice As t.subs.length cS] 48 (0, 0)) := by rw [hw8]; exact heap_alloc_new w7 _
  have C8 : RCtx W cu r A S w8 := (HC2.out.on hK7).on (KQ.of_below B8);have X8 : Bx w.heap.size w8 := (B8.block _ (by omega)).trans ((hK7.blk (by omega) (by omega)).trans HX2.out);have PS := zH (rsign_any C8 R8 ⟨#[41]⟩);have K8 := zH ((HK2.out.trans hK7).trans (KQ.of_below B8));have T8 : Hid (TyAt (strike (· < w.heap.size + 1) w8) [.int .i64 t.kind, .string t.pkg, .int .i64 t.major, .string t.mod, .string t.name, .slice An t.names.length cA, .slice As t.subs.length cS] t) := zH (hT7.move (by omega) fun b hb hS => ⟨by omega, B8.block b hb⟩);have HW8 := zH hw8;have HO8 := zH O8;have HX8 := zH X8;have S8 := zH s8;have hb8 : w7.heap.size < w8.heap.size := by omega
  have hb8' : w.heap.size < w8.heap.size := by omega
  have hrs : r < w7.heap.size := hr7;have hws : w.heap.size < w7.heap.size := by omega
  clear hT7 hK7 R7 B8 hw8 O8 X8 C8 R8 HTY s8 HX2 HK2 HC2 hs7 hr7;go_upto_region 4 with fail
  rw [<- HW8.out];go_wp2_with fail
  refine PS.out.mono ?_; rintro e w9 ⟨rfl, R9, k9⟩
  have s9 := k9.size;have O9 : w9.heap[w7.heap.size]? = some (.cells #[.int .i64 t.kind, .string t.pkg, .int .i64 t.major, .string t.mod, .string t.name, .slice An t.names.length cA, .slice As t.subs.length cS] 48 (0, 0)) := (k9.blk (by omega) (by omega)).trans HO8.out;have X9 : Bx w.heap.size w9 := (k9.blk (by omega) (by omega)).trans HX8.out;obtain ⟨x0, x1, x2, x3, x4, x5, x6⟩ := cq7 O9;simp at x0 x1 x2 x3 x4 x5 x6;obtain ⟨w10, hw10⟩ : ∃ w10, w10 = w9.alloc (.cells #[.int .i64 t.kind, .string t.pkg, .int .i64 t.major, .string t.mod, .string t.name, .slice An t.names.length cA, .slice As t.subs.length cS] 48) := ⟨_, rfl⟩;have B10 : Below w9.heap.size w9 w10 := by rw [hw10]; exact below_new (Below.refl _ _) _
  have s10 : w10.heap.size = w9.heap.size + 1 := by rw [hw10]; simp
  have X10 : Bx w.heap.size w10 := (B10.block _ (by omega)).trans X9;have G10 : w10.heap[w9.heap.size]? = some (.cells #[.int .i64 t.kind, .string t.pkg, .int .i64 t.major, .string t.mod, .string t.name, .slice An t.names.length cA, .slice As t.subs.length cS] 48 (0, 0)) := by rw [hw10]; exact heap_alloc_new w9 _
  have hr9 := R9.lt;have T10 : TyAt (strike (· < w.heap.size + 1) w10) [.int .i64 t.kind, .string t.pkg, .int .i64 t.major, .string t.mod, .string t.name, .slice An t.names.length cA, .slice As t.subs.length cS] t := T8.out.move (by omega) fun b hb hS => ⟨hS, (B10.block b (by omega)).trans (k9.blk (by omega) (by omega))⟩
  have SEAL := zH (COut.seal (R := R) (Nat.le_refl _) X10 ((K8.out.trans k9).trans (KQ.of_below B10)) (TyAt.one 4 rfl T10 G10 (by omega)) (Nat.lt_succ_self _) hr (R9.below B10) hc2 ((list_res (HD.out ▸ hres.symm)).symm.trans HR.out.symm));have HW10 := zH hw10;clear PS O9 k9 R9 hw10 B10 G10 T10 T8 HO8 HW8 hres s10;unfold Bx at X10
  rw [HW10.out] at X10;go_wp2_with (first | ((with_reducible refine wpList_putRow 48 (w.heap.size) #[.int .i64 4, .string ⟨#[]⟩, .int .i64 0, .string ⟨#[]⟩, .string ⟨#[]⟩, .slice none 0 0, .slice (some ⟨w9.heap.size, 0, none⟩) 1 1] _ _ X10 ?_ ?_ ?_ ?_ ?_ ?_); exact tySize; rfl; exact tyOne; iterate 2 (focus (first | (go_simp; done) | rfl))))
  rw [<- HW10.out];exact ret_agg1 (fn := Tryz.f167) (vs := [.int .i64 4, .string ⟨#[]⟩, .int .i64 0, .string ⟨#[]⟩, .string ⟨#[]⟩, .slice none 0 0, .slice (some ⟨w9.heap.size, 0, none⟩) 1 1]) (b := w.heap.size) rfl rfl Tryz.underlying48 (by kernel_rfl) SEAL.out.1 rfl SEAL.out.2
theorem great_base {l : List UInt8} (h : greatB l = true) : baseT l = 0 := by
  unfold baseT
  split
  · rename_i e; subst e; exact absurd h (by decide)
  split
  · rename_i e; subst e; exact absurd h (by decide)
  split
  · rename_i e; subst e; exact absurd h (by decide)
  split
  · rename_i e; subst e; exact absurd h (by decide)
  rfl
theorem baseT_range (l : List UInt8) : baseT l = 0 \/ baseT l = 1 \/ baseT l = 2 \/ baseT l = 3 \/ baseT l = 4 := by
  unfold baseT
  repeat' split
  all_goals simp
def kindR (S : Toks) (f d i c : Nat) (k : Int) : Res Ty :=
  if k = 4 then listR S f d i c
  else if k = 5 then partsR S 5 [125] f d (i + 1) (c + 1)
  else if k = 6 then partsR S 6 [93] f d (i + 1) (c + 1)
  else if k = 7 then fnR S f d (i + 1) (c + 1)
  else if k = 8 then (if S.small i = true then pLocal S (S.T i) (i + 1) (c + 1) else if S.great i = false then .err 2 i else .ok (localT ⟨#[]⟩ (S.T i)) (i + 1) (c + 1))
  else if k = 9 then pOpen S (i + 1) (c + 1)
  else .ok (leafK k) (i + 1) (c + 1)
theorem begins_iff (S : Toks) {i : Nat} (hi : i < S.n) : S.begins i = decide (begunK (S.K i) (S.T i) ≠ 0) := by
  have hs : S.small i = smallK (S.K i) (S.T i) := by rw [<- small_k]; simp [hi]
  have hg : S.great i = greatK (S.K i) (S.T i) := by rw [<- great_k]; simp [hi]
  unfold Toks.begins begunK
  rw [hs, hg];by_cases h : smallK (S.K i) (S.T i) = true \/ greatK (S.K i) (S.T i) = true
  · rw [if_pos h]
    rcases h with h | h <;> simp [h, hi]
  · rw [if_neg h]
    have h1 : smallK (S.K i) (S.T i) = false := by cases e : smallK (S.K i) (S.T i) with | true => exact absurd (.inl e) h | false => rfl
    have h2 : greatK (S.K i) (S.T i) = false := by cases e : greatK (S.K i) (S.T i) with | true => exact absurd (.inr e) h | false => rfl
    rw [h1, h2];by_cases k2 : S.K i = 2
    · rw [if_pos k2]
      rcases baseT_range (S.T i).data.toList with e | e | e | e | e <;> simp [hi, k2, e]
    · rw [if_neg k2]
      by_cases k4 : S.K i = 4
      · rw [if_pos k4]
        unfold signK
        repeat' split
        all_goals simp_all
      · rw [if_neg k4]
        simp [k2, k4]
theorem rest_kind (S : Toks) {f d i c : Nat} (hi : i < S.n) (hb : S.begins i = true) : restR S f d i c = kindR S f d i c (begunK (S.K i) (S.T i)) := by
  have hs : S.small i = smallK (S.K i) (S.T i) := by rw [<- small_k]; simp [hi]
  have hg : S.great i = greatK (S.K i) (S.T i) := by rw [<- great_k]; simp [hi]
  rw [begins_iff S hi] at hb;unfold restR
  by_cases h1 : smallK (S.K i) (S.T i) = true
  · have e : begunK (S.K i) (S.T i) = 8 := if_pos (.inl h1)
    have k1 : S.K i = 1 := by unfold smallK at h1; simp at h1; exact h1.1
    rw [e, if_pos k1];unfold kindR
    rw [hs, h1];rfl
  by_cases h2 : greatK (S.K i) (S.T i) = true
  · have e : begunK (S.K i) (S.T i) = 8 := if_pos (.inr h2)
    have k2 : S.K i = 2 /\ greatB (S.T i).data.toList = true := by unfold greatK at h2; simpa using h2
    have hz := great_base k2.2;rw [e, if_neg (by rw [k2.1]; decide), if_pos k2.1, hz];unfold kindR
    rw [hs, hg, h2, show smallK (S.K i) (S.T i) = false by simpa using h1];rfl
  have e : begunK (S.K i) (S.T i) = if S.K i = 2 then baseT (S.T i).data.toList else if S.K i = 4 then signK (S.T i).data.toList else 0 := if_neg (fun x => x.elim h1 h2)
  rw [e] at hb ⊢;by_cases k2 : S.K i = 2
  · rw [if_pos k2] at hb ⊢
    rw [if_neg (by rw [k2]; decide), if_pos k2];rcases baseT_range (S.T i).data.toList with q | q | q | q | q
    · rw [q] at hb; simp at hb
    all_goals rw [q]; rfl
  · rw [if_neg k2] at hb ⊢
    by_cases k4 : S.K i = 4
    · rw [if_pos k4] at hb ⊢
      rw [if_neg (by rw [k4]; decide), if_neg k2];by_cases a1 : (S.T i).data.toList = [123]
      · rw [if_pos a1, a1]; rfl
      rw [if_neg a1];by_cases a2 : (S.T i).data.toList = [91]
      · rw [if_pos a2, a2]; rfl
      rw [if_neg a2];by_cases a3 : (S.T i).data.toList = [60]
      · rw [if_pos a3, a3]; rfl
      rw [if_neg a3];by_cases a4 : (S.T i).data.toList = [40]
      · rw [a4]; rfl
      · have : signK (S.T i).data.toList = 0 := by unfold signK; rw [if_neg a1, if_neg a2, if_neg a4, if_neg a3]
        rw [this] at hb; simp at hb
    · rw [if_neg k4] at hb; simp at hb
end Go.Proofs.YtddlmigofilejaaGreatDoor
