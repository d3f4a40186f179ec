/-
  Several texts in one.
-/
import Derived.Test.YteecgiebimdbhaaGreatDoorK21
open List (getElem_toArray getElem_cons_succ getElem_cons_zero set_cons_zero set_cons_succ setIfInBounds_toArray)
set_option maxRecDepth 100000
set_option maxHeartbeats 40000000
namespace Go.Proofs.YteecgiebimdbhaaGreatDoor
open Go.RowKit
open Go.Sort
open M
def LeafAt (S : Toks) (i : Nat) : Prop := i < S.n -> begunK (S.K i) (S.T i) <= 3
theorem cread_leaf {W : World} {cu r : Nat} {A : Option Addr} {S : Toks} {cn f : Nat} (he : CEnv W) (d n i c b : Nat) (w : World) (hc : RCtx W cu r A S w) (h : RSt cu r A S.n cn i c b w) (hc5 : c <= 500) (hd5 : d <= 1000000) (hn5 : n <= 1000000) (hne : b = 0 -> ∀ j, readR S (f + 1) d n i c ≠ .err 99 j)
  (GO : b = 0 -> LeafAt S i) :
  Calls Tryz.prog 155 #[.pointer (some ⟨r, 0, none⟩), .int .i64 d, .int .i64 n] w (COut w cu r A S.n cn (badR b i (readR S (f + 1) d n i c))) := by
 have hr := h.lt
 have hq0 := h.qlt
 have hbig := hc.cur.big
 obtain ⟨R, hR⟩ : ∃ R, badR b i (readR S (f + 1) d n i c) = R := ⟨_, rfl⟩
 rw [hR]
 obtain ⟨w0, hw0⟩ : ∃ w0, w0 = w.alloc (.cells #[.int .i64 0, .string ⟨#[]⟩, .int .i64 0, .string ⟨#[]⟩, .string ⟨#[]⟩, .slice none 0 0, .slice none 0 0] 55) := ⟨_, rfl⟩
 have B0 : Below w.heap.size w w0 := by rw [hw0]; exact below_new (Below.refl _ _) _
 have X0 : Bx w.heap.size w0 := by rw [hw0]; exact heap_alloc_new w _
 have hl0 : w.heap.size < w0.heap.size := (Array.getElem?_eq_some_iff.1 X0).1
 have hne0 : w.heap.size ≠ r /\ w.heap.size ≠ cu := ⟨Nat.ne_of_gt hr, Nat.ne_of_gt hq0⟩
 have C0 := hc.on (KQ.of_below B0)
 have h0 := h.below B0
 have NX := hZ (rnext_any C0 h0)
 have hts := tAt_size hc.cur b i
 have HC0 := hZ C0
 have H0 := hZ h0
 have p0 := h0.p
 have HX0 := hZ X0
 have HK0 := hZ (KQ.of_below (q := cu) (r := r) B0)
 have HR := hZ hR
 have HN := hZ hne
 have HE := hZ he
 have GO' := hZ GO
 have HW0 := hZ hw0
 clear h hc hR hne he GO hw0 B0 X0 C0 h0
 go_enter Tryz.func155, Tryz.ntmps155
 go_upto_region 1 with fail
 rw [<- HW0.out]
 go_wp2_with fail
 refine NX.out.mono ?_; rintro e w1 ⟨y, rfl, hb1⟩
 obtain ⟨k, hk⟩ : ∃ k, begunK (kAt S b i) (tAt S b i) = k := ⟨_, rfl⟩
 have BG := hZ (begun_any (kAt S b i) y (tAt S b i) w1 (by omega))
 rw [hk] at BG
 have HB1 := hZ hb1
 have HK := hZ hk
 generalize hkk : kAt S b i = kk at BG ⊢
 generalize htt : tAt S b i = tt at hts BG ⊢
 clear hkk htt hb1 NX hk hts
 go_wp2_with fail
 refine BG.out.mono ?_; rintro e w2 ⟨rfl, hb2⟩
 have B02 := below_over HB1.out hb2
 have h2 := H0.out.below B02
 have p2 := h2.p
 have C2 := HC0.out.on (KQ.of_below B02)
 have X2 : Bx w.heap.size w2 := (B02.block _ hl0).trans HX0.out
 have HK2 := hZ (HK0.out.trans (KQ.of_below B02))
 have hl2 := Nat.lt_of_lt_of_le hl0 B02.size
 have MU := hZ (fun q => rmust_any h2 q 2 (by decide))
 have HC2 := hZ C2
 have HX2 := hZ X2
 clear hb2 BG HB1 B02 h2 C2 X2 HX0 HK0 HC0 H0
 go_wp2_with fail
 refine (MU.out _).mono ?_; rintro e w3 ⟨rfl, h3, k3⟩
 have HKE := HK.out
 rw [<- HK.out] at h3
 have HQ := hZ (fun q hq => read_no (S := S) (f := f) (d := d) (n := n) (i := i) (c := c) (b := b) (q := q) hq)
 have HY := hZ (fun q hq => read_yes (S := S) (f := f) (d := d) (n := n) (i := i) (c := c) (b := b) (q := q) hq)
 obtain ⟨b1, hb1⟩ : ∃ b1, mustB b (begunK (kAt S b i) (tAt S b i) != 0) 2 = b1 := ⟨_, rfl⟩
 rw [hb1] at h3 HQ HY
 clear HKE hb1
 obtain ⟨x, r2, f2, hx, h4⟩ := h3.more hc5
 obtain ⟨z, hz⟩ : ∃ z, wrap64 (x + 1) = z := ⟨_, rfl⟩
 have hzc : b1 = 0 -> z = ((c + 1 : Nat) : Int) := fun e => by rw [<- hz, hx e]; unfold wrap64; omega
 rw [hz] at h4
 obtain ⟨w4, hw4⟩ : ∃ w4, w4 = w3.setCell ⟨r, 1, none⟩ (.int .i64 z) := ⟨_, rfl⟩
 rw [<- hw4] at h4
 have k4 : KQ cu r w2 w4 := by rw [hw4]; exact k3.put 1 _
 have C4 := HC2.out.on k4
 have X4 : Bx w.heap.size w4 := (k4.blk hl2 hne0).trans HX2.out
 have r4 : w4.cell? ⟨r, 1, none⟩ = some (.int .i64 z) := by
  rw [hw4]; exact World.cell?_setCell_same _ _ _ r2
 have HK4 := hZ (HK2.out.trans k4)
 have hl4 := Nat.lt_of_lt_of_le hl2 k4.size
 have MU' : Hid (∀ dq osq v, Calls Tryz.prog 106 #[.pointer (some ⟨cu, 0, none⟩), .bool v, .int .i64 3] (Sort.grow (redrawn w4 dq) osq) fun e w' => e = .returned (.tuple #[]) /\ RSt cu r A S.n cn i (c + 1) (mustB b1 v 3) w' /\ KQ cu r w4 w') :=
  hZ (fun dq osq v => (rmust_any (h4.below (below_regrown w4 dq osq)) v 3 (by decide)).mono fun _ _ ⟨he, h1, k1⟩ => ⟨he, h1, (KQ.of_below (below_regrown w4 dq osq)).trans k1⟩)
 have p4 := h4.p
 have HC4 := hZ C4
 have HX4 := hZ X4
 have HZ := hZ hzc
 have HW4 := hZ hw4
 have HZ0 := hZ hz
 clear h3 k3 k4 C4 X4 hzc hx hz hw4 h4 MU HC2 HX2 HK2
 go_upto_region 4 with fail
 rw [HZ0.out, <- HW4.out]
 clear r2 f2
 go_cut [7] (fun s7 wx => s7 = .int .i64 k /\ ∃ q, RSt cu r A S.n cn i (c + 1) (mustB b1 q 3) wx /\ KQ cu r w4 wx /\ (b1 = 0 -> q = (decide ((d : Int) <= 32) && (decide (((c + 1 : Nat) : Int) <= 500) && decide ((n : Int) <= 20)))))
 case first =>
  have HR4 := hZ r4;have ZZ : Hid (b1 = 0 -> (decide (z <= 500)) = decide (((c + 1 : Nat) : Int) <= 500)) := hZ (fun e => by rw [HZ.out e]);have P4 := cell_regrown p4;have R4 := cell_regrown r4;clear p0 p2 p4 r4;rcases hid_or (decide ((d : Int) <= 32)) with a1 | a1
  ·have y1 := a1.out
   refine wp_region_last (C := fun w' => ∃ p : Regrown, w' = Sort.grow (redrawn w4 p.d) p.os) (by kernel_rfl) rfl rfl (by kernel_rfl) (by intro cs b h; cases h) (by kernel_rfl) (by kernel_rfl) (by kernel_rfl) ⟨⟨w4.drawn + 1, #[]⟩, by rw [grow_empty]; rfl⟩ ?_;unfold tameLast
   simp only [List.dropLast, List.cons_append, List.nil_append];repeat (any_goals (first | go_big_quiet_step (fail) | quiet_step (fail)))
   refine wpQuiet_nil ?_;intro w' hw';obtain ⟨⟨dq, osq⟩, hw''⟩ := hw';subst hw'';refine ⟨106, #[.pointer (some ⟨cu, 0, none⟩), .bool false, .int .i64 3], by go_simp, ?_⟩;refine (MU'.out dq osq false).mono ?_;rintro e w5 ⟨rfl, h5, k5⟩;have FIN := hZ (⟨h5, k5, fun e => by rw [y1]; rfl⟩ : RSt cu r A S.n cn i (c + 1) (mustB b1 false 3) w5 /\ KQ cu r w4 w5 /\ (b1 = 0 -> false = (decide ((d : Int) <= 32) && (decide (((c + 1 : Nat) : Int) <= 500) && decide ((n : Int) <= 20)))));clear h5 k5;refine ⟨_, rfl, ?_⟩;go_wp2_with fail
   go_meet
   exact ⟨rfl, false, FIN.out⟩
  have y1 := a1.out;rcases hid_or (decide (z <= 500)) with a2 | a2
  ·have y2 := a2.out
   refine wp_region_last (C := fun w' => ∃ p : Regrown, w' = Sort.grow (redrawn w4 p.d) p.os) (by kernel_rfl) rfl rfl (by kernel_rfl) (by intro cs b h; cases h) (by kernel_rfl) (by kernel_rfl) (by kernel_rfl) ⟨⟨w4.drawn + 1, #[]⟩, by rw [grow_empty]; rfl⟩ ?_;unfold tameLast
   simp only [List.dropLast, List.cons_append, List.nil_append];repeat (any_goals (first | go_big_quiet_step (fail) | quiet_step (fail)))
   refine wpQuiet_nil ?_;intro w' hw';obtain ⟨⟨dq, osq⟩, hw''⟩ := hw';subst hw'';refine ⟨106, #[.pointer (some ⟨cu, 0, none⟩), .bool false, .int .i64 3], by go_simp, ?_⟩;refine (MU'.out dq osq false).mono ?_;rintro e w5 ⟨rfl, h5, k5⟩;have FIN := hZ (⟨h5, k5, fun e => by rw [y1, <- ZZ.out e, y2]; rfl⟩ : RSt cu r A S.n cn i (c + 1) (mustB b1 false 3) w5 /\ KQ cu r w4 w5 /\ (b1 = 0 -> false = (decide ((d : Int) <= 32) && (decide (((c + 1 : Nat) : Int) <= 500) && decide ((n : Int) <= 20)))));clear h5 k5;refine ⟨_, rfl, ?_⟩;go_wp2_with fail
   go_meet
   exact ⟨rfl, false, FIN.out⟩
  have y2 := a2.out;rcases hid_or (decide ((n : Int) <= 20)) with a3 | a3
  ·have y3 := a3.out
   refine wp_region_last (C := fun w' => ∃ p : Regrown, w' = Sort.grow (redrawn w4 p.d) p.os) (by kernel_rfl) rfl rfl (by kernel_rfl) (by intro cs b h; cases h) (by kernel_rfl) (by kernel_rfl) (by kernel_rfl) ⟨⟨w4.drawn + 1, #[]⟩, by rw [grow_empty]; rfl⟩ ?_;unfold tameLast
   simp only [List.dropLast, List.cons_append, List.nil_append];repeat (any_goals (first | go_big_quiet_step (fail) | quiet_step (fail)))
   refine wpQuiet_nil ?_;intro w' hw';obtain ⟨⟨dq, osq⟩, hw''⟩ := hw';subst hw'';refine ⟨106, #[.pointer (some ⟨cu, 0, none⟩), .bool false, .int .i64 3], by go_simp, ?_⟩;refine (MU'.out dq osq false).mono ?_;rintro e w5 ⟨rfl, h5, k5⟩;have FIN := hZ (⟨h5, k5, fun e => by rw [y1, <- ZZ.out e, y2, y3]; rfl⟩ : RSt cu r A S.n cn i (c + 1) (mustB b1 false 3) w5 /\ KQ cu r w4 w5 /\ (b1 = 0 -> false = (decide ((d : Int) <= 32) && (decide (((c + 1 : Nat) : Int) <= 500) && decide ((n : Int) <= 20)))));clear h5 k5;refine ⟨_, rfl, ?_⟩;go_wp2_with fail
   go_meet
   exact ⟨rfl, false, FIN.out⟩
  have y3 := a3.out;refine wp_region_last (C := fun w' => ∃ p : Regrown, w' = Sort.grow (redrawn w4 p.d) p.os) (by kernel_rfl) rfl rfl (by kernel_rfl) (by intro cs b h; cases h) (by kernel_rfl) (by kernel_rfl) (by kernel_rfl) ⟨⟨w4.drawn + 1, #[]⟩, by rw [grow_empty]; rfl⟩ ?_;unfold tameLast
  simp only [List.dropLast, List.cons_append, List.nil_append];repeat (any_goals (first | go_big_quiet_step (fail) | quiet_step (fail)))
  refine wpQuiet_nil ?_;intro w' hw';obtain ⟨⟨dq, osq⟩, hw''⟩ := hw';subst hw'';refine ⟨106, #[.pointer (some ⟨cu, 0, none⟩), .bool true, .int .i64 3], by go_simp, ?_⟩;refine (MU'.out dq osq true).mono ?_;rintro e w5 ⟨rfl, h5, k5⟩;have FIN := hZ (⟨h5, k5, fun e => by rw [y1, <- ZZ.out e, y2, y3]; rfl⟩ : RSt cu r A S.n cn i (c + 1) (mustB b1 true 3) w5 /\ KQ cu r w4 w5 /\ (b1 = 0 -> true = (decide ((d : Int) <= 32) && (decide (((c + 1 : Nat) : Int) <= 500) && decide ((n : Int) <= 20)))));clear h5 k5;refine ⟨_, rfl, ?_⟩;go_wp2_with fail
  go_meet
  exact ⟨rfl, true, FIN.out⟩
 case rest =>
  obtain ⟨rfl, q, h5, k5, hq⟩ := hcut;have C5 := HC4.out.on k5;have HX5 : Hid (Bx w.heap.size _) := hZ ((k5.blk hl4 hne0).trans HX4.out);have HK5 := hZ (HK4.out.trans k5);have hl5 := Nat.lt_of_lt_of_le hl4 k5.size;by_cases hb2 : mustB b1 q 3 = 0
  rotate_left
  ·have hres := HQ.out q hq hb2 noT 0
   have h5' := h5.any hb2 0
   have X5 := HX5.out;have CE := hZ (cerr_yes h5.cur hb2);have p5 := h5.p;have SEAL := hZ (COut.seal (R := R) (Nat.le_refl _) X5 HK5.out (TyAt.zero (strike (· < w.heap.size + 1) _)) (Nat.lt_succ_self _) hr h5' (by omega) (hres.trans HR.out));unfold Bx at X5
   clear h5 h5' hres C5 k5 hq HX5 HK5 MU' HC4 HX4 HK4 r4;go_wp2_with fail
   refine CE.out.mono ?_; rintro e w6 ⟨g, rfl, rfl, -⟩
   go_upto_region 6 with fail
   go_wp2_with (first | ((with_reducible refine wpList_putRow 55 (w.heap.size) #[.int .i64 0, .string ⟨#[]⟩, .int .i64 0, .string ⟨#[]⟩, .string ⟨#[]⟩, .slice none 0 0, .slice none 0 0] _ _ X5 ?_ ?_ ?_ ?_ ?_ ?_); exact tySize; rfl; exact tyOne; iterate 2 (focus (first | (go_simp; done) | rfl))))
   exact ret_agg1 (fn := Tryz.f155) (vs := [.int .i64 0, .string ⟨#[]⟩, .int .i64 0, .string ⟨#[]⟩, .string ⟨#[]⟩, .slice none 0 0, .slice none 0 0]) (b := w.heap.size) rfl rfl Tryz.underlying55 (by kernel_rfl) SEAL.out.1 rfl SEAL.out.2
  rw [hb2] at h5;obtain ⟨rfl, hi, hbg, hd32, hc500, hn20, hrk⟩ := HY.out q hq hb2
  have HG3 : Hid (k <= 3) := hZ (by
   have := GO'.out rfl hi
   have e1 : kAt S 0 i = S.K i := if_pos ⟨rfl, hi⟩;have e2 : tAt S 0 i = S.T i := if_pos ⟨rfl, hi⟩;rw [<- HK.out, e1, e2]; exact this)
  clear GO';have HRK : Hid (R = kindR S f d i c k) := hZ (by rw [<- HR.out, hrk, HK.out]);have HNE : Hid (∀ j, R ≠ .err 99 j) := hZ (fun j e => HN.out rfl j (by rw [<- e, <- HR.out, badR_0]));have HI := hZ hi;have HL := hZ (⟨hd32, hc500, hn20⟩ : d <= 32 /\ c + 1 <= 500 /\ n <= 20);have H5 := hZ h5;have HC5 := hZ C5;have hd1 : d <= 32 := hd32;have CE := hZ (cerr_no h5.cur);have p5 := h5.p
  have hnz : Hid (k ≠ 0) := hZ (by
   rw [begins_iff S hi] at hbg;have e1 : kAt S 0 i = S.K i := if_pos ⟨rfl, hi⟩;have e2 : tAt S 0 i = S.T i := if_pos ⟨rfl, hi⟩;rw [<- HK.out, e1, e2]; simpa using hbg)
  clear h5 C5 k5 hq hb2 hrk hbg hi hc500 hn20 hd32 MU' HC4 HX4 HK4 r4 HQ HY HN HR;go_wp2_with fail
  refine CE.out.mono ?_; rintro e w6 ⟨rfl, rfl⟩
  clear CE;have v4 : (k == 4) = false := by have := HG3.out; simp; omega
  have v5 : (k == 5) = false := by have := HG3.out; simp; omega
  have v6 : (k == 6) = false := by have := HG3.out; simp; omega
  have v7 : (k == 7) = false := by have := HG3.out; simp; omega
  have v8 : (k == 8) = false := by have := HG3.out; simp; omega
  have v9 : (k == 9) = false := by have := HG3.out; simp; omega
  have hkr : kindR S f d i c k = .ok (leafK k) (i + 1) (c + 1) := by
   unfold kindR
   simp only [beq_eq_false_iff_ne, ne_eq] at v4 v5 v6 v7 v8 v9;rw [if_neg v4, if_neg v5, if_neg v6, if_neg v7, if_neg v8, if_neg v9]
  have PA := hZ (rpass_any HC5.out H5.out HI.out);go_upto_region 20 with fail
  go_wp2_with fail
  refine PA.out.mono ?_; rintro e w6 ⟨rfl, h6, k6⟩
  have X6 : Bx w.heap.size w6 := (k6.blk hl5 hne0).trans HX5.out;have SEAL := hZ (COut.seal (R := R) (Nat.le_refl _) X6 (HK5.out.trans k6) (TyAt.leaf (strike (· < w.heap.size + 1) w6) k ⟨#[]⟩ 0 ⟨#[]⟩ ⟨#[]⟩ (by decide) (by decide) (by decide)) (Nat.lt_succ_self _) hr h6 HL.out.2.1 (by rw [HRK.out, hkr]; rfl));unfold Bx at X6
  clear hkr h6 k6 HX5 HK5 PA;go_upto_region 21 with fail
  go_wp2_with (first | ((with_reducible refine wpList_putRow 55 (w.heap.size) #[.int .i64 k, .string ⟨#[]⟩, .int .i64 0, .string ⟨#[]⟩, .string ⟨#[]⟩, .slice none 0 0, .slice none 0 0] _ _ X6 ?_ ?_ ?_ ?_ ?_ ?_); exact tySize; rfl; exact tyOne; iterate 2 (focus (first | (go_simp; done) | rfl))))
  exact ret_agg1 (fn := Tryz.f155) (vs := [.int .i64 k, .string ⟨#[]⟩, .int .i64 0, .string ⟨#[]⟩, .string ⟨#[]⟩, .slice none 0 0, .slice none 0 0]) (b := w.heap.size) rfl rfl Tryz.underlying55 (by kernel_rfl) SEAL.out.1 rfl SEAL.out.2
theorem cat_of {A : Option Addr} {S : Toks} {cn : Nat} {w : World} (hT : TokAt w A S) (he : CEnv w) (hbig : S.n <= 9223372036854775806) (hsm : ∀ i, i < S.n -> (S.T i).size <= 281474976710656) (i : Nat) (hi : i <= S.n) (hL : LeafAt S i) :
  Calls Tryz.prog 114 #[.slice A S.n cn, .int .i64 i] w (AtOut w S i) := by
 obtain ⟨w0, hw0⟩ : ∃ w0, w0 = w.alloc (.cells #[.int .i64 0, .string ⟨#[]⟩, .int .i64 0, .string ⟨#[]⟩, .string ⟨#[]⟩, .slice none 0 0, .slice none 0 0] 55) := ⟨_, rfl⟩
 have B0 : Below w.heap.size w w0 := by rw [hw0]; exact below_new (Below.refl _ _) _
 have X0 : Bx w.heap.size w0 := by rw [hw0]; exact heap_alloc_new w _
 have s0 : w0.heap.size = w.heap.size + 1 := by rw [hw0]; simp
 have NW := hZ (new_any A S.n cn i w0)
 obtain ⟨w1, hw1⟩ : ∃ w1, w1 = w0.alloc (.cells #[.slice A S.n cn, .int .i64 i, .nilIface] 114) := ⟨_, rfl⟩
 have B1 : Below w0.heap.size w0 w1 := by rw [hw1]; exact below_new (Below.refl _ _) _
 have G1 : w1.heap[w0.heap.size]? = some (.cells #[.slice A S.n cn, .int .i64 i, .nilIface] 114 (0, 0)) := by rw [hw1]; exact heap_alloc_new w0 _
 have s1 : w1.heap.size = w0.heap.size + 1 := by rw [hw1]; simp
 obtain ⟨w2, hw2⟩ : ∃ w2, w2 = w1.alloc (.cells #[.pointer (some ⟨w0.heap.size, 0, none⟩), .int .i64 0] 213) := ⟨_, rfl⟩
 have B2 : Below w1.heap.size w1 w2 := by rw [hw2]; exact below_new (Below.refl _ _) _
 have G2 : w2.heap[w1.heap.size]? = some (.cells #[.pointer (some ⟨w0.heap.size, 0, none⟩), .int .i64 0] 213 (0, 0)) := by rw [hw2]; exact heap_alloc_new w1 _
 have s2 : w2.heap.size = w1.heap.size + 1 := by rw [hw2]; simp
 have G12 : w2.heap[w0.heap.size]? = some (.cells #[.slice A S.n cn, .int .i64 i, .nilIface] 114 (0, 0)) := (B2.block _ (by omega)).trans G1
 have B02 : Below w.heap.size w w2 := below_over (below_over B0 B1) B2
 have R2 : RSt w0.heap.size w1.heap.size A S.n cn i 0 0 w2 := ⟨.inl ⟨rfl, G12⟩, 0, fun _ => rfl, G2⟩
 have C2 : RCtx w w0.heap.size w1.heap.size A S w2 := ⟨⟨hT, B02, by omega, hbig, hsm⟩, by omega⟩
 have RE := cread_leaf (f := 2 * S.n + 2) (cu := w0.heap.size) (r := w1.heap.size) (A := A) (S := S) (cn := cn) he 1 1 i 0 0 w2 C2 R2 (by omega) (by omega) (by omega) (fun _ j => by rw [readR_one]; exact atR_far S i j) (fun _ => hL)
 clear hL
 rw [badR_0, readR_one] at RE
 have HRE : Hid (Calls Tryz.prog 155 #[.pointer (some ⟨w1.heap.size, 0, none⟩), .int .i64 1, .int .i64 1] w2 (COut w2 w0.heap.size w1.heap.size A S.n cn (atR S i))) := hZ RE
 have HX2 : Hid (Bx w.heap.size w2) := hZ ((B2.block _ (by omega)).trans ((B1.block _ (by omega)).trans X0))
 have HB02 := hZ B02
 have SS := hZ (⟨s0, s1, s2⟩ : w0.heap.size = w.heap.size + 1 /\ w1.heap.size = w0.heap.size + 1 /\ w2.heap.size = w1.heap.size + 1)
 have HW0 := hZ hw0
 have HW1 := hZ hw1
 have HW2 := hZ hw2
 have hi0 : ¬ (i : Int) < 0 := by omega
 have hi1 : ¬ S.n < i := by omega
 clear hT he hsm hi hw0 hw1 hw2 B0 B1 B2 X0 G1 G2 G12 B02 R2 C2 RE s0 s1 s2
 go_enter Tryz.func114, Tryz.ntmps114
 go_upto_region 1 with fail
 rw [<- HW0.out]
 go_upto_region 3 with fail
 clear hi0 hi1
 go_wp2_with fail
 refine NW.out.mono ?_
 rintro e wz ⟨rfl, rfl⟩
 rw [<- HW1.out]
 go_upto_region 4 with fail
 rw [<- HW2.out]
 go_wp2_with fail
 refine HRE.out.mono ?_
 rintro e w3 ⟨l, t, i3, c3, b3, rfl, hT3, k3, h3, hc3, hres⟩
 obtain ⟨An, cA, As, cS, rfl, -⟩ := hT3.parts
 have ss := SS.out
 have hs3 := k3.size
 obtain ⟨w4, hw4⟩ : ∃ w4, w4 = w3.alloc (.cells #[.int .i64 t.kind, .string t.pkg, .int .i64 t.major, .string t.mod, .string t.name, .slice An t.names.length cA, .slice As t.subs.length cS] 55) := ⟨_, rfl⟩
 have B4 : Below w3.heap.size w3 w4 := by rw [hw4]; exact below_new (Below.refl _ _) _
 have O4 : w4.heap[w3.heap.size]? = some (.cells #[.int .i64 t.kind, .string t.pkg, .int .i64 t.major, .string t.mod, .string t.name, .slice An t.names.length cA, .slice As t.subs.length cS] 55 (0, 0)) := by rw [hw4]; exact heap_alloc_new w3 _
 have h4 := h3.below B4
 have p4 := h4.p
 have X4 : Bx w.heap.size w4 := (B4.block _ (by omega)).trans ((k3.blk (by omega) ⟨by omega, by omega⟩).trans HX2.out)
 have k24 := k3.trans (KQ.of_below (q := w0.heap.size) (r := w1.heap.size) B4)
 have B24 : Below w.heap.size w w4 := HB02.out.trans (k24.below (by omega) (by omega) (by omega))
 have T4 : TyAt (strike (· < w.heap.size + 1) w4) [.int .i64 t.kind, .string t.pkg, .int .i64 t.major, .string t.mod, .string t.name, .slice An t.names.length cA, .slice As t.subs.length cS] t := hT3.move (by have := B4.size; omega) fun b hb hS => ⟨by omega, B4.block b hb⟩
 have HW4 := hZ hw4
 have HT4 := hZ T4
 have HB24 := hZ B24
 have H4 := hZ h4
 have HX4 := hZ X4
 have HO4 := hZ O4
 have HRS := hZ hres
 clear hT3 k3 h3 hres B4 O4 h4 X4 k24 B24 T4 hw4 ss hs3 HRE HX2 HB02 SS NW
 go_upto_region 5 with fail
 rw [<- HW4.out]
 by_cases hb : b3 = 0
 ·subst hb
  have CE := hZ (cerr_no H4.out.cur);have hok : atR S i = .ok t i3 c3 := by rw [<- HRS.out]; rfl
  have O4 := HO4.out;obtain ⟨x0, x1, x2, x3, x4, x5, x6⟩ := cq7 O4;simp at x0 x1 x2 x3 x4 x5 x6;have X4 := HX4.out
  have FIN : Hid (AtOut w S i (.returned (.tuple #[.agg #[.int .i64 t.kind, .string t.pkg, .int .i64 t.major, .string t.mod, .string t.name, .slice An t.names.length cA, .slice As t.subs.length cS], .int .i64 i3, .nilIface])) (w4.drew.setRow w.heap.size #[.int .i64 t.kind, .string t.pkg, .int .i64 t.major, .string t.mod, .string t.name, .slice An t.names.length cA, .slice As t.subs.length cS])) := hZ
   ⟨setRow_below ((HB24.out).trans (Below.drew (Below.refl _ _))) (Nat.le_refl _) _, .inl ⟨[.int .i64 t.kind, .string t.pkg, .int .i64 t.major, .string t.mod, .string t.name, .slice An t.names.length cA, .slice As t.subs.length cS], t, i3, c3, hok, rfl, HT4.out.move (by simp) fun b hb hS => ⟨fun e => hS (Nat.lt_succ_of_lt e), (setRow_other w4.drew w.heap.size b _ (fun e => by subst e; exact hS (Nat.lt_succ_self _))).trans rfl⟩⟩⟩
  have CA := hZ (cat_any (H4.out.cur.below (w' := w4.drew) (Below.drew (Below.refl _ _))));have HXD : Hid (Bx w.heap.size w4.drew) := hZ X4;clear hok O4 X4;go_wp2_with fail
  refine CE.out.mono ?_; rintro e w5 ⟨rfl, rfl⟩
  go_upto_region 8 with fail
  refine AnyX.start (fun wx => wx.cell? ⟨w1.heap.size, 0, none⟩ = some (.pointer (some ⟨w0.heap.size, 0, none⟩)) /\ wx.cell? ⟨w3.heap.size, 0, none⟩ = some (.int .i64 t.kind) /\ wx.cell? ⟨w3.heap.size, 1, none⟩ = some (.string t.pkg) /\ wx.cell? ⟨w3.heap.size, 2, none⟩ = some (.int .i64 t.major) /\ wx.cell? ⟨w3.heap.size, 3, none⟩ = some (.string t.mod) /\ wx.cell? ⟨w3.heap.size, 4, none⟩ = some (.string t.name) /\ wx.cell? ⟨w3.heap.size, 5, none⟩ = some (.slice An t.names.length cA) /\ wx.cell? ⟨w3.heap.size, 6, none⟩ = some (.slice As t.subs.length cS)) (fun k => k == 4) (by kernel_rfl) ?_;have hH0 : w4.drew.cell? ⟨w3.heap.size, 0, none⟩ = some (.int .i64 t.kind) /\ w4.drew.cell? ⟨w3.heap.size, 1, none⟩ = some (.string t.pkg) /\ w4.drew.cell? ⟨w3.heap.size, 2, none⟩ = some (.int .i64 t.major) /\ w4.drew.cell? ⟨w3.heap.size, 3, none⟩ = some (.string t.mod) /\ w4.drew.cell? ⟨w3.heap.size, 4, none⟩ = some (.string t.name) /\ w4.drew.cell? ⟨w3.heap.size, 5, none⟩ = some (.slice An t.names.length cA) /\ w4.drew.cell? ⟨w3.heap.size, 6, none⟩ = some (.slice As t.subs.length cS) := ⟨x0, x1, x2, x3, x4, x5, x6⟩;have hH1 : w4.drew.cell? ⟨w1.heap.size, 0, none⟩ = some (.pointer (some ⟨w0.heap.size, 0, none⟩)) := p4;refine AnyX.tk (i := 0) (v := ?_) rfl (fun _ _ _ h => h) ⟨hH1, hH0⟩ (Or.inl ⟨by rfl, ?_⟩) ?_;rotate_left
  ·(intro wS hS; (try obtain ⟨hS0, hS1, hS2, hS3, hS4, hS5, hS6, hS7⟩ := hS); go_simp; try with_reducible rfl)
  simp only [getElem_toArray, getElem_cons_succ, getElem_cons_zero];simp only [Act.put, setIfInBounds_toArray, set_cons_zero, set_cons_succ];refine AnyX.mv (i := 1) (v := ?_) rfl (fun _ _ _ h => h) (Or.inl ⟨by rfl, ?_⟩) ?_;rotate_left
  ·(intro wS _; go_simp; try with_reducible rfl)
  simp only [getElem_toArray, getElem_cons_succ, getElem_cons_zero];simp only [Act.put, setIfInBounds_toArray, set_cons_zero, set_cons_succ];refine AnyX.tk (i := 2) (v := ?_) rfl (fun _ _ _ h => h) ⟨hH1, hH0⟩ (Or.inl ⟨by rfl, ?_⟩) ?_;rotate_left
  ·(intro wS hS; (try obtain ⟨hS0, hS1, hS2, hS3, hS4, hS5, hS6, hS7⟩ := hS); go_simp; try with_reducible rfl)
  simp only [getElem_toArray, getElem_cons_succ, getElem_cons_zero];simp only [Act.put, setIfInBounds_toArray, set_cons_zero, set_cons_succ];refine AnyX.go 3 (by kernel_rfl) rfl rfl (fun K hK => ?_);simp only [getElem_toArray, getElem_cons_succ, getElem_cons_zero];go_simp
  refine (CA.out).mono ?_;rintro e w5 ⟨rfl, rfl⟩;simp only [];refine hK.out _ _ (fun hoff _ => ⟨hH1, hH0⟩) ?_;clear hK;(try simp only [Act.put, setIfInBounds_toArray, set_cons_zero, set_cons_succ]);refine AnyX.go 4 (by kernel_rfl) rfl rfl (fun K hK => ?_);simp only [getElem_toArray, getElem_cons_succ, getElem_cons_zero];refine wp_store_row 55 (.tmp 4) (.tmp 36) rfl w.heap.size #[.int .i64 t.kind, .string t.pkg, .int .i64 t.major, .string t.mod, .string t.name, .slice An t.names.length cA, .slice As t.subs.length cS] rfl rfl _ _ HXD.out tySize rfl tyOne ?_;refine hK.out _ _ (fun hoff _ => absurd hoff (by decide)) ?_;clear hK;(try simp only [Act.put, setIfInBounds_toArray, set_cons_zero, set_cons_succ]);refine AnyX.mv (i := 5) (v := ?_) rfl (fun _ _ _ h => h) (Or.inl ⟨by rfl, ?_⟩) ?_;rotate_left
  ·(intro wS _; go_simp; try with_reducible rfl)
  simp only [getElem_toArray, getElem_cons_succ, getElem_cons_zero];simp only [Act.put, setIfInBounds_toArray, set_cons_zero, set_cons_succ];refine AnyX.mv (i := 6) (v := ?_) rfl (fun _ _ _ h => h) (Or.inl ⟨by rfl, ?_⟩) ?_;rotate_left
  ·(intro wS _; go_simp; try with_reducible rfl)
  simp only [getElem_toArray, getElem_cons_succ, getElem_cons_zero];simp only [Act.put, setIfInBounds_toArray, set_cons_zero, set_cons_succ];refine AnyX.done (by kernel_rfl) ?_ _;go_wp2_with fail
  exact ret_agg3 (fn := Tryz.f114) (vs := [.int .i64 t.kind, .string t.pkg, .int .i64 t.major, .string t.mod, .string t.name, .slice An t.names.length cA, .slice As t.subs.length cS]) (b := w.heap.size) rfl rfl rfl rfl Tryz.underlying55 (by kernel_rfl) (cell7 (setRow_heap w4.drew w.heap.size _ _ _ _ HXD.out)) rfl FIN.out
 ·have CE := hZ (cerr_yes H4.out.cur hb)
  have herr : atR S i = .err b3 i3 := by rw [<- HRS.out]; exact badR_ne _ _ hb
  have X4 := HX4.out
  have FIN : Hid (∀ g, w4.heap[g]? = some (.cells #[.int .i64 i3, .iface 32 (.int .i64 b3)] 94 (0, 0)) -> AtOut w S i (.returned (.tuple #[.agg #[.int .i64 0, .string ⟨#[]⟩, .int .i64 0, .string ⟨#[]⟩, .string ⟨#[]⟩, .slice none 0 0, .slice none 0 0], .int .i64 0, .iface 89 (.pointer (some ⟨g, 0, none⟩))])) (w4.setRow w.heap.size #[.int .i64 0, .string ⟨#[]⟩, .int .i64 0, .string ⟨#[]⟩, .string ⟨#[]⟩, .slice none 0 0, .slice none 0 0])) := hZ (fun g hg =>
   ⟨setRow_below HB24.out (Nat.le_refl _) _, .inr ⟨b3, i3, g, herr, hb, rfl, (setRow_other w4 w.heap.size g _ (fun e => by
    subst e;exact absurd hg (by rw [HX4.out]; simp))).trans hg⟩⟩)
  clear herr;go_wp2_with fail
  refine CE.out.mono ?_; rintro e w5 ⟨g, rfl, rfl, hg⟩
  have HFG := hZ (FIN.out g hg);unfold Bx at X4
  clear hg FIN CE;go_upto_region 7 with fail
  go_wp2_with (first | ((with_reducible refine wpList_putRow 55 (w.heap.size) #[.int .i64 0, .string ⟨#[]⟩, .int .i64 0, .string ⟨#[]⟩, .string ⟨#[]⟩, .slice none 0 0, .slice none 0 0] _ _ X4 ?_ ?_ ?_ ?_ ?_ ?_); exact tySize; rfl; exact tyOne; iterate 2 (focus (first | (go_simp; done) | rfl))))
  exact ret_agg3 (fn := Tryz.f114) (vs := [.int .i64 0, .string ⟨#[]⟩, .int .i64 0, .string ⟨#[]⟩, .string ⟨#[]⟩, .slice none 0 0, .slice none 0 0]) (b := w.heap.size) rfl rfl rfl rfl Tryz.underlying55 (by kernel_rfl) (cell7 (setRow_heap w4 w.heap.size _ _ _ _ HX4.out)) rfl HFG.out
end Go.Proofs.YteecgiebimdbhaaGreatDoor
