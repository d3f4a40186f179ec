/-
  Several texts in one: The reference's Import, of modules. · The reference's declaration.
-/
import Derived.Test.YtbknmokamcjgpaaGreatDoorJ34
/- The reference's Import, of modules. -/
namespace Go.Proofs.YtbknmokamcjgpaaGreatDoor
open Go.RowKit
open Go.Sort
open M

theorem okW_small (S : Toks) (i : Nat) : okW S i 1 (fun s => smallB s.data.toList) = (decide (i < S.n) && smallK (S.K i) (S.T i)) := rfl
theorem okW_great (S : Toks) (i : Nat) : okW S i 2 (fun s => greatB s.data.toList) = (decide (i < S.n) && greatK (S.K i) (S.T i)) := rfl
theorem okW_key (S : Toks) (i : Nat) (l : ByteArray) : okW S i 1 (fun s => s.data.toList == l.data.toList) = keyS S i l.data.toList := by unfold okW keyS; rw [Bool.and_assoc]
theorem okW_sign (S : Toks) (i : Nat) (l : ByteArray) : okW S i 4 (fun s => s.data.toList == l.data.toList) = S.sign i l.data.toList := by unfold okW Toks.sign; rw [Bool.and_assoc]
theorem nameOut_ps {S : Toks} {q : Bool} {i b : Nat} {s : ByteArray} {i' b' : Nat} (h : NameOut S q i b s i' b') : i' = psI b q i ∧ b' = psB b q := by
  rcases h with ⟨rfl, rfl, rfl, rfl, rfl⟩ | ⟨rfl, rfl, rfl, rfl⟩ | ⟨hb, rfl, rfl⟩
  · exact ⟨rfl, rfl⟩
  · exact ⟨rfl, rfl⟩
  · rw [psI_bad _ _ hb, psB_bad _ hb]; exact ⟨rfl, rfl⟩

/-- An import's box. -/
def Ix (d : Nat) (p : ByteArray) (m : Int) (q a : ByteArray) (w : World) : Prop := w.heap[d]? = some (.cells #[.string p, .int .i64 m, .string q, .string a] 97 (0, 0))
/-- What Import leaves. -/
def RiOut (w : World) (r : Nat) (A : Option Addr) (n cn : Nat) (R : Res Im) (e : Ending) (w' : World) : Prop :=
  ∃ (x : Im) (i' b' : Nat), e = .returned (.agg #[.string x.pkg, .int .i64 x.major, .string x.mod, .string x.asn]) ∧ x.pkg.size ≤ 9223372036854775807 ∧ x.mod.size ≤ 9223372036854775807 ∧ x.asn.size ≤ 9223372036854775807 ∧ Kp r w w' ∧ Rm r A n cn i' b' w' ∧ badR b' i' (.ok x i' 0) = R
theorem Rm.up {r : Nat} {A : Option Addr} {n cn i b : Nat} {w : World} (h : Rm r A n cn i b w) : Rm r A n cn (i + 1) b (w.setCell ⟨r, 1, none⟩ (.int .i64 ((i : Int) + 1))) := by have := h.at (i + 1); simpa using this

set_option maxRecDepth 100000 in
set_option maxHeartbeats 4000000 in
theorem rimp6_any {W : World} {r : Nat} {A : Option Addr} {S : Toks} {cn i : Nat} {w : World} (hc : RdCtx W r A S w) (h : Rm r A S.n cn i 0 w) (hi : i < S.n) :
    Calls Tryz.prog 53 #[.pointer (some ⟨r, 0, none⟩)] w (RiOut w r A S.n cn (impR S (i + 1))) := by
  have hr := h.lt
  have hbig := hc.big
  obtain ⟨w0, hw0⟩ : ∃ w0, w0 = w.alloc (.cells #[.string ⟨#[]⟩, .int .i64 0, .string ⟨#[]⟩, .string ⟨#[]⟩] 97) := ⟨_, rfl⟩
  have B0 : Below w.heap.size w w0 := by rw [hw0]; exact below_new (Below.refl _ _) _
  have s0 : w0.heap.size = w.heap.size + 1 := by rw [hw0]; simp
  have X0 : w0.heap[w.heap.size]? = some (.cells #[.string ⟨#[]⟩, .int .i64 0, .string ⟨#[]⟩, .string ⟨#[]⟩] 97 (0, 0)) := by rw [hw0]; exact heap_alloc_new w _
  have h0 := h.on B0
  have c1 := h0.c1
  have f1 := h0.f 1
  obtain ⟨w1, hw1⟩ : ∃ w1, w1 = w0.setCell ⟨r, 1, none⟩ (.int .i64 ((i : Int) + 1)) := ⟨_, rfl⟩
  have h1 : Rm r A S.n cn (i + 1) 0 w1 := by rw [hw1]; exact h0.up
  have s1 : w1.heap.size = w0.heap.size := by rw [hw1]; simp
  have X1 := (show w1.heap[w.heap.size]? = w0.heap[w.heap.size]? by rw [hw1]; exact Below.heap_setCell _ _ _ _ (by show w.heap.size ≠ r; omega)).trans X0
  have K1 : Kp r w w1 := by rw [hw1]; exact (Kp.of_below B0).put 1 _
  obtain ⟨w2, hw2⟩ : ∃ w2, w2 = w1.alloc (.cells #[.string ⟨#[]⟩, .int .i64 0, .string ⟨#[]⟩, .string ⟨#[]⟩] 97) := ⟨_, rfl⟩
  have B2 : Below w1.heap.size w1 w2 := by rw [hw2]; exact below_new (Below.refl _ _) _
  have s2 : w2.heap.size = w1.heap.size + 1 := by rw [hw2]; simp
  have Y2 : Ix w1.heap.size ⟨#[]⟩ 0 ⟨#[]⟩ ⟨#[]⟩ w2 := by rw [hw2]; exact heap_alloc_new w1 _
  have X2 := (B2.block w.heap.size (by omega)).trans X1
  have K2 := K1.trans (Kp.of_below B2)
  have H2 := Lib.hid (h1.on B2)
  have HC := Lib.hid hc
  have HW0 := Lib.hid hw0
  have HW1 := Lib.hid hw1
  have HW2 := Lib.hid hw2
  have HY2 := Lib.hid Y2
  have HX2 := Lib.hid X2
  have HK2 := Lib.hid K2
  have hd1 : w.heap.size < w1.heap.size := by omega
  have hd2 : w1.heap.size < w2.heap.size := by omega
  clear hc h hw0 hw1 hw2 B0 B2 X0 X1 Y2 X2 K1 K2 h0 h1 s0 s1 s2
  generalize hdd : w1.heap.size = d at hd1 hd2 HY2
  go_enter Tryz.func53, Tryz.ntmps53
  go_upto_region 1 with fail
  rw [← HW0.out]
  go_upto_region 2 with fail
  rw [← HW1.out]
  clear c1 f1
  go_upto_region 3 with fail
  rw [← HW2.out]
  clear HW0 HW1 HW2 hdd
  have C2 := HC.out.on HK2.out hr
  have CL := Lib.hid (rwS_any  C2 H2.out 1)
  clear C2
  go_wp2_with fail
  refine CL.out.mono ?_; rintro e w3 ⟨s0, i1, b1, rfl, z0, h3, k3, hN⟩
  have hs3 := k3.size
  have Y3 : Ix d ⟨#[]⟩ 0 ⟨#[]⟩ ⟨#[]⟩ w3 := (k3.blk (by omega) (by omega)).trans HY2.out
  have X3 := (k3.blk (by omega) (by omega)).trans HX2.out
  have K3 := HK2.out.trans k3
  obtain ⟨w4, hw4⟩ : ∃ w4, w4 = w3.setCell ⟨d, 0, none⟩ (.string s0) := ⟨_, rfl⟩
  have Y4 : Ix d s0 0 ⟨#[]⟩ ⟨#[]⟩ w4 := by have h2 := Joins.block_setCell (i := 0) Y3 (.string s0); rw [hw4]; simpa [Ix] using h2
  have o4 : ∀ b, b ≠ d → w4.heap[b]? = w3.heap[b]? := fun b hb => by rw [hw4]; exact Below.heap_setCell _ _ _ _ (by show b ≠ d; exact hb)
  have t4 : w4.heap.size = w3.heap.size := by rw [hw4]; simp
  have HX4 := Lib.hid ((o4 w.heap.size (by omega)).trans X3)
  have HK4 : Hid (Kp r w w4) := Lib.hid (by rw [hw4]; exact K3.putNew _ (by show w.heap.size ≤ d; omega) _)
  have H4 := Lib.hid (h3.other (o4 r (by omega)))
  have HY4 := Lib.hid Y4
  have ff := Lib.frozen_of_heap Y3 0
  have mm := Lib.cell_of_heap Y3 0
  simp at mm
  have HW4 := Lib.hid hw4
  have hd4 : d < w4.heap.size := by omega
  have HN0 := Lib.hid hN
  clear CL Y3 Y4 X3 K3 h3 k3 hN HY2 HX2 HK2 H2 hw4 o4 t4 hd2 hs3
  go_upto_region 4 with fail
  rw [← HW4.out]
  clear mm ff HW4
  have C4 := HC.out.on HK4.out hr
  have CL := Lib.hid (rmaj6_any  C4 H4.out)
  clear C4
  go_wp2_with fail
  refine CL.out.mono ?_; rintro e w5 ⟨v1, i2, b2, rfl, h5, k5, hN⟩
  have hs5 := k5.size
  have Y5 : Ix d s0 0 ⟨#[]⟩ ⟨#[]⟩ w5 := (k5.blk (by omega) (by omega)).trans HY4.out
  have X5 := (k5.blk (by omega) (by omega)).trans HX4.out
  have K5 := HK4.out.trans k5
  obtain ⟨w6, hw6⟩ : ∃ w6, w6 = w5.setCell ⟨d, 1, none⟩ (.int .i64 v1) := ⟨_, rfl⟩
  have Y6 : Ix d s0 v1 ⟨#[]⟩ ⟨#[]⟩ w6 := by have h2 := Joins.block_setCell (i := 1) Y5 (.int .i64 v1); rw [hw6]; simpa [Ix] using h2
  have o6 : ∀ b, b ≠ d → w6.heap[b]? = w5.heap[b]? := fun b hb => by rw [hw6]; exact Below.heap_setCell _ _ _ _ (by show b ≠ d; exact hb)
  have t6 : w6.heap.size = w5.heap.size := by rw [hw6]; simp
  have HX6 := Lib.hid ((o6 w.heap.size (by omega)).trans X5)
  have HK6 : Hid (Kp r w w6) := Lib.hid (by rw [hw6]; exact K5.putNew _ (by show w.heap.size ≤ d; omega) _)
  have H6 := Lib.hid (h5.other (o6 r (by omega)))
  have HY6 := Lib.hid Y6
  have ff := Lib.frozen_of_heap Y5 1
  have mm := Lib.cell_of_heap Y5 1
  simp at mm
  have HW6 := Lib.hid hw6
  have hd6 : d < w6.heap.size := by omega
  have HN1 := Lib.hid hN
  clear CL Y5 Y6 X5 K5 h5 k5 hN HY4 HX4 HK4 H4 hw6 o6 t6 hd4 hs5
  go_upto_region 5 with fail
  rw [← HW6.out]
  clear mm ff HW6
  have C6 := HC.out.on HK6.out hr
  have CL := Lib.hid (rwS_any  C6 H6.out 1)
  clear C6
  go_wp2_with fail
  refine CL.out.mono ?_; rintro e w7 ⟨s2, i3, b3, rfl, z2, h7, k7, hN⟩
  have hs7 := k7.size
  have Y7 : Ix d s0 v1 ⟨#[]⟩ ⟨#[]⟩ w7 := (k7.blk (by omega) (by omega)).trans HY6.out
  have X7 := (k7.blk (by omega) (by omega)).trans HX6.out
  have K7 := HK6.out.trans k7
  obtain ⟨w8, hw8⟩ : ∃ w8, w8 = w7.setCell ⟨d, 2, none⟩ (.string s2) := ⟨_, rfl⟩
  have Y8 : Ix d s0 v1 s2 ⟨#[]⟩ w8 := by have h2 := Joins.block_setCell (i := 2) Y7 (.string s2); rw [hw8]; simpa [Ix] using h2
  have o8 : ∀ b, b ≠ d → w8.heap[b]? = w7.heap[b]? := fun b hb => by rw [hw8]; exact Below.heap_setCell _ _ _ _ (by show b ≠ d; exact hb)
  have t8 : w8.heap.size = w7.heap.size := by rw [hw8]; simp
  have HX8 := Lib.hid ((o8 w.heap.size (by omega)).trans X7)
  have HK8 : Hid (Kp r w w8) := Lib.hid (by rw [hw8]; exact K7.putNew _ (by show w.heap.size ≤ d; omega) _)
  have H8 := Lib.hid (h7.other (o8 r (by omega)))
  have HY8 := Lib.hid Y8
  have ff := Lib.frozen_of_heap Y7 2
  have mm := Lib.cell_of_heap Y7 2
  simp at mm
  have HW8 := Lib.hid hw8
  have hd8 : d < w8.heap.size := by omega
  have HN2 := Lib.hid hN
  clear CL Y7 Y8 X7 K7 h7 k7 hN HY6 HX6 HK6 H6 hw8 o8 t8 hd6 hs7
  go_upto_region 6 with fail
  rw [← HW8.out]
  clear mm ff HW8
  have C8 := HC.out.on HK8.out hr
  have CL := Lib.hid (rwK_any C8 H8.out 1 ⟨#[97, 115]⟩)
  clear C8
  go_wp2_with fail
  refine CL.out.mono ?_; rintro e w9 ⟨s4, i4, b4, rfl, z4, h9, k9, hN⟩
  have hs9 := k9.size
  have Y9 : Ix d s0 v1 s2 ⟨#[]⟩ w9 := (k9.blk (by omega) (by omega)).trans HY8.out
  have X9 := (k9.blk (by omega) (by omega)).trans HX8.out
  have K9 := HK8.out.trans k9
  have hd9 : d < w9.heap.size := by omega
  have HY9 := Lib.hid Y9
  have HX9 := Lib.hid X9
  have HK9 := Lib.hid K9
  have H9 := Lib.hid h9
  have HNk := Lib.hid hN
  clear CL Y9 X9 K9 h9 k9 hN HY8 HX8 HK8 H8 hd8 hs9
  have C9 := HC.out.on HK9.out hr
  have CL := Lib.hid (rwS_any  C9 H9.out 1)
  clear C9
  go_wp2_with fail
  refine CL.out.mono ?_; rintro e w10 ⟨s3, i5, b5, rfl, z3, h10, k10, hN⟩
  have hs10 := k10.size
  have Y10 : Ix d s0 v1 s2 ⟨#[]⟩ w10 := (k10.blk (by omega) (by omega)).trans HY9.out
  have X10 := (k10.blk (by omega) (by omega)).trans HX9.out
  have K10 := HK9.out.trans k10
  obtain ⟨w11, hw11⟩ : ∃ w11, w11 = w10.setCell ⟨d, 3, none⟩ (.string s3) := ⟨_, rfl⟩
  have Y11 : Ix d s0 v1 s2 s3 w11 := by have h2 := Joins.block_setCell (i := 3) Y10 (.string s3); rw [hw11]; simpa [Ix] using h2
  have o11 : ∀ b, b ≠ d → w11.heap[b]? = w10.heap[b]? := fun b hb => by rw [hw11]; exact Below.heap_setCell _ _ _ _ (by show b ≠ d; exact hb)
  have t11 : w11.heap.size = w10.heap.size := by rw [hw11]; simp
  have HX11 := Lib.hid ((o11 w.heap.size (by omega)).trans X10)
  have HK11 : Hid (Kp r w w11) := Lib.hid (by rw [hw11]; exact K10.putNew _ (by show w.heap.size ≤ d; omega) _)
  have H11 := Lib.hid (h10.other (o11 r (by omega)))
  have HY11 := Lib.hid Y11
  have ff := Lib.frozen_of_heap Y10 3
  have mm := Lib.cell_of_heap Y10 3
  simp at mm
  have HW11 := Lib.hid hw11
  have hd11 : d < w11.heap.size := by omega
  have HN3 := Lib.hid hN
  clear CL Y10 Y11 X10 K10 h10 k10 hN HY9 HX9 HK9 H9 hw11 o11 t11 hd9 hs10
  go_upto_region 8 with fail
  rw [← HW11.out]
  clear mm ff HW11
  have FIN : badR b5 i5 (.ok (⟨s0, v1, s2, s3⟩ : Im) i5 0) = impR S (i + 1) := by
    have a1 := HN0.out
    have a3 := HN2.out
    have a4 := nameOut_ps HNk.out
    have a5 := HN3.out
    rw [okW_small] at a1 a3 a5
    rw [show (okW S i3 1 fun s => s.data.toList == [97, 115]) = keyS S i3 kAs from okW_key S i3 ⟨#[97, 115]⟩] at a4
    rw [a4.1, a4.2] at a5
    have := imp_chain a1 HN1.out a3 a5
    rwa [badR_0] at this
  have SEAL : Hid (RiOut w r A S.n cn (impR S (i + 1)) (.returned (.agg #[.string s0, .int .i64 v1, .string s2, .string s3])) (w11.setRow w.heap.size #[.string s0, .int .i64 v1, .string s2, .string s3])) := Lib.hid (by
    have K := HK11.out
    exact ⟨⟨s0, v1, s2, s3⟩, i5, b5, rfl, z0, z2, z3, ⟨K.os, K.tape, K.output, by have := K.size; simpa using this, fun k hk hne => (setRow_other w11 w.heap.size k _ (by omega)).trans (K.block k hk hne)⟩, H11.out.other (setRow_other w11 w.heap.size r _ (by omega)), FIN⟩)
  have Y := HY11.out
  have X := HX11.out
  have x0 := Lib.cell_of_heap Y 0
  have x1 := Lib.cell_of_heap Y 1
  have x2 := Lib.cell_of_heap Y 2
  have x3 := Lib.cell_of_heap Y 3
  simp at x0 x1 x2 x3
  clear Y FIN HN0 HN1 HN2 HN3 HNk HY11 HK11 H11
  go_wp2_with (first | ((with_reducible refine wpList_putRow 97 (w.heap.size) #[.string s0, .int .i64 v1, .string s2, .string s3] _ _ X ?_ ?_ ?_ ?_ ?_ ?_); exact impSize; rfl; exact impOne; (focus (first | (go_simp; done) | rfl)); (focus (first | (go_simp; done) | rfl))))
  exact ret_agg1 (fn := Tryz.f53) (vs := [.string s0, .int .i64 v1, .string s2, .string s3]) (b := w.heap.size) rfl rfl Tryz.underlying97 (by kernel_rfl) (cell4 (setRow_heap _ w.heap.size _ _ _ _ HX11.out)) rfl SEAL.out
end Go.Proofs.YtbknmokamcjgpaaGreatDoor

/- The reference's declaration. -/
namespace Go.Proofs.YtbknmokamcjgpaaGreatDoor
open Go.RowKit
open Go.Sort
open M

/-- What reading a declaration leaves. -/
def RdeOut (w : World) (r : Nat) (A : Option Addr) (n cn : Nat) (R : Res De) (e : Ending) (w' : World) : Prop :=
  ∃ (l : List Value) (x : De) (i' b' : Nat), e = .returned (.agg (#[.int .i64 x.kind, .string x.name] ++ l.toArray)) ∧ x.name.size ≤ 9223372036854775807 ∧ TyAt (strike (· < w.heap.size) w') l x.typ ∧ Kp r w w' ∧ Rm r A n cn i' b' w' ∧ badR b' i' (.ok x i' 0) = R
theorem RdeOut.fin {w w' : World} {r : Nat} {A : Option Addr} {n cn i b : Nat} {R : Res De} {k : Int} {s : ByteArray} {t : Ty} {v0 v1 v2 v3 v4 v5 v6 : Value}
    (hs : s.size ≤ 9223372036854775807) (hT : TyAt (strike (· < w.heap.size + 1) w') [v0, v1, v2, v3, v4, v5, v6] t) (hk : Kp r w w') (hr : r < w.heap.size) (hc : Rm r A n cn i b w') (hR : badR b i (.ok (⟨k, s, t⟩ : De) i 0) = R) :
    RdeOut w r A n cn R (.returned (.agg #[.int .i64 k, .string s, v0, v1, v2, v3, v4, v5, v6])) (w'.setRow w.heap.size #[.int .i64 k, .string s, v0, v1, v2, v3, v4, v5, v6]) :=
  ⟨[v0, v1, v2, v3, v4, v5, v6], ⟨k, s, t⟩, i, b, rfl, hs, hT.move (by simp) fun b hb hS => ⟨fun e => hS (Nat.lt_succ_of_lt e), setRow_other w' w.heap.size b _ (fun e => by subst e; exact hS (Nat.lt_succ_self _))⟩,
    ⟨hk.os, hk.tape, hk.output, by have := hk.size; simpa using this, fun j hj hne => (setRow_other w' w.heap.size j _ (by omega)).trans (hk.block j hj hne)⟩,
    hc.other (setRow_other w' w.heap.size r _ (by omega)), hR⟩
theorem Dx.kinded {d : Nat} {k k' : Int} {s : ByteArray} {v0 v1 v2 v3 v4 v5 v6 : Value} {w : World} (h : Dx d k s [v0, v1, v2, v3, v4, v5, v6] w) : Dx d k' s [v0, v1, v2, v3, v4, v5, v6] (w.setCell ⟨d, 0, none⟩ (.int .i64 k')) := by
  have h0 := Joins.block_setCell (i := 0) h (.int .i64 k')
  simpa [Dx] using h0
theorem declK_cases {l : List UInt8} (h : declK l ≠ 0) : (l = [111, 112, 97, 113, 117, 101] ∧ declK l = 1) ∨ (l = [104, 105, 100, 100, 101, 110] ∧ declK l = 2) ∨ (l = [97, 108, 105, 97, 115] ∧ declK l = 3) ∨ (l = [118, 97, 108] ∧ declK l = 4) := by
  unfold declK at h ⊢
  split at h
  · exact .inl ⟨by assumption, if_pos (by assumption)⟩
  split at h
  · rename_i h1 h2; subst h2; exact .inr (.inl ⟨rfl, by decide⟩)
  split at h
  · rename_i h1 h2 h3; subst h3; exact .inr (.inr (.inl ⟨rfl, by decide⟩))
  split at h
  · rename_i h1 h2 h3 h4; subst h4; exact .inr (.inr (.inr ⟨rfl, by decide⟩))
  · exact absurd rfl h

set_option maxRecDepth 100000 in
set_option maxHeartbeats 4000000 in
theorem rdecl6_any {W : World} {r : Nat} {A : Option Addr} {S : Toks} {cn i : Nat} {w : World} (hc : RdCtx W r A S w) (h : Rm r A S.n cn i 0 w) (hi : i < S.n) (hD : declK (S.T i).data.toList ≠ 0) :
    Calls Tryz.prog 55 #[.pointer (some ⟨r, 0, none⟩)] w (RdeOut w r A S.n cn (decR S (declK (S.T i).data.toList) (i + 1))) := by
  have hr := h.lt
  have hbig := hc.big
  obtain ⟨R0, hR0⟩ : ∃ R0, decR S (declK (S.T i).data.toList) (i + 1) = R0 := ⟨_, rfl⟩
  rw [hR0]
  have HR0 := Lib.hid hR0
  clear hR0
  obtain ⟨g, o, y, rfl, hg, k0w, k1w, k2w, hz⟩ := hc.toks i hi
  have k2 : w.cell? ⟨g, o + i * 3 + 2, none⟩ = some (.string (S.T i)) := (hc.below.cell (p := ⟨g, _, none⟩) hg).trans k2w
  have hgw : g < w.heap.size := Nat.lt_of_lt_of_le hg hc.below.size
  clear k0w k1w k2w
  obtain ⟨w0, hw0⟩ : ∃ w0, w0 = w.alloc (.cells #[.int .i64 0, .string ⟨#[]⟩, .int .i64 0, .string ⟨#[]⟩, .int .i64 0, .string ⟨#[]⟩, .string ⟨#[]⟩, .slice none 0 0, .slice none 0 0] 84) := ⟨_, rfl⟩
  have B0 : Below w.heap.size w w0 := by rw [hw0]; exact below_new (Below.refl _ _) _
  have X0 : w0.heap[w.heap.size]? = some (.cells #[.int .i64 0, .string ⟨#[]⟩, .int .i64 0, .string ⟨#[]⟩, .int .i64 0, .string ⟨#[]⟩, .string ⟨#[]⟩, .slice none 0 0, .slice none 0 0] 84 (0, 0)) := by rw [hw0]; exact heap_alloc_new w _
  have s0 : w0.heap.size = w.heap.size + 1 := by rw [hw0]; simp
  have h0 := h.on B0
  have c0 := h0.c0
  have c1 := h0.c1
  have q2 : w0.cell? ⟨g, o + i * 3 + 2, none⟩ = some (.string (S.T i)) := (B0.cell (p := ⟨g, _, none⟩) hgw).trans k2
  have HB0 := Lib.hid B0
  have HX0 := Lib.hid X0
  have HC := Lib.hid hc
  have HH0 := Lib.hid h0
  have HW0 := Lib.hid hw0
  have SS := Lib.hid s0
  have E := Lib.hid (show (S.T i).toList = (S.T i).data.toList from Lib.toList_data (S.T i))
  have HD := Lib.hid hD
  clear hc h hw0 B0 X0 s0 k2 h0 hD
  go_enter Tryz.func55, Tryz.ntmps55
  go_upto_region 1 with fail
  rw [← HW0.out]
  go_quiet (fail)
  obtain ⟨w1, hw1⟩ : ∃ w1, w1 = w0.drewN nq := ⟨_, rfl⟩
  have B1 : Below w0.heap.size w0 w1 := by rw [hw1]; exact below_drewN (Below.refl _ _) _
  rw [← hw1]
  have ss := SS.out
  have hs1 := B1.size
  have h1 := HH0.out.on B1
  have X1 := (B1.block w.heap.size (by omega)).trans HX0.out
  have c1 := h1.c1
  have f1 := h1.f 1
  obtain ⟨w2, hw2⟩ : ∃ w2, w2 = w1.setCell ⟨r, 1, none⟩ (.int .i64 ((i : Int) + 1)) := ⟨_, rfl⟩
  have h2 : Rm r (some ⟨g, o, none⟩) S.n cn (i + 1) 0 w2 := by rw [hw2]; exact h1.up
  have s2 : w2.heap.size = w1.heap.size := by rw [hw2]; simp
  have X2 := (show w2.heap[w.heap.size]? = w1.heap[w.heap.size]? by rw [hw2]; exact Below.heap_setCell _ _ _ _ (by show w.heap.size ≠ r; omega)).trans X1
  have K2 : Kp r w w2 := by rw [hw2]; exact (Kp.of_below (below_over HB0.out B1)).put 1 _
  obtain ⟨w3, hw3⟩ : ∃ w3, w3 = w2.alloc (.cells #[.int .i64 0, .string ⟨#[]⟩, .int .i64 0, .string ⟨#[]⟩, .int .i64 0, .string ⟨#[]⟩, .string ⟨#[]⟩, .slice none 0 0, .slice none 0 0] 84) := ⟨_, rfl⟩
  have B3 : Below w2.heap.size w2 w3 := by rw [hw3]; exact below_new (Below.refl _ _) _
  have s3 : w3.heap.size = w2.heap.size + 1 := by rw [hw3]; simp
  have HY3 : Hid (Dx w2.heap.size 0 ⟨#[]⟩ [.int .i64 0, .string ⟨#[]⟩, .int .i64 0, .string ⟨#[]⟩, .string ⟨#[]⟩, .slice none 0 0, .slice none 0 0] w3) := Lib.hid (by rw [hw3]; exact heap_alloc_new w2 _)
  have HX3 := Lib.hid ((B3.block w.heap.size (by omega)).trans X2)
  have HK3 := Lib.hid (K2.trans (Kp.of_below B3))
  have H3 := Lib.hid (h2.on B3)
  have HW2 := Lib.hid hw2
  have HW3 := Lib.hid hw3
  have hd1 : w.heap.size < w2.heap.size := by omega
  have hd3 : w2.heap.size < w3.heap.size := by omega
  clear hw1 B1 ss hs1 h1 X1 hw2 h2 s2 X2 K2 hw3 B3 s3 c0 q2 HB0 HX0 HH0 HW0 SS
  generalize hdd : w2.heap.size = d at hd1 hd3 HY3
  go_upto_region 3 with fail
  rw [← HW2.out]
  clear c1 f1
  go_upto_region 4 with fail
  rw [← HW3.out]
  clear HW2 HW3 hdd
  obtain ⟨T, hT⟩ : ∃ T, S.T i = T := ⟨_, rfl⟩
  rw [hT] at E HD HR0 ⊢
  clear hT hz
  rcases declK_cases HD.out with ⟨hl, hk⟩ | ⟨hl, hk⟩ | ⟨hl, hk⟩ | ⟨hl, hk⟩
  · have HRk : Hid (decR S 1 (i + 1) = R0) := Lib.hid (by rw [← HR0.out, hk])
    clear HR0
    have et := E.out
    rw [hl] at et
    have q0 : (T.toList == [111, 112, 97, 113, 117, 101]) = true := by rw [et]; decide
    have q1 : (T.toList == [104, 105, 100, 100, 101, 110]) = false := by rw [et]; decide
    have q2 : (T.toList == [97, 108, 105, 97, 115]) = false := by rw [et]; decide
    clear et hl hk
    obtain ⟨w4, hw4⟩ : ∃ w4, w4 = w3.setCell ⟨d, 0, none⟩ (.int .i64 1) := ⟨_, rfl⟩
    have Y4 : Dx d 1 ⟨#[]⟩ [.int .i64 0, .string ⟨#[]⟩, .int .i64 0, .string ⟨#[]⟩, .string ⟨#[]⟩, .slice none 0 0, .slice none 0 0] w4 := by rw [hw4]; exact HY3.out.kinded
    have o4 : ∀ b, b ≠ d → w4.heap[b]? = w3.heap[b]? := fun b hb => by rw [hw4]; exact Below.heap_setCell _ _ _ _ (by show b ≠ d; exact hb)
    have s4 : w4.heap.size = w3.heap.size := by rw [hw4]; simp
    have X4 := (o4 w.heap.size (by omega)).trans HX3.out
    have K4 : Kp r w w4 := by rw [hw4]; exact HK3.out.putNew _ (by show w.heap.size ≤ d; omega) _
    have h4 := H3.out.other (o4 r (by omega))
    have ff := Lib.frozen_of_heap HY3.out 0
    have mm := Lib.cell_of_heap HY3.out 0
    simp at mm
    have WD := Lib.hid (rwG_any (HC.out.on K4 hr) h4 2)
    have HW4 := Lib.hid hw4
    have HY4 := Lib.hid Y4
    have HX4 := Lib.hid X4
    have HK4 := Lib.hid K4
    have hd4 : d < w4.heap.size := by omega
    clear hw4 Y4 o4 s4 X4 K4 h4 HY3 HX3 HK3 H3 E HD
    go_upto_region 11 with fail
    rw [← HW4.out]
    clear mm ff HW4 q0 q1 q2
    go_wp2_with fail
    refine WD.out.mono ?_; rintro e w6 ⟨s, i6, b6, rfl, z6, h6, k6, hN⟩
    have Y6 : Dx d 1 ⟨#[]⟩ [.int .i64 0, .string ⟨#[]⟩, .int .i64 0, .string ⟨#[]⟩, .string ⟨#[]⟩, .slice none 0 0, .slice none 0 0] w6 := (k6.blk hd4 (by omega)).trans HY4.out
    have X6 := (k6.blk (by omega) (by omega)).trans HX4.out
    have hs6 := k6.size
    obtain ⟨w7, hw7⟩ : ∃ w7, w7 = w6.setCell ⟨d, 1, none⟩ (.string s) := ⟨_, rfl⟩
    have Y7 : Dx d 1 s [.int .i64 0, .string ⟨#[]⟩, .int .i64 0, .string ⟨#[]⟩, .string ⟨#[]⟩, .slice none 0 0, .slice none 0 0] w7 := by rw [hw7]; exact Y6.named
    have o7 : ∀ b, b ≠ d → w7.heap[b]? = w6.heap[b]? := fun b hb => by rw [hw7]; exact Below.heap_setCell _ _ _ _ (by show b ≠ d; exact hb)
    have s7 : w7.heap.size = w6.heap.size := by rw [hw7]; simp
    have X7 := (o7 w.heap.size (by omega)).trans X6
    have K7 : Kp r w w7 := by rw [hw7]; exact (HK4.out.trans k6).putNew _ (by show w.heap.size ≤ d; omega) _
    have h7 := h6.other (o7 r (by omega))
    have ff := Lib.frozen_of_heap Y6 1
    have mm := Lib.cell_of_heap Y6 1
    simp at mm
    have HW7 := Lib.hid hw7
    have HY7 := Lib.hid Y7
    have HX7 := Lib.hid X7
    have HK7 := Lib.hid K7
    have H7 := Lib.hid h7
    have HN := Lib.hid hN
    have hd7 : d < w7.heap.size := by omega
    have SEAL := Lib.hid (RdeOut.fin (R := R0) (k := 1) (s := s) z6 (TyAt.zero _) K7 hr h7 (by have a := HN.out; rw [okW_great] at a; have := dec_name (k := 1) (by decide) a; rwa [badR_0, HRk.out] at this))
    clear WD hw7 Y6 X6 Y7 X7 o7 s7 K7 h7 h6 k6 hN hs6 HY4 HX4 HK4 hd4
    go_upto_region 20 with fail
    rw [← HW7.out]
    clear mm ff
    have Y := HY7.out
    have X := HX7.out
    have x0 := Lib.cell_of_heap Y 0
    have x1 := Lib.cell_of_heap Y 1
    have x2 := Lib.cell_of_heap Y 2
    have x3 := Lib.cell_of_heap Y 3
    have x4 := Lib.cell_of_heap Y 4
    have x5 := Lib.cell_of_heap Y 5
    have x6 := Lib.cell_of_heap Y 6
    have x7 := Lib.cell_of_heap Y 7
    have x8 := Lib.cell_of_heap Y 8
    simp at x0 x1 x2 x3 x4 x5 x6 x7 x8
    clear Y HY7 HK7 H7 HN
    go_wp2_with (first | ((with_reducible refine wpList_putRow 84 (w.heap.size) #[.int .i64 1, .string s, .int .i64 0, .string ⟨#[]⟩, .int .i64 0, .string ⟨#[]⟩, .string ⟨#[]⟩, .slice none 0 0, .slice none 0 0] _ _ X ?_ ?_ ?_ ?_ ?_ ?_); exact decSize; rfl; exact decOne; (focus (first | (go_simp; done) | rfl)); (focus (first | (go_simp; done) | rfl))))
    exact ret_agg1 (fn := Tryz.f55) (vs := [.int .i64 1, .string s, .int .i64 0, .string ⟨#[]⟩, .int .i64 0, .string ⟨#[]⟩, .string ⟨#[]⟩, .slice none 0 0, .slice none 0 0]) (b := w.heap.size) rfl rfl Tryz.underlying84 (by kernel_rfl) (cell9 (setRow_heap _ w.heap.size _ _ _ _ HX7.out)) rfl SEAL.out
  · have HRk : Hid (decR S 2 (i + 1) = R0) := Lib.hid (by rw [← HR0.out, hk])
    clear HR0
    have et := E.out
    rw [hl] at et
    have q0 : (T.toList == [111, 112, 97, 113, 117, 101]) = false := by rw [et]; decide
    have q1 : (T.toList == [104, 105, 100, 100, 101, 110]) = true := by rw [et]; decide
    have q2 : (T.toList == [97, 108, 105, 97, 115]) = false := by rw [et]; decide
    clear et hl hk
    obtain ⟨w4, hw4⟩ : ∃ w4, w4 = w3.setCell ⟨d, 0, none⟩ (.int .i64 2) := ⟨_, rfl⟩
    have Y4 : Dx d 2 ⟨#[]⟩ [.int .i64 0, .string ⟨#[]⟩, .int .i64 0, .string ⟨#[]⟩, .string ⟨#[]⟩, .slice none 0 0, .slice none 0 0] w4 := by rw [hw4]; exact HY3.out.kinded
    have o4 : ∀ b, b ≠ d → w4.heap[b]? = w3.heap[b]? := fun b hb => by rw [hw4]; exact Below.heap_setCell _ _ _ _ (by show b ≠ d; exact hb)
    have s4 : w4.heap.size = w3.heap.size := by rw [hw4]; simp
    have X4 := (o4 w.heap.size (by omega)).trans HX3.out
    have K4 : Kp r w w4 := by rw [hw4]; exact HK3.out.putNew _ (by show w.heap.size ≤ d; omega) _
    have h4 := H3.out.other (o4 r (by omega))
    have ff := Lib.frozen_of_heap HY3.out 0
    have mm := Lib.cell_of_heap HY3.out 0
    simp at mm
    have WD := Lib.hid (rwG_any (HC.out.on K4 hr) h4 2)
    have HW4 := Lib.hid hw4
    have HY4 := Lib.hid Y4
    have HX4 := Lib.hid X4
    have HK4 := Lib.hid K4
    have hd4 : d < w4.heap.size := by omega
    clear hw4 Y4 o4 s4 X4 K4 h4 HY3 HX3 HK3 H3 E HD
    go_upto_region 14 with fail
    rw [← HW4.out]
    clear mm ff HW4 q0 q1 q2
    go_wp2_with fail
    refine WD.out.mono ?_; rintro e w6 ⟨s, i6, b6, rfl, z6, h6, k6, hN⟩
    have Y6 : Dx d 2 ⟨#[]⟩ [.int .i64 0, .string ⟨#[]⟩, .int .i64 0, .string ⟨#[]⟩, .string ⟨#[]⟩, .slice none 0 0, .slice none 0 0] w6 := (k6.blk hd4 (by omega)).trans HY4.out
    have X6 := (k6.blk (by omega) (by omega)).trans HX4.out
    have hs6 := k6.size
    obtain ⟨w7, hw7⟩ : ∃ w7, w7 = w6.setCell ⟨d, 1, none⟩ (.string s) := ⟨_, rfl⟩
    have Y7 : Dx d 2 s [.int .i64 0, .string ⟨#[]⟩, .int .i64 0, .string ⟨#[]⟩, .string ⟨#[]⟩, .slice none 0 0, .slice none 0 0] w7 := by rw [hw7]; exact Y6.named
    have o7 : ∀ b, b ≠ d → w7.heap[b]? = w6.heap[b]? := fun b hb => by rw [hw7]; exact Below.heap_setCell _ _ _ _ (by show b ≠ d; exact hb)
    have s7 : w7.heap.size = w6.heap.size := by rw [hw7]; simp
    have X7 := (o7 w.heap.size (by omega)).trans X6
    have K7 : Kp r w w7 := by rw [hw7]; exact (HK4.out.trans k6).putNew _ (by show w.heap.size ≤ d; omega) _
    have h7 := h6.other (o7 r (by omega))
    have ff := Lib.frozen_of_heap Y6 1
    have mm := Lib.cell_of_heap Y6 1
    simp at mm
    have HW7 := Lib.hid hw7
    have HY7 := Lib.hid Y7
    have HX7 := Lib.hid X7
    have HK7 := Lib.hid K7
    have H7 := Lib.hid h7
    have HN := Lib.hid hN
    have hd7 : d < w7.heap.size := by omega
    have SEAL := Lib.hid (RdeOut.fin (R := R0) (k := 2) (s := s) z6 (TyAt.zero _) K7 hr h7 (by have a := HN.out; rw [okW_great] at a; have := dec_name (k := 2) (by decide) a; rwa [badR_0, HRk.out] at this))
    clear WD hw7 Y6 X6 Y7 X7 o7 s7 K7 h7 h6 k6 hN hs6 HY4 HX4 HK4 hd4
    go_upto_region 20 with fail
    rw [← HW7.out]
    clear mm ff
    have Y := HY7.out
    have X := HX7.out
    have x0 := Lib.cell_of_heap Y 0
    have x1 := Lib.cell_of_heap Y 1
    have x2 := Lib.cell_of_heap Y 2
    have x3 := Lib.cell_of_heap Y 3
    have x4 := Lib.cell_of_heap Y 4
    have x5 := Lib.cell_of_heap Y 5
    have x6 := Lib.cell_of_heap Y 6
    have x7 := Lib.cell_of_heap Y 7
    have x8 := Lib.cell_of_heap Y 8
    simp at x0 x1 x2 x3 x4 x5 x6 x7 x8
    clear Y HY7 HK7 H7 HN
    go_wp2_with (first | ((with_reducible refine wpList_putRow 84 (w.heap.size) #[.int .i64 2, .string s, .int .i64 0, .string ⟨#[]⟩, .int .i64 0, .string ⟨#[]⟩, .string ⟨#[]⟩, .slice none 0 0, .slice none 0 0] _ _ X ?_ ?_ ?_ ?_ ?_ ?_); exact decSize; rfl; exact decOne; (focus (first | (go_simp; done) | rfl)); (focus (first | (go_simp; done) | rfl))))
    exact ret_agg1 (fn := Tryz.f55) (vs := [.int .i64 2, .string s, .int .i64 0, .string ⟨#[]⟩, .int .i64 0, .string ⟨#[]⟩, .string ⟨#[]⟩, .slice none 0 0, .slice none 0 0]) (b := w.heap.size) rfl rfl Tryz.underlying84 (by kernel_rfl) (cell9 (setRow_heap _ w.heap.size _ _ _ _ HX7.out)) rfl SEAL.out
  · have HRk : Hid (decR S 3 (i + 1) = R0) := Lib.hid (by rw [← HR0.out, hk])
    clear HR0
    have et := E.out
    rw [hl] at et
    have q0 : (T.toList == [111, 112, 97, 113, 117, 101]) = false := by rw [et]; decide
    have q1 : (T.toList == [104, 105, 100, 100, 101, 110]) = false := by rw [et]; decide
    have q2 : (T.toList == [97, 108, 105, 97, 115]) = true := by rw [et]; decide
    clear et hl hk
    obtain ⟨w4, hw4⟩ : ∃ w4, w4 = w3.setCell ⟨d, 0, none⟩ (.int .i64 3) := ⟨_, rfl⟩
    have Y4 : Dx d 3 ⟨#[]⟩ [.int .i64 0, .string ⟨#[]⟩, .int .i64 0, .string ⟨#[]⟩, .string ⟨#[]⟩, .slice none 0 0, .slice none 0 0] w4 := by rw [hw4]; exact HY3.out.kinded
    have o4 : ∀ b, b ≠ d → w4.heap[b]? = w3.heap[b]? := fun b hb => by rw [hw4]; exact Below.heap_setCell _ _ _ _ (by show b ≠ d; exact hb)
    have s4 : w4.heap.size = w3.heap.size := by rw [hw4]; simp
    have X4 := (o4 w.heap.size (by omega)).trans HX3.out
    have K4 : Kp r w w4 := by rw [hw4]; exact HK3.out.putNew _ (by show w.heap.size ≤ d; omega) _
    have h4 := H3.out.other (o4 r (by omega))
    have ff := Lib.frozen_of_heap HY3.out 0
    have mm := Lib.cell_of_heap HY3.out 0
    simp at mm
    have WD := Lib.hid (rwG_any (HC.out.on K4 hr) h4 2)
    have HW4 := Lib.hid hw4
    have HY4 := Lib.hid Y4
    have HX4 := Lib.hid X4
    have HK4 := Lib.hid K4
    have hd4 : d < w4.heap.size := by omega
    clear hw4 Y4 o4 s4 X4 K4 h4 HY3 HX3 HK3 H3 E HD
    go_upto_region 17 with fail
    rw [← HW4.out]
    clear mm ff HW4 q0 q1 q2
    go_wp2_with fail
    refine WD.out.mono ?_; rintro e w6 ⟨s, i6, b6, rfl, z6, h6, k6, hN⟩
    have Y6 : Dx d 3 ⟨#[]⟩ [.int .i64 0, .string ⟨#[]⟩, .int .i64 0, .string ⟨#[]⟩, .string ⟨#[]⟩, .slice none 0 0, .slice none 0 0] w6 := (k6.blk hd4 (by omega)).trans HY4.out
    have X6 := (k6.blk (by omega) (by omega)).trans HX4.out
    have hs6 := k6.size
    obtain ⟨w7, hw7⟩ : ∃ w7, w7 = w6.setCell ⟨d, 1, none⟩ (.string s) := ⟨_, rfl⟩
    have Y7 : Dx d 3 s [.int .i64 0, .string ⟨#[]⟩, .int .i64 0, .string ⟨#[]⟩, .string ⟨#[]⟩, .slice none 0 0, .slice none 0 0] w7 := by rw [hw7]; exact Y6.named
    have o7 : ∀ b, b ≠ d → w7.heap[b]? = w6.heap[b]? := fun b hb => by rw [hw7]; exact Below.heap_setCell _ _ _ _ (by show b ≠ d; exact hb)
    have s7 : w7.heap.size = w6.heap.size := by rw [hw7]; simp
    have X7 := (o7 w.heap.size (by omega)).trans X6
    have K7 : Kp r w w7 := by rw [hw7]; exact (HK4.out.trans k6).putNew _ (by show w.heap.size ≤ d; omega) _
    have h7 := h6.other (o7 r (by omega))
    have ff := Lib.frozen_of_heap Y6 1
    have mm := Lib.cell_of_heap Y6 1
    simp at mm
    have HW7 := Lib.hid hw7
    have HY7 := Lib.hid Y7
    have HX7 := Lib.hid X7
    have HK7 := Lib.hid K7
    have H7 := Lib.hid h7
    have HN := Lib.hid hN
    have hd7 : d < w7.heap.size := by omega
    clear WD hw7 Y6 X6 Y7 X7 o7 s7 K7 h7 h6 k6 hN hs6 HY4 HX4 HK4 hd4
    have SG := Lib.hid (rwK_any (HC.out.on HK7.out hr) H7.out 4 ⟨#[61]⟩)
    go_upto_region 18 with fail
    rw [← HW7.out]
    clear mm ff HW7
    go_wp2_with fail
    refine SG.out.mono ?_; rintro e w8 ⟨s8, i8, b8, rfl, z8, h8, k8, hN8⟩
    have hs8 := k8.size
    have hps := nameOut_ps hN8
    rw [show (okW S i6 4 fun s => s.data.toList == [61]) = S.sign i6 [61] from okW_sign S i6 ⟨#[61]⟩] at hps
    obtain ⟨e8, e8b⟩ := hps
    subst e8 e8b
    have hle : psB b6 (S.sign i6 [61]) = 0 → psI b6 (S.sign i6 [61]) i6 ≤ S.n := fun e => by
      have a := HN.out
      rw [okW_great] at a
      exact name_sign_le (b1 := 0) (i5 := i + 1) (fun _ => by omega) a e
    have RE := Lib.hid (rtyp6_any (HC.out.on (HK7.out.trans k8) hr) h8 hle)
    have HY8 : Hid (Dx d 3 s [.int .i64 0, .string ⟨#[]⟩, .int .i64 0, .string ⟨#[]⟩, .string ⟨#[]⟩, .slice none 0 0, .slice none 0 0] w8) := Lib.hid ((k8.blk hd7 (by omega)).trans HY7.out)
    have HX8 := Lib.hid ((k8.blk (by omega) (by omega)).trans HX7.out)
    have HK8 := Lib.hid (HK7.out.trans k8)
    have hd8 : d < w8.heap.size := by omega
    clear h8 k8 SG HY7 HX7 HK7 H7 hN8 hle
    go_wp2_with fail
    refine RE.out.mono ?_; rintro e w9 ⟨l, t, i9, b9, rfl, hT9, k9, h9, hres⟩
    obtain ⟨An, cA, As, cS, rfl, -⟩ := hT9.parts
    have hs9 := k9.size
    have Y9 : Dx d 3 s [.int .i64 0, .string ⟨#[]⟩, .int .i64 0, .string ⟨#[]⟩, .string ⟨#[]⟩, .slice none 0 0, .slice none 0 0] w9 := (k9.blk hd8 (by omega)).trans HY8.out
    have X9 := (k9.blk (by omega) (by omega)).trans HX8.out
    obtain ⟨wa, hwa⟩ : ∃ wa, wa = w9.setCells d 2 [.int .i64 t.kind, .string t.pkg, .int .i64 t.major, .string t.mod, .string t.name, .slice An t.names.length cA, .slice As t.subs.length cS] := ⟨_, rfl⟩
    have HYa : Hid (Dx d 3 s [.int .i64 t.kind, .string t.pkg, .int .i64 t.major, .string t.mod, .string t.name, .slice An t.names.length cA, .slice As t.subs.length cS] wa) := Lib.hid (by rw [hwa]; exact Y9.put)
    have oa : ∀ b, b ≠ d → wa.heap[b]? = w9.heap[b]? := fun b hb => by rw [hwa]; exact setCells7_other rfl hb
    have sa : wa.heap.size = w9.heap.size := by rw [hwa]; exact setCells7_size rfl
    have HXa := Lib.hid ((oa w.heap.size (by omega)).trans X9)
    have Ka : Kp r w wa := by rw [hwa]; exact (HK8.out.trans k9).putCells d 2 (by omega) rfl
    have ha := h9.other (oa r (by omega))
    have Ta : TyAt (strike (· < w.heap.size + 1) wa) [.int .i64 t.kind, .string t.pkg, .int .i64 t.major, .string t.mod, .string t.name, .slice An t.names.length cA, .slice As t.subs.length cS] t := hT9.move (by omega) fun b hb hS => ⟨by omega, oa b (by omega)⟩
    have SEAL := Lib.hid (RdeOut.fin (R := R0) (k := 3) (s := s) z6 Ta Ka hr ha (by have a := HN.out; rw [okW_great] at a; have := dec_alias a hres; rwa [badR_0, HRk.out] at this))
    have TH := Y9.there
    have HWA := Lib.hid hwa
    have HKa := Lib.hid Ka
    have Ha := Lib.hid ha
    clear hwa Y9 X9 oa sa Ka ha Ta hT9 k9 h9 hres RE HY8 HX8 HK8 hs8 hs9
    go_upto_region 20 with (first | ((with_reducible refine wpList_putMid 26 d 2 #[.int .i64 t.kind, .string t.pkg, .int .i64 t.major, .string t.mod, .string t.name, .slice An t.names.length cA, .slice As t.subs.length cS] ?_ ?_ ?_ ?_ ?_ ?_); exact TH; exact tySize; exact tyOne; rfl; rfl))
    rw [← HWA.out]
    have Y := HYa.out
    have X := HXa.out
    have x0 := Lib.cell_of_heap Y 0
    have x1 := Lib.cell_of_heap Y 1
    have x2 := Lib.cell_of_heap Y 2
    have x3 := Lib.cell_of_heap Y 3
    have x4 := Lib.cell_of_heap Y 4
    have x5 := Lib.cell_of_heap Y 5
    have x6 := Lib.cell_of_heap Y 6
    have x7 := Lib.cell_of_heap Y 7
    have x8 := Lib.cell_of_heap Y 8
    simp at x0 x1 x2 x3 x4 x5 x6 x7 x8
    clear Y HYa HKa Ha HN
    go_wp2_with (first | ((with_reducible refine wpList_putRow 84 (w.heap.size) #[.int .i64 3, .string s, .int .i64 t.kind, .string t.pkg, .int .i64 t.major, .string t.mod, .string t.name, .slice An t.names.length cA, .slice As t.subs.length cS] _ _ X ?_ ?_ ?_ ?_ ?_ ?_); exact decSize; rfl; exact decOne; (focus (first | (go_simp; done) | rfl)); (focus (first | (go_simp; done) | rfl))))
    exact ret_agg1 (fn := Tryz.f55) (vs := [.int .i64 3, .string s, .int .i64 t.kind, .string t.pkg, .int .i64 t.major, .string t.mod, .string t.name, .slice An t.names.length cA, .slice As t.subs.length cS]) (b := w.heap.size) rfl rfl Tryz.underlying84 (by kernel_rfl) (cell9 (setRow_heap _ w.heap.size _ _ _ _ HXa.out)) rfl SEAL.out
  · have HRk : Hid (decR S 4 (i + 1) = R0) := Lib.hid (by rw [← HR0.out, hk])
    clear HR0
    have et := E.out
    rw [hl] at et
    have q0 : (T.toList == [111, 112, 97, 113, 117, 101]) = false := by rw [et]; decide
    have q1 : (T.toList == [104, 105, 100, 100, 101, 110]) = false := by rw [et]; decide
    have q2 : (T.toList == [97, 108, 105, 97, 115]) = false := by rw [et]; decide
    clear et hl hk
    obtain ⟨w4, hw4⟩ : ∃ w4, w4 = w3.setCell ⟨d, 0, none⟩ (.int .i64 4) := ⟨_, rfl⟩
    have Y4 : Dx d 4 ⟨#[]⟩ [.int .i64 0, .string ⟨#[]⟩, .int .i64 0, .string ⟨#[]⟩, .string ⟨#[]⟩, .slice none 0 0, .slice none 0 0] w4 := by rw [hw4]; exact HY3.out.kinded
    have o4 : ∀ b, b ≠ d → w4.heap[b]? = w3.heap[b]? := fun b hb => by rw [hw4]; exact Below.heap_setCell _ _ _ _ (by show b ≠ d; exact hb)
    have s4 : w4.heap.size = w3.heap.size := by rw [hw4]; simp
    have X4 := (o4 w.heap.size (by omega)).trans HX3.out
    have K4 : Kp r w w4 := by rw [hw4]; exact HK3.out.putNew _ (by show w.heap.size ≤ d; omega) _
    have h4 := H3.out.other (o4 r (by omega))
    have ff := Lib.frozen_of_heap HY3.out 0
    have mm := Lib.cell_of_heap HY3.out 0
    simp at mm
    have WD := Lib.hid (rwS_any (HC.out.on K4 hr) h4 1)
    have HW4 := Lib.hid hw4
    have HY4 := Lib.hid Y4
    have HX4 := Lib.hid X4
    have HK4 := Lib.hid K4
    have hd4 : d < w4.heap.size := by omega
    clear hw4 Y4 o4 s4 X4 K4 h4 HY3 HX3 HK3 H3 E HD
    go_upto_region 6 with fail
    rw [← HW4.out]
    clear mm ff HW4 q0 q1 q2
    go_wp2_with fail
    refine WD.out.mono ?_; rintro e w6 ⟨s, i6, b6, rfl, z6, h6, k6, hN⟩
    have Y6 : Dx d 4 ⟨#[]⟩ [.int .i64 0, .string ⟨#[]⟩, .int .i64 0, .string ⟨#[]⟩, .string ⟨#[]⟩, .slice none 0 0, .slice none 0 0] w6 := (k6.blk hd4 (by omega)).trans HY4.out
    have X6 := (k6.blk (by omega) (by omega)).trans HX4.out
    have hs6 := k6.size
    obtain ⟨w7, hw7⟩ : ∃ w7, w7 = w6.setCell ⟨d, 1, none⟩ (.string s) := ⟨_, rfl⟩
    have Y7 : Dx d 4 s [.int .i64 0, .string ⟨#[]⟩, .int .i64 0, .string ⟨#[]⟩, .string ⟨#[]⟩, .slice none 0 0, .slice none 0 0] w7 := by rw [hw7]; exact Y6.named
    have o7 : ∀ b, b ≠ d → w7.heap[b]? = w6.heap[b]? := fun b hb => by rw [hw7]; exact Below.heap_setCell _ _ _ _ (by show b ≠ d; exact hb)
    have s7 : w7.heap.size = w6.heap.size := by rw [hw7]; simp
    have X7 := (o7 w.heap.size (by omega)).trans X6
    have K7 : Kp r w w7 := by rw [hw7]; exact (HK4.out.trans k6).putNew _ (by show w.heap.size ≤ d; omega) _
    have h7 := h6.other (o7 r (by omega))
    have ff := Lib.frozen_of_heap Y6 1
    have mm := Lib.cell_of_heap Y6 1
    simp at mm
    have HW7 := Lib.hid hw7
    have HY7 := Lib.hid Y7
    have HX7 := Lib.hid X7
    have HK7 := Lib.hid K7
    have H7 := Lib.hid h7
    have HN := Lib.hid hN
    have hd7 : d < w7.heap.size := by omega
    clear WD hw7 Y6 X6 Y7 X7 o7 s7 K7 h7 h6 k6 hN hs6 HY4 HX4 HK4 hd4
    have SG := Lib.hid (rwK_any (HC.out.on HK7.out hr) H7.out 4 ⟨#[58]⟩)
    go_upto_region 7 with fail
    rw [← HW7.out]
    clear mm ff HW7
    go_wp2_with fail
    refine SG.out.mono ?_; rintro e w8 ⟨s8, i8, b8, rfl, z8, h8, k8, hN8⟩
    have hs8 := k8.size
    have hps := nameOut_ps hN8
    rw [show (okW S i6 4 fun s => s.data.toList == [58]) = S.sign i6 [58] from okW_sign S i6 ⟨#[58]⟩] at hps
    obtain ⟨e8, e8b⟩ := hps
    subst e8 e8b
    have hle : psB b6 (S.sign i6 [58]) = 0 → psI b6 (S.sign i6 [58]) i6 ≤ S.n := fun e => by
      have a := HN.out
      rw [okW_small] at a
      exact name_sign_le (b1 := 0) (i5 := i + 1) (fun _ => by omega) a e
    have RE := Lib.hid (rtyp6_any (HC.out.on (HK7.out.trans k8) hr) h8 hle)
    have HY8 : Hid (Dx d 4 s [.int .i64 0, .string ⟨#[]⟩, .int .i64 0, .string ⟨#[]⟩, .string ⟨#[]⟩, .slice none 0 0, .slice none 0 0] w8) := Lib.hid ((k8.blk hd7 (by omega)).trans HY7.out)
    have HX8 := Lib.hid ((k8.blk (by omega) (by omega)).trans HX7.out)
    have HK8 := Lib.hid (HK7.out.trans k8)
    have hd8 : d < w8.heap.size := by omega
    clear h8 k8 SG HY7 HX7 HK7 H7 hN8 hle
    go_wp2_with fail
    refine RE.out.mono ?_; rintro e w9 ⟨l, t, i9, b9, rfl, hT9, k9, h9, hres⟩
    obtain ⟨An, cA, As, cS, rfl, -⟩ := hT9.parts
    have hs9 := k9.size
    have Y9 : Dx d 4 s [.int .i64 0, .string ⟨#[]⟩, .int .i64 0, .string ⟨#[]⟩, .string ⟨#[]⟩, .slice none 0 0, .slice none 0 0] w9 := (k9.blk hd8 (by omega)).trans HY8.out
    have X9 := (k9.blk (by omega) (by omega)).trans HX8.out
    obtain ⟨wa, hwa⟩ : ∃ wa, wa = w9.setCells d 2 [.int .i64 t.kind, .string t.pkg, .int .i64 t.major, .string t.mod, .string t.name, .slice An t.names.length cA, .slice As t.subs.length cS] := ⟨_, rfl⟩
    have HYa : Hid (Dx d 4 s [.int .i64 t.kind, .string t.pkg, .int .i64 t.major, .string t.mod, .string t.name, .slice An t.names.length cA, .slice As t.subs.length cS] wa) := Lib.hid (by rw [hwa]; exact Y9.put)
    have oa : ∀ b, b ≠ d → wa.heap[b]? = w9.heap[b]? := fun b hb => by rw [hwa]; exact setCells7_other rfl hb
    have sa : wa.heap.size = w9.heap.size := by rw [hwa]; exact setCells7_size rfl
    have HXa := Lib.hid ((oa w.heap.size (by omega)).trans X9)
    have Ka : Kp r w wa := by rw [hwa]; exact (HK8.out.trans k9).putCells d 2 (by omega) rfl
    have ha := h9.other (oa r (by omega))
    have Ta : TyAt (strike (· < w.heap.size + 1) wa) [.int .i64 t.kind, .string t.pkg, .int .i64 t.major, .string t.mod, .string t.name, .slice An t.names.length cA, .slice As t.subs.length cS] t := hT9.move (by omega) fun b hb hS => ⟨by omega, oa b (by omega)⟩
    have SEAL := Lib.hid (RdeOut.fin (R := R0) (k := 4) (s := s) z6 Ta Ka hr ha (by have a := HN.out; rw [okW_small] at a; have := dec_val a hres; rwa [badR_0, HRk.out] at this))
    have TH := Y9.there
    have HWA := Lib.hid hwa
    have HKa := Lib.hid Ka
    have Ha := Lib.hid ha
    clear hwa Y9 X9 oa sa Ka ha Ta hT9 k9 h9 hres RE HY8 HX8 HK8 hs8 hs9
    go_upto_region 20 with (first | ((with_reducible refine wpList_putMid 26 d 2 #[.int .i64 t.kind, .string t.pkg, .int .i64 t.major, .string t.mod, .string t.name, .slice An t.names.length cA, .slice As t.subs.length cS] ?_ ?_ ?_ ?_ ?_ ?_); exact TH; exact tySize; exact tyOne; rfl; rfl))
    rw [← HWA.out]
    have Y := HYa.out
    have X := HXa.out
    have x0 := Lib.cell_of_heap Y 0
    have x1 := Lib.cell_of_heap Y 1
    have x2 := Lib.cell_of_heap Y 2
    have x3 := Lib.cell_of_heap Y 3
    have x4 := Lib.cell_of_heap Y 4
    have x5 := Lib.cell_of_heap Y 5
    have x6 := Lib.cell_of_heap Y 6
    have x7 := Lib.cell_of_heap Y 7
    have x8 := Lib.cell_of_heap Y 8
    simp at x0 x1 x2 x3 x4 x5 x6 x7 x8
    clear Y HYa HKa Ha HN
    go_wp2_with (first | ((with_reducible refine wpList_putRow 84 (w.heap.size) #[.int .i64 4, .string s, .int .i64 t.kind, .string t.pkg, .int .i64 t.major, .string t.mod, .string t.name, .slice An t.names.length cA, .slice As t.subs.length cS] _ _ X ?_ ?_ ?_ ?_ ?_ ?_); exact decSize; rfl; exact decOne; (focus (first | (go_simp; done) | rfl)); (focus (first | (go_simp; done) | rfl))))
    exact ret_agg1 (fn := Tryz.f55) (vs := [.int .i64 4, .string s, .int .i64 t.kind, .string t.pkg, .int .i64 t.major, .string t.mod, .string t.name, .slice An t.names.length cA, .slice As t.subs.length cS]) (b := w.heap.size) rfl rfl Tryz.underlying84 (by kernel_rfl) (cell9 (setRow_heap _ w.heap.size _ _ _ _ HXa.out)) rfl SEAL.out
end Go.Proofs.YtbknmokamcjgpaaGreatDoor
