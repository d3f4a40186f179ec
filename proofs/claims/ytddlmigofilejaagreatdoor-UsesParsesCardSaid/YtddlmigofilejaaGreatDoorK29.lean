/-
  Several texts in one.
-/
import Derived.Test.YtddlmigofilejaaGreatDoorK28
open List (getElem_toArray getElem_cons_succ getElem_cons_zero set_cons_zero set_cons_succ setIfInBounds_toArray)
set_option maxRecDepth 100000
set_option maxHeartbeats 8000000
namespace Go.Proofs.YtddlmigofilejaaGreatDoor
open Go.RowKit
open Go.Sort
open M
theorem usSize : (Tryz.prog.info? 26).map (·.size) = some 2 := by kernel_rfl
theorem usOne {A5 A6 : Option Addr} {n5 c5 n6 c6 : Nat} : (#[.slice A5 n5 c5, .slice A6 n6 c6] : Array Value).all (·.oneCell') = true := Array.all_eq_true_iff_forall_mem.2 (fun v hv => by simp at hv; rcases hv with rfl | rfl <;> rfl)
theorem lnSize : (Tryz.prog.info? 59).map (·.size) = some 10 := by kernel_rfl
theorem lnOne {s m : ByteArray} {k0 k j : Int} {p d n : ByteArray} {A5 A6 : Option Addr} {n5 c5 n6 c6 : Nat} : (#[.int .i64 k0, .string m, .string s, .int .i64 k, .string p, .int .i64 j, .string d, .string n, .slice A5 n5 c5, .slice A6 n6 c6] : Array Value).all (·.oneCell') = true := Array.all_eq_true_iff_forall_mem.2 (fun v hv => by simp at hv; rcases hv with rfl | rfl | rfl | rfl | rfl | rfl | rfl | rfl | rfl | rfl <;> rfl)
theorem cell2 {w : World} {b : Nat} {v0 v1 : Value} {T : TypeId} {fr : Nat × Nat} (h : w.heap[b]? = some (.cells #[v0, v1] T fr)) : ∀ i v, ([v0, v1] : List Value)[i]? = some v -> w.cell? ⟨b, i, none⟩ = some v := fun i v hv => by
  rw [cZ h, <- hv, <- List.getElem?_toArray]
theorem cell10 {w : World} {b : Nat} {v0 v1 v2 v3 v4 v5 v6 v7 v8 v9 : Value} {T : TypeId} {fr : Nat × Nat} (h : w.heap[b]? = some (.cells #[v0, v1, v2, v3, v4, v5, v6, v7, v8, v9] T fr)) : ∀ i v, ([v0, v1, v2, v3, v4, v5, v6, v7, v8, v9] : List Value)[i]? = some v -> w.cell? ⟨b, i, none⟩ = some v := fun i v hv => by
  rw [cZ h, <- hv, <- List.getElem?_toArray]
def LnOut (w : World) (q : Nat) (A : Option Addr) (n cn : Nat) (R : Res Ln) (e : Ending) (w' : World) : Prop :=
  ∃ (l : List Value) (x : Ln) (i' b' : Nat), e = .returned (.agg (#[.int .i64 x.kind, .string x.mod, .string x.name] ++ l.toArray)) /\ (x.mod.size <= 9223372036854775807 /\ x.name.size <= 9223372036854775807) /\ TyAt (strike (· < w.heap.size) w') l x.typ /\ Kp q w w' /\ CSt q A n cn i' b' w' /\ badR b' i' (.ok x i' 0) = R
theorem ln_info : (Tryz.prog.info? 59).map (fun i => (i.zero, i.size, i.bytes)) = some (some (.agg #[.int .i64 0, .string ⟨#[]⟩, .string ⟨#[]⟩, .int .i64 0, .string ⟨#[]⟩, .int .i64 0, .string ⟨#[]⟩, .string ⟨#[]⟩, .slice none 0 0, .slice none 0 0]), 10, 152) := by kernel_rfl
def Ux (d : Nat) (Ai : Option Addr) (ni ci : Nat) (Ad : Option Addr) (nd cd : Nat) (w : World) : Prop := w.heap[d]? = some (.cells #[.slice Ai ni ci, .slice Ad nd cd] 26 (0, 0))
theorem lns_more {q lo d g cap c B : Nat} {xs : List Ln} {A Ai : Option Addr} {ni ci n cn i b : Nat} {As : Option Addr} {w w1 w3 : World} {o : Obj} {l : List Value} {x : Ln} {C : List (List Value)}
    (h : Row lnR lo xs A c w1) (hlo : lo <= B) (hwo : ∀ b, (Value.slice A xs.length c).ownBlock = some b -> b < B)
    (hC1 : C.length = xs.length) (hC4 : ∀ (i : Nat) (l : List Value) (x : Ln), C[i]? = some l -> xs[i]? = some x -> lnE (strike (fun b => b < lo \/ (Value.slice A xs.length c).ownBlock = some b) w1) l x)
    (hE : lnE (strike (· < B) w1) l x) (hown : w3.ownsRow lo 59 10 (.slice (some ⟨g, 0, none⟩) (xs.length + 1) cap) (xs.length + 1) (C.flatten ++ l)) (hgrow : (w1.alloc o).grownBy w3 (Value.slice A xs.length c).ownBlock)
    (hat : (Value.slice A xs.length c).ownBlock = some g \/ g = (w1.alloc o).heap.size)
    (hB1 : B <= w1.heap.size) (hd : d < lo) (hwd : w.heap.size <= d) (hql : q < w.heap.size) (hbox : Ux d Ai ni ci A xs.length c w1) (hK : Kp q w w1) (hc : CSt q As n cn i b w1) :
    Row lnR lo (xs ++ [x]) (some ⟨g, 0, none⟩) cap (w3.setCell ⟨d, 1, none⟩ (.slice (some ⟨g, 0, none⟩) (xs.length + 1) cap)) /\
    Ux d Ai ni ci (some ⟨g, 0, none⟩) (xs.length + 1) cap (w3.setCell ⟨d, 1, none⟩ (.slice (some ⟨g, 0, none⟩) (xs.length + 1) cap)) /\
    Kp q w (w3.setCell ⟨d, 1, none⟩ (.slice (some ⟨g, 0, none⟩) (xs.length + 1) cap)) /\ CSt q As n cn i b (w3.setCell ⟨d, 1, none⟩ (.slice (some ⟨g, 0, none⟩) (xs.length + 1) cap)) /\
    (∀ b, b < lo -> b ≠ d -> (w3.setCell ⟨d, 1, none⟩ (.slice (some ⟨g, 0, none⟩) (xs.length + 1) cap)).heap[b]? = w1.heap[b]?) /\
    w3.cell? ⟨d, 1, none⟩ = some (.slice A xs.length c) /\ w3.frozen? ⟨d, 1, none⟩ = false /\ w1.heap.size <= (w3.setCell ⟨d, 1, none⟩ (.slice (some ⟨g, 0, none⟩) (xs.length + 1) cap)).heap.size := by
  obtain ⟨R3, old3, hs3⟩ := Row.more (R := lnR) h hlo hwo hC1 hC4 hE hown hgrow hat;have hlow : ∀ b, (Value.slice A xs.length c).ownBlock = some b -> lo <= b := fun b e => (h.lt e).1
  have hd1 : d < w1.heap.size := (Array.getElem?_eq_some_iff.1 hbox).1;have B3 := (old3 d (fun e => by have := hlow d e; omega) hd1).trans hbox;have ot : ∀ b, b ≠ d -> (w3.setCell ⟨d, 1, none⟩ (.slice (some ⟨g, 0, none⟩) (xs.length + 1) cap)).heap[b]? = w3.heap[b]? := fun b hb => Below.heap_setCell _ _ _ _ (by show b ≠ d; exact hb)
  have K3 : Kp q w w3 := (hK.alloc o).grow hgrow fun b e => by have := hlow b e; omega
  have c3 : CSt q As n cn i b w3 := hc.keep (old3 q (fun e => by have := hlow q e; omega) hc.lt) (fun g vs fr hg => old3 g (fun e => by
    obtain ⟨C', -, h3, -⟩ := h.cells;rcases h3.2 with ⟨e1, -⟩ | ⟨g6, cap6, cur6, hv, -, hg6, -⟩
    · rw [e1] at e; simp [Value.ownBlock] at e
    · rw [hv] at e; simp [Value.ownBlock] at e
      subst e;exact two_types hg hg6 (by decide) rfl) (Array.getElem?_eq_some_iff.1 hg).1)
  refine ⟨R3.keep (by simp) (fun b hb hlt => ot b (by omega)), ?_, K3.putNew _ (by show w.heap.size <= d; omega) _, c3.keep (ot q (by omega)) (fun g vs fr hg => ot g (two_types hg B3 (by decide))), fun b hb hne => (ot b hne).trans (old3 b (fun e => by have := hlow b e; omega) (by omega)), ?_, Lib.frozen_of_heap B3 1, by simp; omega⟩
  · have h2 := Joins.block_setCell (i := 1) B3 (.slice (some ⟨g, 0, none⟩) (xs.length + 1) cap)
    simpa [Ux] using h2
  · have := cZ B3 1
    simpa using this
structure LpI (w : World) (q : Nat) (A : Option Addr) (S : Toks) (cn : Nat) (F : Res Us) (d lo B6 : Nat) (l : List Im) (Ai : Option Addr) (ci : Nat) (xs : List Ln) (Ad : Option Addr) (cd i b : Nat) (wr : World) : Prop where
  kp : Kp q w wr
  box : Ux d Ai l.length ci Ad xs.length cd wr
  res : wr.heap[w.heap.size]? = some (.cells #[.slice none 0 0, .slice none 0 0] 26 (0, 0))
  ims : RowIn imR (strike (fun b => b < B6 \/ d <= b) wr) Ai l
  rows : Row lnR lo xs Ad cd wr
  cur : CSt q A S.n cn i b wr
  fin : F = badR b i (restL S l i xs)
  most : b = 0 -> xs.length <= 60
  some : xs.length <= 61
  lole : lo <= wr.heap.size
def UrOut (w : World) (q : Nat) (A : Option Addr) (n cn : Nat) (R : Res Us) (e : Ending) (w' : World) : Prop :=
  ∃ (l : List Value) (m : Us) (i b : Nat), e = .returned (.agg l.toArray) /\ UsAt (strike (· < w.heap.size) w') l m /\ CapU l m /\ Kp q w w' /\ CSt q A n cn i b w' /\ badR b i (.ok m i 0) = R
theorem LpI.fin2 {w : World} {q : Nat} {A : Option Addr} {S : Toks} {cn : Nat} {F : Res Us} {d lo B6 : Nat} {l : List Im} {Ai : Option Addr} {ci : Nat} {xs : List Ln} {Ad : Option Addr} {cd i b : Nat} {wr : World}
    (h : LpI w q A S cn F d lo B6 l Ai ci xs Ad cd i b wr) (hl : l.length <= 1000) (hci : l.length <= ci) (h6 : w.heap.size < B6) (hlo : w.heap.size < lo) (hq : q < w.heap.size) (hno : (decide (b = 0) && decide (i < S.n)) = false) :
    UrOut w q A S.n cn F (.returned (.agg #[.slice Ai l.length ci, .slice Ad xs.length cd])) (wr.setRow w.heap.size #[.slice Ai l.length ci, .slice Ad xs.length cd]) := by
  have mv : ∀ b, b ≠ w.heap.size -> (wr.setRow w.heap.size #[.slice Ai l.length ci, .slice Ad xs.length cd]).heap[b]? = wr.heap[b]? := fun b hb => setRow_other wr w.heap.size b _ hb
  refine ⟨[.slice Ai l.length ci, .slice Ad xs.length cd], ⟨l, xs⟩, i, b, rfl, ⟨Ai, ci, Ad, cd, rfl, by show l.length <= _; omega, by have := h.some; show xs.length <= _; omega, ?_, ?_⟩, CapU.of (u := ⟨l, xs⟩) hci h.rows.cap rfl rfl, ?_, ?_, ?_⟩
  · exact h.ims.move (by simp) fun b hb hS => ⟨fun e => hS (.inl (by omega)), mv b (fun e => hS (.inl (by omega)))⟩
  · exact (h.rows.done (Nat.le_refl _)).move (by simp) fun b hb hS => ⟨by omega, mv b (by omega)⟩
  · have hk := h.kp
    exact ⟨hk.os, hk.tape, hk.output, by have := hk.size; simpa using this, fun j hj hne => (mv j (by omega)).trans (hk.block j hj hne)⟩
  · exact h.cur.keep (mv q (by omega)) (fun g vs fr hg => mv g (two_types hg h.res (by decide)))
  · rw [h.fin]
    exact (restL_no (by
      by_cases hb : b = 0
      · exact .inl (h.most hb)
      · exact .inr hb) hno).symm
theorem LnOut.fin {w w' : World} {q : Nat} {A : Option Addr} {n cn i b : Nat} {R : Res Ln} {k : Int} {m s : ByteArray} {t : Ty} {v0 v1 v2 v3 v4 v5 v6 : Value} {old : Array Value}
  (hm : m.size <= 9223372036854775807) (hs : s.size <= 9223372036854775807) (hT : TyAt (strike (· < w.heap.size + 1) w') [v0, v1, v2, v3, v4, v5, v6] t) (hk : Kp q w w') (hq : q < w.heap.size) (hc : CSt q A n cn i b w') (hX : w'.heap[w.heap.size]? = some (.cells old 59 (0, 0))) (hR : badR b i (.ok (⟨k, m, s, t⟩ : Ln) i 0) = R) :
  LnOut w q A n cn R (.returned (.agg #[.int .i64 k, .string m, .string s, v0, v1, v2, v3, v4, v5, v6])) (w'.setRow w.heap.size #[.int .i64 k, .string m, .string s, v0, v1, v2, v3, v4, v5, v6]) :=
 ⟨[v0, v1, v2, v3, v4, v5, v6], ⟨k, m, s, t⟩, i, b, rfl, ⟨hm, hs⟩, hT.move (by simp) fun b hb hS => ⟨fun e => hS (Nat.lt_succ_of_lt e), setRow_other w' w.heap.size b _ (fun e => by subst e; exact hS (Nat.lt_succ_self _))⟩,
  ⟨hk.os, hk.tape, hk.output, by have := hk.size; simpa using this, fun j hj hne => (setRow_other w' w.heap.size j _ (by omega)).trans (hk.block j hj hne)⟩,
  hc.keep (setRow_other w' w.heap.size q _ (by omega)) (fun g vs fr hg => setRow_other w' w.heap.size g _ (two_types hg hX (by decide))), hR⟩
theorem cline_any {W : World} {q : Nat} {A : Option Addr} {S : Toks} {cn i : Nat} {w : World} (hc : CdCtx W q A S w) (h : CSt q A S.n cn i 0 w) (he : CEnv W) (hi : i < S.n) (n : Nat) (hn : n <= 1000) :
  Calls Tryz.prog 37 #[.pointer (some ⟨q, 0, none⟩), .int .i64 n] w (LnOut w q A S.n cn (oneL S i n)) := by
 have hq := h.lt
 have hbig := hc.big
 obtain ⟨w0, hw0⟩ : ∃ w0, w0 = w.alloc (.cells #[.int .i64 0, .string ⟨#[]⟩, .string ⟨#[]⟩, .int .i64 0, .string ⟨#[]⟩, .int .i64 0, .string ⟨#[]⟩, .string ⟨#[]⟩, .slice none 0 0, .slice none 0 0] 59) := ⟨_, rfl⟩
 have B0 : Below w.heap.size w w0 := by rw [hw0]; exact below_new (Below.refl _ _) _
 have X0 : w0.heap[w.heap.size]? = some (.cells #[.int .i64 0, .string ⟨#[]⟩, .string ⟨#[]⟩, .int .i64 0, .string ⟨#[]⟩, .int .i64 0, .string ⟨#[]⟩, .string ⟨#[]⟩, .slice none 0 0, .slice none 0 0] 59 (0, 0)) := by rw [hw0]; exact heap_alloc_new w _
 have s0 : w0.heap.size = w.heap.size + 1 := by rw [hw0]; simp
 have AK := catKey_any (hc.on (Kp.of_below B0) hq) (h.below B0) ⟨#[105, 115]⟩
 have HC := zH hc
 have HH := zH h
 have HE := zH he
 have HB0 := zH B0
 have HX0 := zH X0
 have HW0 := zH hw0
 have HOR := zH (lineK_or S i)
 clear hc h he hw0 B0 X0
 by_cases hk : keyS S i kIs = true
 ·have hkk : keyS S i kIs = true := hk
  have EK : Hid (kindL S i = 2) := zH (by unfold kindL; rw [if_pos hk])
  have EA : (decide ((0 : Nat) = 0) && keyS S i (ByteArray.mk #[105, 115]).data.toList) = true := by
   show (decide ((0 : Nat) = 0) && keyS S i kIs) = true
   rw [hkk]; rfl
  rw [EA] at AK;have HAK := zH AK;clear AK EA;obtain ⟨so, hso⟩ : ∃ so, so = (lineK S i != 0) := ⟨_, rfl⟩;have SOT : so = true := by rw [hso, <- HOR.out, hkk]; rfl
  subst SOT;have HSO := zH hso;clear hk hkk hso HOR;go_enter Tryz.func37, Tryz.ntmps37
  go_upto_region 1 with fail
  rw [<- HW0.out];go_wp2_with fail
  refine HAK.out.mono ?_; rintro e w1 ⟨rfl, hb1⟩
  have B01 := below_over HB0.out hb1;have hs1 := hb1.size;have MU1 := zH (must_any (HH.out.below B01) true 2 (by decide));have HX1 := zH ((hb1.block w.heap.size (by omega)).trans HX0.out);have HK1 := zH (Kp.of_below (r := q) B01);clear hb1 B01 HAK HX0 HB0 HW0;go_wp2_with fail
  refine MU1.out.mono ?_; rintro e w3 ⟨rfl, h3, k3⟩
  have MU2 := zH (must_any h3 (decide ((n : Int) < 60)) 3 (by decide));have hs3 := k3.size;have HX3 := zH ((k3.blk (by omega) (by omega)).trans HX1.out);have HK3 := zH (HK1.out.trans k3);clear h3 k3 MU1 HX1 HK1;go_wp2_with fail
  refine MU2.out.mono ?_; rintro e w4 ⟨rfl, h4, k4⟩
  obtain ⟨b1, hb1⟩ : ∃ b1, mustB (mustB 0 true 2) (decide ((n : Int) < 60)) 3 = b1 := ⟨_, rfl⟩
  have FIN : Hid (badR b1 (upI b1 i) (lineR S 2 (upI b1 i)) = oneL S i n) := zH (by
   rw [<- oneL_state (S := S) (i := i) (n := n) (b1 := b1) (by rw [<- HSO.out]; exact hb1), EK.out])
  rw [hb1] at h4;have PS := zH (cpass_any h4 (fun _ => hi) hbig);have hs4 := k4.size;have HX4 := zH ((k4.blk (by omega) (by omega)).trans HX3.out);have HK4 := zH (HK3.out.trans k4);clear h4 k4 MU2 HX3 HK3 hb1 HSO;go_wp2_with fail
  refine PS.out.mono ?_; rintro e w5 ⟨rfl, h5, k5⟩
  have hs5 := k5.size;have K5 := HK4.out.trans k5;have WD := zH (cword_any (HC.out.on K5 hq) h5 _ _ asksSmall (by decide));have HX5 := zH ((k5.blk (by omega) (by omega)).trans HX4.out);have HK5 := zH K5;have hup : b1 = 0 -> upI b1 i <= S.n := fun e => by subst e; rw [upI_0]; omega
  clear h5 k5 K5 PS HX4 HK4;generalize hi5 : upI b1 i = i5 at FIN WD hup
  clear hi5;go_wp2_with fail
  refine WD.out.mono ?_; rintro e w6 ⟨m, i6, b6, rfl, z6, h6, k6, hN6⟩
  have hs6 := k6.size;have K6 := HK5.out.trans k6;have SG := zH (csign_any (HC.out.on K6 hq) h6 ⟨#[46]⟩);have HX6 := zH ((k6.blk (by omega) (by omega)).trans HX5.out);have HK6 := zH K6;have HN6 := zH hN6;clear h6 k6 K6 WD HX5 HK5 hN6;go_wp2_with fail
  refine SG.out.mono ?_; rintro e w7 ⟨rfl, h7, k7⟩
  have hs7 := k7.size;have K7 := HK6.out.trans k7;obtain ⟨i7, e7⟩ : ∃ i7, i7 = psI b6 (S.sign i6 [46]) i6 := ⟨_, rfl⟩;obtain ⟨b7, f7⟩ : ∃ b7, b7 = psB b6 (S.sign i6 [46]) := ⟨_, rfl⟩;have h7' : CSt q A S.n cn i7 b7 w7 := by rw [e7, f7]; exact h7
  have hup7 : b7 = 0 -> i7 <= S.n := fun e => by rw [e7]; exact name_sign_le hup HN6.out (by rw [<- f7]; exact e)
  have HE7 := zH e7;have HF7 := zH f7;have WD := zH (cword_any (HC.out.on K7 hq) h7' _ _ asksGreat (by decide));have HX7 := zH ((k7.blk (by omega) (by omega)).trans HX6.out);have HK7 := zH K7;clear h7 h7' k7 K7 SG HX6 HK6 e7 f7;go_wp2_with fail
  refine WD.out.mono ?_; rintro e w8 ⟨s, i8, b8, rfl, z8, h8, k8, hN8⟩
  have hs8 := k8.size;have K8 := HK7.out.trans k8;have SG := zH (csign_any (HC.out.on K8 hq) h8 ⟨#[61]⟩);have HX8 := zH ((k8.blk (by omega) (by omega)).trans HX7.out);have HK8 := zH K8;have HN8 := zH hN8;clear h8 k8 K8 WD HX7 HK7 hN8;go_wp2_with fail
  refine SG.out.mono ?_; rintro e w9 ⟨rfl, h9, k9⟩
  have hs9 := k9.size;have K9 := HK8.out.trans k9;obtain ⟨i9, e9⟩ : ∃ i9, i9 = psI b8 (S.sign i8 [61]) i8 := ⟨_, rfl⟩;obtain ⟨b9, f9⟩ : ∃ b9, b9 = psB b8 (S.sign i8 [61]) := ⟨_, rfl⟩;have h9' : CSt q A S.n cn i9 b9 w9 := by rw [e9, f9]; exact h9
  have RE := zH (ctype_any (HC.out.on K9 hq) h9' HE.out (fun e => by rw [e9]; exact name_sign_le hup7 HN8.out (by rw [<- f9]; exact e)));have HX9 := zH ((k9.blk (by omega) (by omega)).trans HX8.out);have HK9 := zH K9
  have WORDS : Hid (badR b9 i9 (typL 2 m s (atR S i9)) = oneL S i n) := zH (by
   rw [<- FIN.out];have n6 := HN6.out;have n8 := HN8.out;rw [small_k] at n6;rw [great_k] at n8;exact line_words (k := 2) (by decide) n6 HE7.out HF7.out n8 e9 f9)
  clear h9 h9' k9 K9 SG HX8 HK8 e9 f9 FIN HN6 HN8 HE7 HF7;go_upto_region 10 with fail
  go_wp2_with fail
  refine RE.out.mono ?_; rintro e wa ⟨l, t, ia, ba, rfl, hTa, ka, ha, hres⟩
  obtain ⟨An, cA, As, cS, rfl, -⟩ := hTa.parts;have hsa := ka.size;have Ka := HK9.out.trans ka;have Xa := (ka.blk (by omega) (by omega)).trans HX9.out;have Ta : TyAt (strike (· < w.heap.size + 1) wa) [.int .i64 t.kind, .string t.pkg, .int .i64 t.major, .string t.mod, .string t.name, .slice An t.names.length cA, .slice As t.subs.length cS] t := hTa.move (Nat.le_refl _) fun b hb hS => ⟨by omega, rfl⟩
  have SEAL := zH (LnOut.fin (R := oneL S i n) (k := 2) (m := m) (s := s) (by omega) (by omega) Ta Ka hq ha Xa (by rw [<- WORDS.out]; exact line_typ hres));have HXa := zH Xa;clear Ta Ka ha hTa ka hres RE HX9 HK9 WORDS HE;go_wp2_with (first | ((with_reducible refine wpList_putRow 59 (w.heap.size) #[.int .i64 2, .string m, .string s, .int .i64 t.kind, .string t.pkg, .int .i64 t.major, .string t.mod, .string t.name, .slice An t.names.length cA, .slice As t.subs.length cS] _ _ Xa ?_ ?_ ?_ ?_ ?_ ?_); exact lnSize; rfl; exact lnOne; iterate 2 (focus (first | (go_simp; done) | rfl))))
  exact ret_agg1 (fn := Tryz.f37) (vs := [.int .i64 2, .string m, .string s, .int .i64 t.kind, .string t.pkg, .int .i64 t.major, .string t.mod, .string t.name, .slice An t.names.length cA, .slice As t.subs.length cS]) (b := w.heap.size) rfl rfl Tryz.underlying59 (by kernel_rfl) (cell10 (setRow_heap _ w.heap.size _ _ _ _ HXa.out)) rfl SEAL.out
 ·have hkk : keyS S i kIs = false := by simpa using hk
  have EK : Hid (kindL S i = 1) := zH (by unfold kindL; rw [if_neg hk])
  have EA : (decide ((0 : Nat) = 0) && keyS S i (ByteArray.mk #[105, 115]).data.toList) = false := by
   show (decide ((0 : Nat) = 0) && keyS S i kIs) = false
   rw [hkk]; rfl
  rw [EA] at AK;have HAK := zH AK;clear AK EA;obtain ⟨so, hso⟩ : ∃ so, so = (lineK S i != 0) := ⟨_, rfl⟩;have SOU : keyS S i kUse = so := by rw [hso, <- HOR.out, hkk]; rfl
  have HSU := zH SOU;have HSO := zH hso;clear hk hkk hso HOR SOU;go_enter Tryz.func37, Tryz.ntmps37
  go_upto_region 1 with fail
  rw [<- HW0.out];go_wp2_with fail
  refine HAK.out.mono ?_; rintro e w1 ⟨rfl, hb1⟩
  have B01 := below_over HB0.out hb1;have hs1 := hb1.size;have AK2 := catKey_any (HC.out.on (Kp.of_below B01) hq) (HH.out.below B01) ⟨#[117, 115, 101]⟩;rw [show (decide ((0 : Nat) = 0) && keyS S i (ByteArray.mk #[117, 115, 101]).data.toList) = so from HSU.out] at AK2;have HAK2 := zH AK2;have HX1 := zH ((hb1.block w.heap.size (by omega)).trans HX0.out);have HB1 := zH B01;clear hb1 B01 AK2 HAK HX0 HB0 HW0 HSU;go_wp2_with fail
  refine HAK2.out.mono ?_; rintro e w2 ⟨rfl, hb2⟩
  have B02 := below_over HB1.out hb2;have hs2 := hb2.size;have MU1 := zH (must_any (HH.out.below B02) so 2 (by decide));have HX2 := zH ((hb2.block w.heap.size (by omega)).trans HX1.out);have HK1 := zH (Kp.of_below (r := q) B02);clear hb2 B02 HAK2 HX1 HB1;obtain ⟨w1, rfl⟩ : ∃ w1 : World, w1 = w2 := ⟨_, rfl⟩;have HX1 := HX2;go_wp2_with fail
  refine MU1.out.mono ?_; rintro e w3 ⟨rfl, h3, k3⟩
  have MU2 := zH (must_any h3 (decide ((n : Int) < 60)) 3 (by decide));have hs3 := k3.size;have HX3 := zH ((k3.blk (by omega) (by omega)).trans HX1.out);have HK3 := zH (HK1.out.trans k3);clear h3 k3 MU1 HX1 HK1;go_wp2_with fail
  refine MU2.out.mono ?_; rintro e w4 ⟨rfl, h4, k4⟩
  obtain ⟨b1, hb1⟩ : ∃ b1, mustB (mustB 0 so 2) (decide ((n : Int) < 60)) 3 = b1 := ⟨_, rfl⟩
  have FIN : Hid (badR b1 (upI b1 i) (lineR S 1 (upI b1 i)) = oneL S i n) := zH (by
   rw [<- oneL_state (S := S) (i := i) (n := n) (b1 := b1) (by rw [<- HSO.out]; exact hb1), EK.out])
  rw [hb1] at h4;have PS := zH (cpass_any h4 (fun _ => hi) hbig);have hs4 := k4.size;have HX4 := zH ((k4.blk (by omega) (by omega)).trans HX3.out);have HK4 := zH (HK3.out.trans k4);clear h4 k4 MU2 HX3 HK3 hb1 HSO;go_wp2_with fail
  refine PS.out.mono ?_; rintro e w5 ⟨rfl, h5, k5⟩
  have hs5 := k5.size;have K5 := HK4.out.trans k5;have WD := zH (cword_any (HC.out.on K5 hq) h5 _ _ asksSmall (by decide));have HX5 := zH ((k5.blk (by omega) (by omega)).trans HX4.out);have HK5 := zH K5;have hup : b1 = 0 -> upI b1 i <= S.n := fun e => by subst e; rw [upI_0]; omega
  clear h5 k5 K5 PS HX4 HK4;generalize hi5 : upI b1 i = i5 at FIN WD hup
  clear hi5;go_wp2_with fail
  refine WD.out.mono ?_; rintro e w6 ⟨m, i6, b6, rfl, z6, h6, k6, hN6⟩
  have hs6 := k6.size;have K6 := HK5.out.trans k6;have SG := zH (csign_any (HC.out.on K6 hq) h6 ⟨#[46]⟩);have HX6 := zH ((k6.blk (by omega) (by omega)).trans HX5.out);have HK6 := zH K6;have HN6 := zH hN6;clear h6 k6 K6 WD HX5 HK5 hN6;go_wp2_with fail
  refine SG.out.mono ?_; rintro e w7 ⟨rfl, h7, k7⟩
  have hs7 := k7.size;have K7 := HK6.out.trans k7;obtain ⟨i7, e7⟩ : ∃ i7, i7 = psI b6 (S.sign i6 [46]) i6 := ⟨_, rfl⟩;obtain ⟨b7, f7⟩ : ∃ b7, b7 = psB b6 (S.sign i6 [46]) := ⟨_, rfl⟩;have h7' : CSt q A S.n cn i7 b7 w7 := by rw [e7, f7]; exact h7
  have hup7 : b7 = 0 -> i7 <= S.n := fun e => by rw [e7]; exact name_sign_le hup HN6.out (by rw [<- f7]; exact e)
  have HE7 := zH e7;have HF7 := zH f7;have WD := zH (cword_any (HC.out.on K7 hq) h7' _ _ asksSmall (by decide));have HX7 := zH ((k7.blk (by omega) (by omega)).trans HX6.out);have HK7 := zH K7;clear h7 h7' k7 K7 SG HX6 HK6 e7 f7;go_wp2_with fail
  refine WD.out.mono ?_; rintro e w8 ⟨s, i8, b8, rfl, z8, h8, k8, hN8⟩
  have hs8 := k8.size;have K8 := HK7.out.trans k8;have SG := zH (csign_any (HC.out.on K8 hq) h8 ⟨#[58]⟩);have HX8 := zH ((k8.blk (by omega) (by omega)).trans HX7.out);have HK8 := zH K8;have HN8 := zH hN8;clear h8 k8 K8 WD HX7 HK7 hN8;go_wp2_with fail
  refine SG.out.mono ?_; rintro e w9 ⟨rfl, h9, k9⟩
  have hs9 := k9.size;have K9 := HK8.out.trans k9;obtain ⟨i9, e9⟩ : ∃ i9, i9 = psI b8 (S.sign i8 [58]) i8 := ⟨_, rfl⟩;obtain ⟨b9, f9⟩ : ∃ b9, b9 = psB b8 (S.sign i8 [58]) := ⟨_, rfl⟩;have h9' : CSt q A S.n cn i9 b9 w9 := by rw [e9, f9]; exact h9
  have RE := zH (ctype_any (HC.out.on K9 hq) h9' HE.out (fun e => by rw [e9]; exact name_sign_le hup7 HN8.out (by rw [<- f9]; exact e)));have HX9 := zH ((k9.blk (by omega) (by omega)).trans HX8.out);have HK9 := zH K9
  have WORDS : Hid (badR b9 i9 (typL 1 m s (atR S i9)) = oneL S i n) := zH (by
   rw [<- FIN.out];have n6 := HN6.out;have n8 := HN8.out;rw [small_k] at n6;rw [small_k] at n8;exact line_words (k := 1) (by decide) n6 HE7.out HF7.out n8 e9 f9)
  clear h9 h9' k9 K9 SG HX8 HK8 e9 f9 FIN HN6 HN8 HE7 HF7;go_upto_region 13 with fail
  go_wp2_with fail
  refine RE.out.mono ?_; rintro e wa ⟨l, t, ia, ba, rfl, hTa, ka, ha, hres⟩
  obtain ⟨An, cA, As, cS, rfl, -⟩ := hTa.parts;have hsa := ka.size;have Ka := HK9.out.trans ka;have Xa := (ka.blk (by omega) (by omega)).trans HX9.out;have Ta : TyAt (strike (· < w.heap.size + 1) wa) [.int .i64 t.kind, .string t.pkg, .int .i64 t.major, .string t.mod, .string t.name, .slice An t.names.length cA, .slice As t.subs.length cS] t := hTa.move (Nat.le_refl _) fun b hb hS => ⟨by omega, rfl⟩
  have SEAL := zH (LnOut.fin (R := oneL S i n) (k := 1) (m := m) (s := s) (by omega) (by omega) Ta Ka hq ha Xa (by rw [<- WORDS.out]; exact line_typ hres));have HXa := zH Xa;clear Ta Ka ha hTa ka hres RE HX9 HK9 WORDS HE;go_wp2_with (first | ((with_reducible refine wpList_putRow 59 (w.heap.size) #[.int .i64 1, .string m, .string s, .int .i64 t.kind, .string t.pkg, .int .i64 t.major, .string t.mod, .string t.name, .slice An t.names.length cA, .slice As t.subs.length cS] _ _ Xa ?_ ?_ ?_ ?_ ?_ ?_); exact lnSize; rfl; exact lnOne; iterate 2 (focus (first | (go_simp; done) | rfl))))
  exact ret_agg1 (fn := Tryz.f37) (vs := [.int .i64 1, .string m, .string s, .int .i64 t.kind, .string t.pkg, .int .i64 t.major, .string t.mod, .string t.name, .slice An t.names.length cA, .slice As t.subs.length cS]) (b := w.heap.size) rfl rfl Tryz.underlying59 (by kernel_rfl) (cell10 (setRow_heap _ w.heap.size _ _ _ _ HXa.out)) rfl SEAL.out
theorem cuses_any {W : World} {q : Nat} {A : Option Addr} {S : Toks} {cn : Nat} {w : World} (hc : CdCtx W q A S w) (h : CSt q A S.n cn 0 0 w) (he : CEnv W) :
  Calls Tryz.prog 16 #[.pointer (some ⟨q, 0, none⟩)] w (UrOut w q A S.n cn (usesR S)) := by
 have hq := h.lt
 have hbig := hc.big
 obtain ⟨w0, hw0⟩ : ∃ w0, w0 = w.alloc (.cells #[.slice none 0 0, .slice none 0 0] 26) := ⟨_, rfl⟩
 have B0 : Below w.heap.size w w0 := by rw [hw0]; exact below_new (Below.refl _ _) _
 have X0 : w0.heap[w.heap.size]? = some (.cells #[.slice none 0 0, .slice none 0 0] 26 (0, 0)) := by rw [hw0]; exact heap_alloc_new w _
 have s0 : w0.heap.size = w.heap.size + 1 := by rw [hw0]; simp
 have K0 := Kp.of_below (r := q) B0
 have IM := zH (cimps_any (hc.on K0 hq) (h.below B0) he)
 have HC := zH hc
 have HE := zH he
 have HX0 := zH X0
 have HK0 := zH K0
 have HW0 := zH hw0
 have hl0 : w.heap.size < w0.heap.size := by omega
 clear hc h he hw0 B0 X0 K0
 go_enter Tryz.func16, Tryz.ntmps16
 go_upto_region 1 with fail
 rw [<- HW0.out]
 go_wp2_with fail
 refine IM.out.mono ?_; rintro e w4 ⟨l, Ai, ci, i4, b4, rfl, k4, hrow4, h4, hF4, hl21⟩
 have hs4 := k4.size
 have hcap := hrow4.cap
 have X4 := (k4.blk hl0 (by omega)).trans HX0.out
 obtain ⟨w5, hw5⟩ : ∃ w5, w5 = w4.alloc (.cells #[.slice Ai l.length ci, .slice none 0 0] 26) := ⟨_, rfl⟩
 have B5 : Below w4.heap.size w4 w5 := by rw [hw5]; exact below_new (Below.refl _ _) _
 have s5 : w5.heap.size = w4.heap.size + 1 := by rw [hw5]; simp
 have Y5 : Ux w4.heap.size Ai l.length ci none 0 0 w5 := by rw [hw5]; exact heap_alloc_new w4 _
 have INV : Hid (LpI w q A S cn (usesR S) w4.heap.size w5.heap.size w0.heap.size l Ai ci [] none 0 i4 b4 w5) := zH
  ⟨(HK0.out.trans k4).trans (Kp.of_below B5), Y5, (B5.block _ (by omega)).trans X4,
   (hrow4.done (Nat.le_refl _)).move (by omega) fun b hb hS => ⟨by omega, B5.block b hb⟩, Row.start _ _ _,
   h4.below B5, by rw [badR_0] at hF4; exact (uses_chain hF4.symm).symm, fun _ => by simp, by simp, Nat.le_refl _⟩
 have HW5 := zH hw5
 have hd1 : w0.heap.size <= w4.heap.size := by omega
 have hd5 : w4.heap.size < w5.heap.size := by omega
 clear k4 hrow4 h4 hF4 hs4 X4 hw5 B5 s5 Y5 IM HX0 HK0 HW0
 generalize hdd : w4.heap.size = d at INV hd1 hd5
 go_upto_region 2 with fail
 rw [<- HW5.out]
 clear HW5
 generalize hlo : w5.heap.size = lo at INV hd5
 try rw [hdd]
 clear hdd
 go_loopw [] (fun wr => ∃ (xs : List Ln) (Ad : Option Addr) (cd i b : Nat), Hid (LpI w q A S cn (usesR S) d lo w0.heap.size l Ai ci xs Ad cd i b wr)) (fun wr => cuM q S.n wr)
 case atStart => exact ⟨[], none, 0, i4, b4, INV⟩
 case round =>
  obtain ⟨xs, Ad, cd, i, b, HI⟩ := hrel;obtain ⟨wo, rfl⟩ : ∃ wo : World, wo = wr := ⟨_, rfl⟩;have DN := zH (done_any HI.out.cur hbig);have hso := HI.out.kp.size;have hlole := HI.out.lole;go_wp2_with fail
  refine DN.out.mono ?_; rintro e w6 ⟨rfl, hb6⟩
  have hs6 := hb6.size
  have I6 : LpI w q A S cn (usesR S) d lo w0.heap.size l Ai ci xs Ad cd i b w6 :=
   ⟨HI.out.kp.trans (Kp.of_below hb6), (hb6.block d (by omega)).trans HI.out.box, (hb6.block _ (by omega)).trans HI.out.res,
    HI.out.ims.move hs6 fun b hb hS => ⟨hS, hb6.block b hb⟩, HI.out.rows.keep hs6 (fun b _ hlt => hb6.block b hlt), HI.out.cur.below hb6, HI.out.fin, HI.out.most, HI.out.some, by omega⟩
  obtain ⟨v, hv⟩ : ∃ v, (decide (b = 0) && decide (i < S.n)) = v := ⟨_, rfl⟩;rw [hv];have HV := zH hv;have HI6 := zH I6;have MI := zH HI.out.cur.m;clear hv I6 hb6 DN HI;cases v with
  | false =>
   have SEAL := zH (HI6.out.fin2 (by omega) hcap (by omega) (by omega) hq HV.out);have Y6 := HI6.out.box;obtain ⟨x0, x1⟩ := cq2 Y6;simp at x0 x1;have X6 := HI6.out.res;have HX6 := zH X6;clear Y6 HI6 INV;go_upto_region 4 with fail
   go_wp2_with (first | ((with_reducible refine wpList_putRow 26 (w.heap.size) #[.slice Ai l.length ci, .slice Ad xs.length cd] _ _ X6 ?_ ?_ ?_ ?_ ?_ ?_); exact usSize; rfl; exact usOne; iterate 2 (focus (first | (go_simp; done) | rfl))))
   exact ret_agg1 (fn := Tryz.f16) (vs := [.slice Ai l.length ci, .slice Ad xs.length cd]) (b := w.heap.size) rfl rfl Tryz.underlying26 (by kernel_rfl) (cell2 (setRow_heap _ w.heap.size _ _ _ _ HX6.out)) rfl SEAL.out
  | true =>
   have hbk : b = 0 /\ i < S.n := by have := HV.out; simpa using this
   obtain ⟨hb0, hin⟩ := hbk;subst hb0;have h60 := HI6.out.most rfl;have HF : Hid (usesR S = restL S l i xs) := zH (by have := HI6.out.fin; rwa [badR_0] at this);have hn63 : ¬ ((xs.length : Int) > 9223372036854775807) := by omega
   have BD : Below w6.heap.size w6 w6.drew := Below.drew (Below.refl _ _);have CA := zH (cline_any (HC.out.on (HI6.out.kp.trans (Kp.of_below BD)) hq) (HI6.out.cur.below BD) HE.out hin xs.length (by omega))
   have hH0 : w6.drew.cell? ⟨d, 1, none⟩ = some (.slice Ad xs.length cd) := by
    have := cZ HI6.out.box 1
    simpa using this
   have hd6 : d < w6.heap.size := by omega
   clear INV;go_upto_region 3 with fail
   refine AnyX.start (fun wx => wx.cell? ⟨d, 1, none⟩ = some (.slice Ad xs.length cd)) (fun k => k == 10) (by kernel_rfl) ?_;refine AnyX.mv (i := 0) (v := ?_) rfl (fun _ _ _ h => h) (Or.inl ⟨by rfl, ?_⟩) ?_;rotate_left
   ·(intro wS _; go_simp; try with_reducible rfl)
   simp only [getElem_toArray, getElem_cons_succ, getElem_cons_zero];simp only [Act.put, setIfInBounds_toArray, set_cons_zero, set_cons_succ];refine AnyX.tk (i := 1) (v := ?_) rfl (fun _ _ _ h => h) hH0 (Or.inl ⟨by rfl, ?_⟩) ?_;rotate_left
   ·(intro wS hS; (try obtain hc := hS); go_simp; try with_reducible rfl)
   simp only [getElem_toArray, getElem_cons_succ, getElem_cons_zero];simp only [Act.put, setIfInBounds_toArray, set_cons_zero, set_cons_succ];refine AnyX.mv (i := 2) (v := ?_) rfl (fun _ _ _ h => h) (Or.inl ⟨by rfl, ?_⟩) ?_;rotate_left
   ·(intro wS _; go_simp; try with_reducible rfl)
   simp only [getElem_toArray, getElem_cons_succ, getElem_cons_zero];simp only [Act.put, setIfInBounds_toArray, set_cons_zero, set_cons_succ];refine AnyX.mv (i := 3) (v := ?_) rfl (fun _ _ _ h => h) (Or.inl ⟨by rfl, ?_⟩) ?_;rotate_left
   ·(intro wS _; go_simp; try with_reducible rfl)
   simp only [getElem_toArray, getElem_cons_succ, getElem_cons_zero];simp only [Act.put, setIfInBounds_toArray, set_cons_zero, set_cons_succ];refine AnyX.tk (i := 4) (v := ?_) rfl (fun _ _ _ h => h) hH0 (Or.inl ⟨by rfl, ?_⟩) ?_;rotate_left
   ·(intro wS hS; (try obtain hc := hS); go_simp; try with_reducible rfl)
   simp only [getElem_toArray, getElem_cons_succ, getElem_cons_zero];simp only [Act.put, setIfInBounds_toArray, set_cons_zero, set_cons_succ];refine AnyX.mv (i := 5) (v := ?_) rfl (fun _ _ _ h => h) (Or.inl ⟨by rfl, ?_⟩) ?_;rotate_left
   ·(intro wS _; go_simp; try with_reducible rfl)
   simp only [getElem_toArray, getElem_cons_succ, getElem_cons_zero];simp only [Act.put, setIfInBounds_toArray, set_cons_zero, set_cons_succ];refine AnyX.go 6 (by kernel_rfl) rfl rfl (fun K hK => ?_);simp only [getElem_toArray, getElem_cons_succ, getElem_cons_zero];go_simp
   refine CA.out.mono ?_;rintro e w7 ⟨l7, x, i7, b7, he7, z7, hT7, k7, h7, hres⟩;obtain ⟨t, ht⟩ : ∃ t, t = x.typ := ⟨_, rfl⟩;rw [<- ht] at hT7;have HTY := zH ht;clear ht;obtain ⟨An, cA, As, cS, rfl, -⟩ := hT7.parts;have he7' : e = .returned (.agg #[.int .i64 x.kind, .string x.mod, .string x.name, .int .i64 t.kind, .string t.pkg, .int .i64 t.major, .string t.mod, .string t.name, .slice An t.names.length cA, .slice As t.subs.length cS]) := he7
   subst he7';have hsd : w6.drew.heap.size = w6.heap.size := rfl;have hs7 := k7.size;have Y7 : Ux d Ai l.length ci Ad xs.length cd w7 := (k7.blk hd6 (by omega)).trans HI6.out.box
   have y7 : w7.cell? ⟨d, 1, none⟩ = some (.slice Ad xs.length cd) := by
    have := cZ Y7 1
    simpa using this
   have ROW7 := HI6.out.rows.keep (w' := w7) (by omega) (fun b hb hlt => k7.blk hlt (by omega));have K7 := (HI6.out.kp.trans (Kp.of_below BD)).trans k7;have IMS7 : RowIn imR (strike (fun b => b < w0.heap.size \/ d <= b) w7) Ai l := HI6.out.ims.move (by omega) fun b hb hS => ⟨hS, k7.blk hb (fun e => hS (.inl (by omega)))⟩
   have X7 := (k7.blk (show w.heap.size < w6.heap.size by omega) (by omega)).trans HI6.out.res;simp only [];refine hK.out _ _ (fun hoff _ => y7) ?_;clear hK;(try simp only [Act.put, setIfInBounds_toArray, set_cons_zero, set_cons_succ]);refine AnyX.go 7 (by kernel_rfl) rfl rfl (fun K hK => ?_);simp only [getElem_toArray, getElem_cons_succ, getElem_cons_zero];go_simp
   refine hK.out _ _ (fun hoff _ => cell_alloc y7) ?_;clear hK;(try simp only [Act.put, setIfInBounds_toArray, set_cons_zero, set_cons_succ]);obtain ⟨C, hC1, hown, hC4⟩ := ROW7.cells;obtain ⟨inf, hi1', hy0, hy1, hy2⟩ := info_parts ln_info;have hMX : xs.length + 1 <= maxLen := by unfold maxLen; omega
   have hwo : ∀ b, (Value.slice Ad xs.length cd).ownBlock = some b -> b < w6.heap.size := fun b e => (HI6.out.rows.lt e).2
   have hAL : ∀ oo, lo <= (w7.alloc oo).heap.size := fun oo => by have e1 : (w7.alloc oo).heap.size = w7.heap.size + 1 := (by simp); omega
   refine AnyX.go 8 (by kernel_rfl) rfl rfl (fun K hK => ?_);simp only [getElem_toArray, getElem_cons_succ, getElem_cons_zero];refine wp_append_lies _ (.tmp 11) (.tmp 17) 24 rfl lo 59 inf _ 10 152 Tryz.underlying24 hi1' hy0 hy1 hy2 (by rfl) (Nat.zero_lt_succ 9) (.slice Ad xs.length cd) xs.length _ rfl (hown.alloc _) ⟨w7.heap.size, 0, none⟩ 1 1 [.int .i64 x.kind, .string x.mod, .string x.name, .int .i64 t.kind, .string t.pkg, .int .i64 t.major, .string t.mod, .string t.name, .slice An t.names.length cA, .slice As t.subs.length cS] rfl rfl (fun q u hq => by rw [WideShapes.add_plain, Nat.zero_add, cZ (heap_alloc_new w7 _), <- hq, <- List.getElem?_toArray]) (fun u hu => by simp at hu; rcases hu with rfl | rfl | rfl | rfl | rfl | rfl | rfl | rfl | rfl | rfl <;> rfl) Nat.one_pos hMX (by omega) (hAL _) _ rfl ?_;intro gb cap w8 hown8 hgrow hat hlt8;have MORE := lns_more (w := w) (x := x) ROW7 (B := w6.heap.size) (by omega) hwo hC1 hC4 ⟨z7, _, rfl, by rw [<- HTY.out]; exact hT7⟩ hown8 hgrow hat (by omega) (by omega) (by omega) hq Y7 K7 h7;obtain ⟨ROW9, Y9, K9, h9, old9, z9, e9, hs9⟩ := MORE;refine hK.out _ _ (fun hoff _ => z9) ?_;clear hK;(try simp only [Act.put, setIfInBounds_toArray, set_cons_zero, set_cons_succ]);refine AnyX.mv (i := 9) (v := ?_) rfl (fun _ _ _ h => h) (Or.inl ⟨by rfl, ?_⟩) ?_;rotate_left
   ·(intro wS _; go_simp; try with_reducible rfl)
   simp only [getElem_toArray, getElem_cons_succ, getElem_cons_zero];simp only [Act.put, setIfInBounds_toArray, set_cons_zero, set_cons_succ];refine AnyX.go 10 (by kernel_rfl) rfl rfl (fun K hK => ?_);simp only [getElem_toArray, getElem_cons_succ, getElem_cons_zero];go_simp
   refine hK.out _ _ (fun hoff _ => absurd hoff (by decide)) ?_;clear hK;(try simp only [Act.put, setIfInBounds_toArray, set_cons_zero, set_cons_succ]);refine AnyX.done (by kernel_rfl) ?_ _;obtain ⟨hF9, hlim⟩ := restL_yes (l := l) h60 hin hres;have hlen : (xs ++ [x]).length = xs.length + 1 := by simp
   have INV9 : Hid (LpI w q A S cn (usesR S) d lo w0.heap.size l Ai ci (xs ++ [x]) (some ⟨gb, 0, none⟩) cap i7 b7 (w8.setCell ⟨d, 1, none⟩ (.slice (some ⟨gb, 0, none⟩) (xs.length + 1) cap))) := zH
    ⟨K9, by rw [hlen]; exact Y9, (old9 _ (by omega) (by omega)).trans X7, IMS7.move hs9 fun b hb hS => ⟨hS, old9 b (by omega) (by omega)⟩, ROW9, h9, by rw [HF.out]; exact hF9, fun e => by have := (hlim e).1; omega, by omega, by omega⟩
   have MEAS : Hid (cuM q S.n (w8.setCell ⟨d, 1, none⟩ (.slice (some ⟨gb, 0, none⟩) (xs.length + 1) cap)) < cuM q S.n wo) := zH (by
    rw [MI.out, h9.m];simp only [if_true];split
    ·rename_i e
     have := hlim e
     omega
    ·omega)
   clear hT7 k7 h7 hres ROW7 K7 hC1 hown hC4 hi1' hy0 hy1 hy2 hown8 hgrow hat hlt8 ROW9 Y9 K9 old9 z9 e9 hs9 h9 hlim hF9 CA IMS7 X7 Y7 y7 hwo hAL HI6 HF;go_wp2_with fail
   go_roundw
   case rel => exact ⟨xs ++ [x], some ⟨gb, 0, none⟩, cap, i7, b7, INV9⟩
   case measure => exact MEAS.out
def PuOut (w : World) (R : Res Us) (e : Ending) (w' : World) : Prop :=
  Below w.heap.size w w' /\
  ((∃ (l : List Value) (u : Us) (j : Nat), R = .ok u j 0 /\ e = .returned (.tuple #[.agg l.toArray, .nilIface]) /\ UsAt (strike (· < w.heap.size) w') l u /\ CapU l u) \/
   (∃ (b j g : Nat), R = .err b j /\ b ≠ 0 /\ e = .returned (.tuple #[.agg #[.slice none 0 0, .slice none 0 0], .iface 70 (.pointer (some ⟨g, 0, none⟩))]) /\ SpC g j b w'))
def PlOut (w : World) (e : Ending) (w' : World) : Prop := e = .returned (.tuple #[.agg #[.slice none 0 0, .slice none 0 0], .iface 31 (.int .i64 3)]) /\ Below w.heap.size w w'
theorem guparse_large (s : ByteArray) (w : World) (hs : 20000 < s.size) : Calls Tryz.prog 15 #[.string s, .func (.func 16) #[] #[]] w (PlOut w) := by
  obtain ⟨w0, hw0, B0, X0, Z0, hl0⟩ := two_boxes w #[.slice none 0 0, .slice none 0 0] #[.slice none 0 0, .slice none 0 0] 26 26;have FIN : Hid (PlOut w (.returned (.tuple #[.agg #[.slice none 0 0, .slice none 0 0], .iface 31 (.int .i64 3)])) (w0.setRow w.heap.size #[.slice none 0 0, .slice none 0 0])) := zH ⟨rfl, setRow_below B0 (Nat.le_refl _) _⟩;have HX0 := zH X0;have HW0 := zH hw0;have TK := zH (tokens_large s w0 hs);obtain ⟨z0, z1⟩ := cq2 Z0;simp at z0 z1;clear hw0 B0 Z0;go_enter Tryz.func15, Tryz.ntmps15
  go_upto_region 2 with fail
  rw [<- HW0.out];go_wp2_with fail
  refine TK.out.mono ?_; rintro e w1 ⟨rfl, rfl⟩
  go_upto_region 4 with fail
  go_wp2_with (first | ((with_reducible refine wpList_putRow 26 (w.heap.size) #[.slice none 0 0, .slice none 0 0] _ _ X0 ?_ ?_ ?_ ?_ ?_ ?_); exact usSize; rfl; exact usOne; iterate 2 (focus (first | (go_simp; done) | rfl))))
  exact ret_agg (fn := Tryz.f15) (vs := [.slice none 0 0, .slice none 0 0]) (b := w.heap.size) rfl rfl rfl Tryz.underlying26 (by kernel_rfl) (cell2 (setRow_heap w0 (w.heap.size) _ _ _ _ HX0.out)) rfl FIN.out
theorem guparse_any (s : ByteArray) (w : World) (hs : s.size <= 20000) (he : CEnv w) : Calls Tryz.prog 15 #[.string s, .func (.func 16) #[] #[]] w (PuOut w (parU s)) := by
  obtain ⟨w0, hw0, B0, X0, Z0, hl0⟩ := two_boxes w #[.slice none 0 0, .slice none 0 0] #[.slice none 0 0, .slice none 0 0] 26 26;have hlw : w.heap.size < w0.heap.size := by omega
  have HX0 := zH X0;have HZ0 := zH Z0;have HB0 := zH B0;have HW0 := zH hw0;have HE := zH he;clear hw0 B0 X0 Z0 he;rcases toks_cases s with ⟨ts, hf⟩ | ⟨k, hf⟩
  rotate_left
  · have TK := zH (tokens_no s k w0 hs hf)
    have HP := zH (parU_no hf);clear hf;go_enter Tryz.func15, Tryz.ntmps15
    go_upto_region 2 with fail
    rw [<- HW0.out];go_wp2_with fail
    refine TK.out.mono ?_; rintro e w1 ⟨b, rfl, hb0, hb1, c0, c1, B1⟩
    have X1 := (B1.block _ hlw).trans HX0.out;have Z1 := (B1.block _ hl0).trans HZ0.out;obtain ⟨z0, z1⟩ := cq2 Z1;simp at z0 z1
    have FIN : Hid (PuOut w (parU s) (.returned (.tuple #[.agg #[.slice none 0 0, .slice none 0 0], .iface 70 (.pointer (some ⟨b, 0, none⟩))])) (w1.setRow w.heap.size #[.slice none 0 0, .slice none 0 0])) := zH
      ⟨setRow_below (below_over HB0.out B1) (Nat.le_refl _) _, .inr ⟨2, k, b, HP.out, by decide, rfl, SpC.row (show SpC b (k : Int) 2 w1 from ⟨hb1, c0, c1⟩) (by omega) _⟩⟩
    have HX1 := zH X1;clear hb0 hb1 c0 c1 B1 TK Z1;go_upto_region 4 with fail
    go_wp2_with (first | ((with_reducible refine wpList_putRow 26 (w.heap.size) #[.slice none 0 0, .slice none 0 0] _ _ X1 ?_ ?_ ?_ ?_ ?_ ?_); exact usSize; rfl; exact usOne; iterate 2 (focus (first | (go_simp; done) | rfl))))
    exact ret_agg (fn := Tryz.f15) (vs := [.slice none 0 0, .slice none 0 0]) (b := w.heap.size) rfl rfl rfl Tryz.underlying26 (by kernel_rfl) (cell2 (setRow_heap w1 (w.heap.size) _ _ _ _ HX1.out)) rfl FIN.out
  have hsz : ∀ t ∈ ts, t.text.size <= 20000 := fun t ht => Nat.le_trans (fin_size s hf t ht) hs
  have TK := zH (tokens_yes s ts w0 hs hf);have hlen : ts.length <= 20000 := Nat.le_trans (fin_len s hf) hs;have HP := zH (parU_yes hf);have HSZ := zH hsz;clear hf hsz;go_enter Tryz.func15, Tryz.ntmps15
  go_upto_region 2 with fail
  rw [<- HW0.out];go_wp2_with fail
  refine TK.out.mono ?_; rintro e w1 ⟨A, cn, rfl, hlen', hrow, B1⟩
  have B01 := below_over HB0.out B1;have s1 : w0.heap.size <= w1.heap.size := B1.size;have NW := zH (new_any A (tkS ts).n cn 0 w1);obtain ⟨w2, hw2⟩ : ∃ w2, w2 = w1.alloc (.cells #[.slice A (tkS ts).n cn, .int .i64 0, .nilIface] 87) := ⟨_, rfl⟩;have B2 : Below w1.heap.size w1 w2 := by rw [hw2]; exact below_new (Below.refl _ _) _
  have s2 : w2.heap.size = w1.heap.size + 1 := by rw [hw2]; simp
  have G2 : CSt w1.heap.size A (tkS ts).n cn 0 0 w2 := .inl ⟨rfl, by unfold CGd; rw [hw2]; exact heap_alloc_new w1 _⟩;have C2 : CdCtx w1 w1.heap.size A (tkS ts) w2 := ⟨hrow.toks HSZ.out, B2, Nat.le_refl _, tkS_big hlen, tkS_small HSZ.out⟩;have RE := zH (cuses_any C2 G2 (HE.out.on B01));have HX2 := zH ((B2.block w.heap.size (by omega)).trans ((B1.block _ hlw).trans HX0.out));have HZ2 := zH ((B2.block (w.heap.size + 1) (by omega)).trans ((B1.block _ hl0).trans HZ0.out));have HB02 := zH (below_over B01 B2);have HW2 := zH hw2;clear hrow B1 B01 hw2 B2 G2 C2 TK HX0 HB0 HZ0;go_upto_region 5 with fail
  go_wp2_with fail
  refine NW.out.mono ?_; rintro e wz ⟨rfl, rfl⟩
  go_upto_region 6 with fail
  rw [<- HW2.out];go_wp2_with fail
  refine RE.out.mono ?_;rintro e w3 ⟨l, m, i3, b3, rfl, hM, hCap, k3, h3, hres⟩;obtain ⟨Ai, ci, Ad, cd, rfl, -⟩ := hM.free;have hs3 := k3.size;obtain ⟨w4, hw4⟩ : ∃ w4, w4 = w3.alloc (.cells #[.slice Ai m.imps.length ci, .slice Ad m.lines.length cd] 26) := ⟨_, rfl⟩;have B4 : Below w3.heap.size w3 w4 := by rw [hw4]; exact below_new (Below.refl _ _) _
  have O4 : w4.heap[w3.heap.size]? = some (.cells #[.slice Ai m.imps.length ci, .slice Ad m.lines.length cd] 26 (0, 0)) := by rw [hw4]; exact heap_alloc_new w3 _
  have h4 := h3.below B4;have X4 := (B4.block w.heap.size (by omega)).trans ((k3.blk (show w.heap.size < w2.heap.size by omega) (by omega)).trans HX2.out);have Z4 := (B4.block (w.heap.size + 1) (by omega)).trans ((k3.blk (show w.heap.size + 1 < w2.heap.size by omega) (by omega)).trans HZ2.out);have B24 : Below w.heap.size w w4 := HB02.out.trans (((k3.trans (Kp.of_below B4)).below (by omega)).mono (by omega));have M4 : UsAt (strike (· < w2.heap.size) w4) [.slice Ai m.imps.length ci, .slice Ad m.lines.length cd] m := hM.move B4.size fun b hb hS => ⟨hS, B4.block b hb⟩
  have HCAP := zH hCap;have HW4 := zH hw4;have HM4 := zH M4;have HB4 := zH B24;have H4 := zH h4;have HX4 := zH X4;have HZ4 := zH Z4;have HO4 := zH O4;have HRS := zH hres;have hs24 : w2.heap.size <= w4.heap.size := by have := B4.size; omega
  have hq1 : w1.heap.size < w4.heap.size := by omega
  clear hM hCap k3 h3 hres B4 O4 h4 X4 Z4 B24 M4 hw4 RE HX2 HZ2 HB02 NW;go_upto_region 7 with fail
  rw [<- HW4.out];by_cases hb : b3 = 0
  · subst hb
    have hok : parU s = .ok m i3 0 := by rw [HP.out, <- HRS.out]; rfl
    have O4 := HO4.out;obtain ⟨x0, x1⟩ := cq2 O4;have c2 := cZ H4.out.good 2;simp at x0 x1 c2;have X4 := HX4.out
    have FIN : Hid (PuOut w (parU s) (.returned (.tuple #[.agg #[.slice Ai m.imps.length ci, .slice Ad m.lines.length cd], .nilIface])) (w4.setRow w.heap.size #[.slice Ai m.imps.length ci, .slice Ad m.lines.length cd])) := zH
      ⟨setRow_below HB4.out (Nat.le_refl _) _, .inl ⟨_, m, i3, hok, rfl, HM4.out.move (by simp) fun b hb hS => ⟨fun e => hS (by omega), setRow_other w4 w.heap.size b _ (by omega)⟩, HCAP.out⟩⟩
    clear hok O4;go_upto_region 9 with fail
    go_wp2_with (first | ((with_reducible refine wpList_putRow 26 (w.heap.size) #[.slice Ai m.imps.length ci, .slice Ad m.lines.length cd] _ _ X4 ?_ ?_ ?_ ?_ ?_ ?_); exact usSize; rfl; exact usOne; iterate 2 (focus (first | (go_simp; done) | rfl))))
    exact ret_agg (fn := Tryz.f15) (vs := [.slice Ai m.imps.length ci, .slice Ad m.lines.length cd]) (b := w.heap.size) rfl rfl rfl Tryz.underlying26 (by kernel_rfl) (cell2 (setRow_heap w4 (w.heap.size) _ _ _ _ HX4.out)) rfl FIN.out
  · have herr : parU s = .err b3 i3 := by rw [HP.out, <- HRS.out]; exact badR_ne _ _ hb
    obtain ⟨x, g, Gq, Gg⟩ := H4.out.bad hb;have X4 := HX4.out;have hgne : g ≠ w.heap.size := two_types Gg HX4.out (by decide)
    have FIN : Hid (PuOut w (parU s) (.returned (.tuple #[.agg #[.slice none 0 0, .slice none 0 0], .iface 70 (.pointer (some ⟨g, 0, none⟩))])) (w4.drew.setRow w.heap.size #[.slice none 0 0, .slice none 0 0])) := zH
      ⟨setRow_below (below_over HB4.out (Below.drew (Below.refl _ _))) (Nat.le_refl _) _, .inr ⟨b3, i3, g, herr, hb, rfl, SpC.row (SpC.below (SpAt.cells Gg) (Below.drew (Below.refl _ _))) hgne _⟩⟩
    have c2 := cZ Gq 2;obtain ⟨z0, z1⟩ := cq2 HZ4.out;simp at c2 z0 z1;have hne1 : w1.heap.size ≠ w.heap.size := by omega
    have hne2 : w.heap.size + 1 ≠ w.heap.size := by omega
    clear herr Gq Gg;go_upto_region 8 with fail
    refine AnyX.start (fun wx => wx.cell? ⟨w.heap.size + 1, 0, none⟩ = some (.slice none 0 0) /\ wx.cell? ⟨w.heap.size + 1, 1, none⟩ = some (.slice none 0 0) /\ wx.cell? ⟨w1.heap.size, 2, none⟩ = some (.iface 70 (.pointer (some ⟨g, 0, none⟩)))) (fun _ => false) (by kernel_rfl) ?_;have hH0 : w4.drew.cell? ⟨w.heap.size + 1, 0, none⟩ = some (.slice none 0 0) /\ w4.drew.cell? ⟨w.heap.size + 1, 1, none⟩ = some (.slice none 0 0) /\ w4.drew.cell? ⟨w1.heap.size, 2, none⟩ = some (.iface 70 (.pointer (some ⟨g, 0, none⟩))) := ⟨z0, z1, c2⟩;refine AnyX.tk (i := 0) (v := ?_) rfl (fun _ _ _ h => h) hH0 (Or.inl ⟨by rfl, ?_⟩) ?_;rotate_left
    · (intro wS hS; (try obtain ⟨p0, p1, p2⟩ := hS); go_simp; try with_reducible rfl)
    simp only [getElem_toArray, getElem_cons_succ, getElem_cons_zero];simp only [Act.put, setIfInBounds_toArray, set_cons_zero, set_cons_succ];refine AnyX.mv (i := 1) (v := ?_) rfl (fun _ _ _ h => h) (Or.inl ⟨by rfl, ?_⟩) ?_;rotate_left
    · (intro wS _; go_simp; try with_reducible rfl)
    simp only [getElem_toArray, getElem_cons_succ, getElem_cons_zero];simp only [Act.put, setIfInBounds_toArray, set_cons_zero, set_cons_succ];refine AnyX.mv (i := 2) (v := ?_) rfl (fun _ _ _ h => h) (Or.inl ⟨by rfl, ?_⟩) ?_;rotate_left
    · (intro wS _; go_simp; try with_reducible rfl)
    simp only [getElem_toArray, getElem_cons_succ, getElem_cons_zero];simp only [Act.put, setIfInBounds_toArray, set_cons_zero, set_cons_succ];refine AnyX.mv (i := 3) (v := ?_) rfl (fun _ _ _ h => h) (Or.inl ⟨by rfl, ?_⟩) ?_;rotate_left
    · (intro wS _; go_simp; try with_reducible rfl)
    simp only [getElem_toArray, getElem_cons_succ, getElem_cons_zero];simp only [Act.put, setIfInBounds_toArray, set_cons_zero, set_cons_succ];refine AnyX.tk (i := 4) (v := ?_) rfl (fun _ _ _ h => h) hH0 (Or.inl ⟨by rfl, ?_⟩) ?_;rotate_left
    · (intro wS hS; (try obtain ⟨p0, p1, p2⟩ := hS); go_simp; try with_reducible rfl)
    simp only [getElem_toArray, getElem_cons_succ, getElem_cons_zero];simp only [Act.put, setIfInBounds_toArray, set_cons_zero, set_cons_succ];refine AnyX.go 5 (by kernel_rfl) rfl rfl (fun K hK => ?_);simp only [getElem_toArray, getElem_cons_succ, getElem_cons_zero];refine wp_store_row 26 (.tmp 4) (.tmp 30) rfl w.heap.size #[.slice none 0 0, .slice none 0 0] rfl rfl _ _ X4 usSize rfl usOne ?_;refine hK.out _ _ (fun hoff _ => ⟨(World.cell?_of_block (a := ⟨w.heap.size + 1, 0, none⟩) (setRow_other w4.drew w.heap.size _ _ hne2)).trans z0, (World.cell?_of_block (a := ⟨w.heap.size + 1, 1, none⟩) (setRow_other w4.drew w.heap.size _ _ hne2)).trans z1, (World.cell?_of_block (a := ⟨w1.heap.size, 2, none⟩) (setRow_other w4.drew w.heap.size _ _ hne1)).trans c2⟩) ?_;clear hK;(try simp only [Act.put, setIfInBounds_toArray, set_cons_zero, set_cons_succ]);refine AnyX.mv (i := 6) (v := ?_) rfl (fun _ _ _ h => h) (Or.inl ⟨by rfl, ?_⟩) ?_;rotate_left
    · (intro wS _; go_simp; try with_reducible rfl)
    simp only [getElem_toArray, getElem_cons_succ, getElem_cons_zero];simp only [Act.put, setIfInBounds_toArray, set_cons_zero, set_cons_succ];refine AnyX.done (by kernel_rfl) ?_ _;go_wp2_with fail
    exact ret_agg (fn := Tryz.f15) (vs := [.slice none 0 0, .slice none 0 0]) (b := w.heap.size) rfl rfl rfl Tryz.underlying26 (by kernel_rfl) (cell2 (setRow_heap _ (w.heap.size) _ _ _ _ HX4.out)) rfl FIN.out
theorem cuparse_large (s : ByteArray) (w : World) (hs : 20000 < s.size) : Calls Tryz.prog 6 #[.string s] w (PlOut w) := by
  obtain ⟨w0, hw0⟩ : ∃ w0, w0 = w.alloc (.cells #[.slice none 0 0, .slice none 0 0] 26) := ⟨_, rfl⟩;have B0 : Below w.heap.size w w0 := by rw [hw0]; exact below_new (Below.refl _ _) _
  have X0 : w0.heap[w.heap.size]? = some (.cells #[.slice none 0 0, .slice none 0 0] 26 (0, 0)) := by rw [hw0]; exact heap_alloc_new w _
  have hl0 : w.heap.size < w0.heap.size := by rw [hw0]; simp
  have CP := zH (guparse_large s w0 hs);have HX0 := zH X0;have HB0 := zH B0;have HW0 := zH hw0;clear hw0 B0 X0;go_enter Tryz.func6, Tryz.ntmps6
  go_upto_region 1 with fail
  rw [<- HW0.out];go_wp2_with fail
  refine CP.out.mono ?_; rintro e w1 ⟨rfl, hb1⟩
  have X1 := (hb1.block _ hl0).trans HX0.out;have HX1 := zH X1;have FIN : Hid (PlOut w (.returned (.tuple #[.agg #[.slice none 0 0, .slice none 0 0], .iface 31 (.int .i64 3)])) (w1.setRow w.heap.size #[.slice none 0 0, .slice none 0 0])) := zH ⟨rfl, setRow_below (below_over HB0.out hb1) (Nat.le_refl _) _⟩;clear hb1 CP;go_wp2_with (first | ((with_reducible refine wpList_putRow 26 (w.heap.size) #[.slice none 0 0, .slice none 0 0] _ _ X1 ?_ ?_ ?_ ?_ ?_ ?_); exact usSize; rfl; exact usOne; iterate 2 (focus (first | (go_simp; done) | rfl))))
  exact ret_agg (fn := Tryz.f6) (vs := [.slice none 0 0, .slice none 0 0]) (b := w.heap.size) rfl rfl rfl Tryz.underlying26 (by kernel_rfl) (cell2 (setRow_heap w1 (w.heap.size) _ _ _ _ HX1.out)) rfl FIN.out
theorem cuparse_any (s : ByteArray) (w : World) (hs : s.size <= 20000) (he : CEnv w) : Calls Tryz.prog 6 #[.string s] w (PuOut w (parU s)) := by
  obtain ⟨w0, hw0⟩ : ∃ w0, w0 = w.alloc (.cells #[.slice none 0 0, .slice none 0 0] 26) := ⟨_, rfl⟩;have B0 : Below w.heap.size w w0 := by rw [hw0]; exact below_new (Below.refl _ _) _
  have X0 : w0.heap[w.heap.size]? = some (.cells #[.slice none 0 0, .slice none 0 0] 26 (0, 0)) := by rw [hw0]; exact heap_alloc_new w _
  have hl0 : w.heap.size < w0.heap.size := by rw [hw0]; simp
  have CP := zH (guparse_any s w0 hs (he.on B0));have HX0 := zH X0;have HB0 := zH B0;have HW0 := zH hw0;clear hw0 B0 X0 he;go_enter Tryz.func6, Tryz.ntmps6
  go_upto_region 1 with fail
  rw [<- HW0.out];go_wp2_with fail
  refine CP.out.mono ?_; rintro e w1 ⟨hb1, hres⟩
  have X1 := (hb1.block _ hl0).trans HX0.out;have HX1 := zH X1;have HB1 := zH (below_over HB0.out hb1);rcases hres with ⟨l, u, j, hok, rfl, hU, hC⟩ | ⟨b, j, g, herr, hb, rfl, hsp⟩
  · obtain ⟨Ai, ci, Ad, cd, rfl, -⟩ := hU.free
    have FIN : Hid (PuOut w (parU s) (.returned (.tuple #[.agg #[.slice Ai u.imps.length ci, .slice Ad u.lines.length cd], .nilIface])) (w1.setRow w.heap.size #[.slice Ai u.imps.length ci, .slice Ad u.lines.length cd])) := zH
      ⟨setRow_below HB1.out (Nat.le_refl _) _, .inl ⟨_, u, j, hok, rfl, hU.move (by simp) fun b hb hS => ⟨fun e => hS (by omega), setRow_other w1 w.heap.size b _ (by omega)⟩, hC⟩⟩
    clear hb1 CP hU hC hok;go_wp2_with (first | ((with_reducible refine wpList_putRow 26 (w.heap.size) #[.slice Ai u.imps.length ci, .slice Ad u.lines.length cd] _ _ X1 ?_ ?_ ?_ ?_ ?_ ?_); exact usSize; rfl; exact usOne; iterate 2 (focus (first | (go_simp; done) | rfl))))
    exact ret_agg (fn := Tryz.f6) (vs := [.slice Ai u.imps.length ci, .slice Ad u.lines.length cd]) (b := w.heap.size) rfl rfl rfl Tryz.underlying26 (by kernel_rfl) (cell2 (setRow_heap w1 (w.heap.size) _ _ _ _ HX1.out)) rfl FIN.out
  · have FIN : Hid (PuOut w (parU s) (.returned (.tuple #[.agg #[.slice none 0 0, .slice none 0 0], .iface 70 (.pointer (some ⟨g, 0, none⟩))])) (w1.setRow w.heap.size #[.slice none 0 0, .slice none 0 0])) := zH
      ⟨setRow_below HB1.out (Nat.le_refl _) _, .inr ⟨b, j, g, herr, hb, rfl, SpC.row hsp (fun e => by subst e; have h1 := hsp.2.1; rw [cZ HX1.out] at h1; simp at h1) _⟩⟩
    clear hb1 CP hsp herr;go_wp2_with (first | ((with_reducible refine wpList_putRow 26 (w.heap.size) #[.slice none 0 0, .slice none 0 0] _ _ X1 ?_ ?_ ?_ ?_ ?_ ?_); exact usSize; rfl; exact usOne; iterate 2 (focus (first | (go_simp; done) | rfl))))
    exact ret_agg (fn := Tryz.f6) (vs := [.slice none 0 0, .slice none 0 0]) (b := w.heap.size) rfl rfl rfl Tryz.underlying26 (by kernel_rfl) (cell2 (setRow_heap w1 (w.heap.size) _ _ _ _ HX1.out)) rfl FIN.out
end Go.Proofs.YtddlmigofilejaaGreatDoor
