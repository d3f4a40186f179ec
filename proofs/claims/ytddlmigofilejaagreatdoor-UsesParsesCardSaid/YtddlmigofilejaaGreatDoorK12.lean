/-
  Several texts in one.
-/
import Derived.Test.YtddlmigofilejaaGreatDoorK14
import Derived.Shelf.SlSortCmp.WholeK
import Derived.Ground.SlsfProg
import Derived.Sort.OwnSorted
open List (getElem_toArray getElem_cons_succ getElem_cons_zero set_cons_zero set_cons_succ setIfInBounds_toArray)
set_option maxRecDepth 100000
set_option maxHeartbeats 4000000
namespace Go.Proofs.YtddlmigofilejaaGreatDoor
open Go.RowKit
open Go.Sort
open M
def fieldR (S : Toks) (k : Int) (g d i c : Nat) (ns : List ByteArray) : Res FdT :=
 if S.nameOk k i = false then .err 2 i else if 20 <= ns.length then .err 3 i else if twice (S.T i) ns = true then .err 5 i
 else if S.sign (i + 1) [58] = false then .err 2 (i + 1) else match pT S g (d + 1) (i + 2) c with
  | .err b j => .err b j
  | .ok s j c' => .ok (S.T i, s) j c'
theorem name_lt {S : Toks} {k : Int} {i : Nat} (h : S.nameOk k i = true) : i < S.n := by
 unfold Toks.nameOk at h
 by_cases hk : k = 5
 ·rw [if_pos hk] at h; exact small_lt h
 ·rw [if_neg hk] at h; exact great_lt h
structure FdAt (S : Toks) (k : Int) (i b n : Nat) (ns : List ByteArray) (q1 tw : Bool) (b3 : Nat) (s : ByteArray) (i4 b4 i5 b5 : Nat) : Prop where
 len : ns.length = n
 is : b = 0 -> q1 = S.nameOk k i
 two : b = 0 -> i < S.n -> tw = twice (S.T i) ns
 must : b3 = mustB (mustB (mustB b q1 2) (decide ((n : Int) < 20)) 3) (!tw) 5
 word : NameOut S (S.nameOk k i) i b3 s i4 b4
 i5e : psI b4 (S.sign i4 [58]) i4 = i5
 b5e : psB b4 (S.sign i4 [58]) = b5
theorem FdAt.no {S : Toks} {k : Int} {i b n g d c : Nat} {ns : List ByteArray} {q1 tw : Bool} {b3 : Nat} {s : ByteArray} {i4 b4 i5 b5 : Nat} (h : FdAt S k i b n ns q1 tw b3 s i4 b4 i5 b5) (hb : b5 ≠ 0) : badR b i (fieldR S k g d i c ns) = .err b5 i5 := by
 have stuck : b3 ≠ 0 -> b5 = b3 /\ i5 = i := fun h3 => by
  rcases h.word with ⟨e, -⟩ | ⟨e, -⟩ | ⟨-, e1, e2⟩
  ·exact absurd e h3
  ·exact absurd e h3
  ·subst e1 e2
   refine ⟨?_, ?_⟩
   ·rw [<- h.b5e, psB_bad _ h3]
   ·rw [<- h.i5e, psI_bad _ _ h3]
 by_cases hb0 : b = 0
 rotate_left
 ·have : b3 = b := by rw [h.must, mustB_bad _ _ hb0, mustB_bad _ _ hb0, mustB_bad _ _ hb0]
  obtain ⟨e1, e2⟩ := stuck (by omega);rw [badR_ne _ _ hb0, e1, e2, this]
 subst hb0
 rw [badR_0]
 have h1 := h.is rfl
 have hm := h.must
 unfold fieldR
 cases hn : S.nameOk k i with
 | false =>
  rw [h1, hn, mustB_no, mustB_bad (b := 2) (decide ((n : Int) < 20)) 3 (by decide), mustB_bad (b := 2) (!tw) 5 (by decide)] at hm;obtain ⟨e1, e2⟩ := stuck (by omega);rw [if_pos rfl, e1, e2, hm]
 | true =>
  rw [h1, hn, mustB_yes] at hm;rw [if_neg (by decide)];by_cases h20 : 20 <= ns.length
  ·have : decide ((n : Int) < 20) = false := by have := h.len; simp; omega
   rw [this, mustB_no, mustB_bad _ _ (by decide)] at hm;obtain ⟨e1, e2⟩ := stuck (by omega);rw [if_pos h20, e1, e2, hm]
  ·have : decide ((n : Int) < 20) = true := by have := h.len; simp; omega
   rw [this, mustB_yes] at hm;rw [if_neg h20];have ht := h.two rfl (name_lt hn);rw [<- ht];cases tw with
   | true =>
    have hm5 : b3 = 5 := hm;obtain ⟨e1, e2⟩ := stuck (by omega);rw [if_pos rfl, e1, e2, hm5]
   | false =>
    have hm0 : b3 = 0 := hm;rw [if_neg (by decide)];rcases h.word with ⟨-, -, -, rfl, rfl⟩ | ⟨-, e, -⟩ | ⟨e, -⟩
    ·cases hs : S.sign (i + 1) [58] with
     | true => have := h.b5e; rw [hs] at this; exact absurd this.symm hb
     | false =>
      have e1 := h.b5e;have e2 := h.i5e;rw [hs] at e1 e2;rw [if_pos rfl, <- e1, <- e2];rfl
    ·rw [hn] at e; cases e
    ·exact absurd hm0 e
theorem FdAt.yes {S : Toks} {k : Int} {i b n g d c : Nat} {ns : List ByteArray} {q1 tw : Bool} {b3 : Nat} {s : ByteArray} {i4 b4 i5 b5 : Nat} (h : FdAt S k i b n ns q1 tw b3 s i4 b4 i5 b5) (hb : b5 = 0) :
  b = 0 /\ n < 20 /\ s = S.T i /\ i5 = i + 2 /\ i + 1 < S.n /\ twice (S.T i) ns = false /\ S.nameOk k i = true /\ badR b i (fieldR S k g d i c ns) = (match pT S g (d + 1) i5 c with
  | .err b j => .err b j
  | .ok t j c' => .ok (s, t) j c') := by
 have hb4 : b4 = 0 := psB_0 (h.b5e.trans hb)
 have hb3 : b3 = 0 := by
  rcases h.word with ⟨e, -⟩ | ⟨e, -⟩ | ⟨-, -, e⟩
  ·exact e
  ·exact e
  ·omega
 have hm := h.must
 rw [hb3] at hm
 have m2 := mustB_0 (by decide) hm.symm
 have m1 := mustB_0 (by decide) m2
 have m0 := mustB_0 (by decide) m1
 subst m0
 rw [m2] at hm
 have htw : tw = false := by
  cases tw with
  | false => rfl
  | true => cases hm
 have hq : q1 = true := by
  cases q1 with
  | true => rfl
  | false => cases m1
 have h20 : n < 20 := by
  rw [m1] at m2;by_cases e : (n : Int) < 20
  ·omega
  ·have : decide ((n : Int) < 20) = false := by simpa using e
   rw [this] at m2; cases m2
 have hn : S.nameOk k i = true := by rw [<- h.is rfl]; exact hq
 have htf : twice (S.T i) ns = false := by rw [<- h.two rfl (name_lt hn)]; exact htw
 rcases h.word with ⟨-, -, rfl, rfl, -⟩ | ⟨-, e, -⟩ | ⟨e, -⟩
 rotate_left
 ·rw [hn] at e; cases e
 ·exact absurd hb3 e
 have hs : S.sign (i + 1) [58] = true := by
  cases hs : S.sign (i + 1) [58] with
  | true => rfl
  | false =>
   have e1 := h.b5e;rw [hs, hb4] at e1;have : (2 : Nat) = b5 := e1
   omega
 have hi5 : i5 = i + 2 := by
  have e2 := h.i5e;rw [hs, hb4] at e2;exact e2.symm
 subst hi5
 refine ⟨rfl, h20, rfl, rfl, sign_lt hs, htf, hn, ?_⟩
 rw [badR_0]
 unfold fieldR
 rw [if_neg (by rw [hn]; decide), if_neg (by have := h.len; omega), if_neg (by rw [htf]; decide), if_neg (by rw [hs]; decide)]
theorem FdAt.res {S : Toks} {k : Int} {i b n g d c : Nat} {ns : List ByteArray} {q1 tw : Bool} {b3 : Nat} {s : ByteArray} {i4 b4 i5 b5 b6 i6 c6 : Nat} {t : Ty} (h : FdAt S k i b n ns q1 tw b3 s i4 b4 i5 b5)
  (hr : badR b6 i6 (.ok t i6 c6) = badR b5 i5 (oneR S g d i5 c n)) : badR b6 i6 (.ok (s, t) i6 c6) = badR b i (fieldR S k g d i c ns) := by
 by_cases hb : b5 = 0
 ·obtain ⟨rfl, h20, -, -, -, -, -, he⟩ := h.yes (g := g) (d := d) (c := c) hb
  rw [he];rw [hb, badR_0] at hr;unfold oneR at hr
  rw [if_neg (fun x => by omega)] at hr;rw [<- hr];by_cases h6 : b6 = 0
  ·subst h6; rfl
  ·rw [badR_ne _ _ h6, badR_ne _ _ h6]
 ·rw [h.no hb]
  rw [badR_ne _ _ hb] at hr;by_cases h6 : b6 = 0
  ·subst h6; cases hr
  ·rw [badR_ne _ _ h6] at hr ⊢
   cases hr; rfl
theorem FdAt.hne {S : Toks} {k : Int} {i b n g d c : Nat} {ns : List ByteArray} {q1 tw : Bool} {b3 : Nat} {s : ByteArray} {i4 b4 i5 b5 : Nat} (h : FdAt S k i b n ns q1 tw b3 s i4 b4 i5 b5)
  (hne : b = 0 -> ∀ j, fieldR S k g d i c ns ≠ .err 99 j) (hb : b5 = 0) : ∀ j, oneR S g d i5 c n ≠ .err 99 j := fun j e => by
 obtain ⟨rfl, h20, -, -, -, -, -, he⟩ := h.yes (g := g) (d := d) (c := c) hb
 rw [badR_0] at he
 unfold oneR at e
 rw [if_neg (fun x => by omega)] at e
 rw [e] at he
 exact hne rfl j he
theorem nmSize : (Tryz.prog.info? 50).map (·.size) = some 8 := by kernel_rfl
theorem nmOne {s : ByteArray} {k m : Int} {p d n : ByteArray} {A5 A6 : Option Addr} {n5 c5 n6 c6 : Nat} : (#[.string s, .int .i64 k, .string p, .int .i64 m, .string d, .string n, .slice A5 n5 c5, .slice A6 n6 c6] : Array Value).all (·.oneCell') = true := Array.all_eq_true_iff_forall_mem.2 (fun v hv => by simp at hv; rcases hv with rfl | rfl | rfl | rfl | rfl | rfl | rfl | rfl <;> rfl)
theorem cell8 {w : World} {b : Nat} {v0 v1 v2 v3 v4 v5 v6 v7 : Value} {T : TypeId} {fr : Nat × Nat} (h : w.heap[b]? = some (.cells #[v0, v1, v2, v3, v4, v5, v6, v7] T fr)) : ∀ i v, ([v0, v1, v2, v3, v4, v5, v6, v7] : List Value)[i]? = some v -> w.cell? ⟨b, i, none⟩ = some v := fun i v hv => by
 rw [cZ h, <- hv, <- List.getElem?_toArray]
def FdOut (w : World) (cu r : Nat) (A : Option Addr) (n cn : Nat) (R : Res FdT) (e : Ending) (w' : World) : Prop :=
 ∃ (x : Nv) (t : Ty) (i c b : Nat), e = .returned (.agg x.enc.toArray) /\ x.s.size <= 281474976710656 /\ TyAt (strike (· < w.heap.size) w') x.ty t /\ KQ cu r w w' /\ RSt cu r A n cn i c b w' /\ c <= 500 /\ badR b i (.ok (x.s, t) i c) = R
theorem FdOut.seal {w wk : World} {cu r b m : Nat} {A : Option Addr} {n cn i c bd : Nat} {R : Res FdT} {t : Ty} {x : Nv} {old : Array Value}
  (hb : w.heap.size <= b) (hres : wk.heap[b]? = some (.cells old 50 (0, 0))) (hs : x.s.size <= 281474976710656) (hK : KQ cu r w wk) (hT : TyAt (strike (· < m) wk) x.ty t) (hbm : b < m) (hC : RSt cu r A n cn i c bd wk) (h5 : c <= 500) (hR : badR bd i (.ok (x.s, t) i c) = R) :
  (∀ i v, x.enc[i]? = some v -> (wk.setRow b x.enc.toArray).cell? ⟨b, i, none⟩ = some v) /\
  FdOut w cu r A n cn R (.returned (.agg x.enc.toArray)) (wk.setRow b x.enc.toArray) := by
 refine ⟨cell8 (setRow_heap wk b old _ _ _ hres), x, t, i, c, bd, rfl, hs, ?_, ?_, ?_, h5, hR⟩
 ·exact hT.move (by simp) fun b' hlt hS => ⟨by omega, setRow_other wk b b' _ (by omega)⟩
 ·exact ⟨hK.os, hK.tape, hK.output, by have := hK.size; simpa using this, fun j hj h1 h2 => (setRow_other wk b j _ (by omega)).trans (hK.block j hj h1 h2)⟩
 ·exact hC.other hres (by decide) (fun k hk => setRow_other wk b k _ (by omega))
theorem field_any {W : World} {cu r : Nat} {A : Option Addr} {S : Toks} {cn i c b g d d' n lo : Nat} {k : Int} {P : List Nt} {v : Value} {w : World} (RD : CReadOk W cu r A S cn g) (hc : RCtx W cu r A S w) (h : RSt cu r A S.n cn i c b w) (hc5 : c <= 500) (hd : d' = d + 1) (hd5 : d' <= 1000000)
  (f : Nat) (p : Int -> ByteArray -> Bool) (hf : AsksOk f p) (hp0 : p 0 ⟨#[]⟩ = false) (hpk : ∀ i, (decide (i < S.n) && p (S.K i) (S.T i)) = S.nameOk k i) (hP : NmR lo P n v w) (hn : n <= 1000) (ns : List ByteArray) (hl : ns.length = n)
  (htw : ∀ s : ByteArray, P.any (fun x => x.1.s.data.toList == s.data.toList) = twice s ns) (hne : b = 0 -> ∀ j, fieldR S k g d i c ns ≠ .err 99 j) :
  Calls Tryz.prog 230 #[.pointer (some ⟨r, 0, none⟩), v, .func (.func f) #[] #[], .int .i64 d'] w (FdOut w cu r A S.n cn (badR b i (fieldR S k g d i c ns))) := by
 have hr := h.lt
 have hq0 := h.qlt
 have hbig := hc.cur.big
 obtain ⟨A0, cap0, rfl, -⟩ := hP.cell
 obtain ⟨R, hR⟩ : ∃ R, badR b i (fieldR S k g d i c ns) = R := ⟨_, rfl⟩
 rw [hR]
 obtain ⟨w0, hw0⟩ : ∃ w0, w0 = w.alloc (.cells #[.string ⟨#[]⟩, .int .i64 0, .string ⟨#[]⟩, .int .i64 0, .string ⟨#[]⟩, .string ⟨#[]⟩, .slice none 0 0, .slice none 0 0] 50) := ⟨_, rfl⟩
 have B0 : Below w.heap.size w w0 := by rw [hw0]; exact below_new (Below.refl _ _) _
 have X0 : w0.heap[w.heap.size]? = some (.cells #[.string ⟨#[]⟩, .int .i64 0, .string ⟨#[]⟩, .int .i64 0, .string ⟨#[]⟩, .string ⟨#[]⟩, .slice none 0 0, .slice none 0 0] 50 (0, 0)) := by rw [hw0]; exact heap_alloc_new w _
 have hl0 : w.heap.size < w0.heap.size := (Array.getElem?_eq_some_iff.1 X0).1
 have hne0 : w.heap.size ≠ r /\ w.heap.size ≠ cu := ⟨Nat.ne_of_gt hr, Nat.ne_of_gt hq0⟩
 have C0 := hc.on (KQ.of_below B0)
 have h0 := h.below B0
 have NX := zH (rnext_any C0 h0)
 have hts := tAt_size hc.cur b i
 have p0 := h0.p
 have HC0 := zH C0
 have H0 := zH h0
 have HX0 := zH X0
 have HK0 := zH (KQ.of_below (q := cu) (r := r) B0)
 have HP0 := zH (hP.keep B0.size (fun b' _ hlt => B0.block b' hlt))
 have HR := zH hR
 have HNE := zH hne
 have RD' := zH RD
 have HD := zH hd
 have HL := zH hl
 have HTW := zH htw
 have HPK := zH hpk
 have HF := zH hf
 have HP0' := zH hp0
 have eg := hf.enters
 have HISB : Hid (b = 0 -> p (kAt S b i) (tAt S b i) = S.nameOk k i) := zH (fun hb => by
  rw [<- hpk i];unfold kAt tAt
  by_cases hlt : i < S.n
  ·rw [if_pos ⟨hb, hlt⟩, if_pos ⟨hb, hlt⟩]; simp [hlt]
  ·rw [if_neg (fun x => hlt x.2), if_neg (fun x => hlt x.2), hp0]; simp [hlt])
 have HPT : Hid (b = 0 -> i < S.n -> tAt S b i = S.T i) := zH (fun hb hlt => if_pos ⟨hb, hlt⟩)
 have HW0 := zH hw0
 clear h hc hR hne hd RD hw0 B0 X0 C0 h0 hP hf hpk hl htw hp0
 go_enter Tryz.func230, Tryz.ntmps230
 go_upto_region 1 with fail
 rw [<- HW0.out]
 go_wp2_with fail
 refine NX.out.mono ?_; rintro e w1 ⟨y, rfl, hb1⟩
 generalize hkk : kAt S b i = kk at HISB ⊢
 generalize htt : tAt S b i = tt at hts HISB HPT ⊢
 clear hkk htt NX
 unfold tokV
 obtain ⟨w2, hw2⟩ : ∃ w2, w2 = w1.alloc (.cells #[.int .i64 kk, .int .i64 y, .string tt] 92) := ⟨_, rfl⟩
 have B2 : Below w1.heap.size w1 w2 := by rw [hw2]; exact below_new (Below.refl _ _) _
 have T2 : TokBox w1.heap.size kk y tt w2 := by rw [hw2]; exact heap_alloc_new w1 _
 have B02 := below_over hb1 B2
 have hs1 := hb1.size
 have CT := zH (contains_named (HP0.out.keep B02.size (fun b' _ hlt => B02.block b' hlt)) (by omega) tt w1.heap.size (cZ T2 2))
 have HT2 := zH T2
 have HB02 := zH B02
 have HW2 := zH hw2
 clear hw2 B2 T2 B02 hb1
 go_upto_region 2 with fail
 rw [<- HW2.out]
 go_wp2_with fail
 refine CT.out.mono ?_; rintro e w3 ⟨rfl, hb3⟩
 obtain ⟨tw, htw⟩ : ∃ tw, P.any (fun x => x.1.s.data.toList == tt.data.toList) = tw := ⟨_, rfl⟩
 rw [htw]
 have HTW1 : Hid (tw = twice tt ns) := zH (by rw [<- htw]; exact HTW.out tt)
 have B03 := below_over HB02.out hb3
 have h3 := H0.out.below B03
 have T3 := HT2.out.on hb3
 have p3 := h3.p
 have t0 : w3.cell? ⟨w1.heap.size, 0, none⟩ = some (.int .i64 kk) := cZ T3 0
 have t1 : w3.cell? ⟨w1.heap.size, 1, none⟩ = some (.int .i64 y) := cZ T3 1
 have t2 : w3.cell? ⟨w1.heap.size, 2, none⟩ = some (.string tt) := cZ T3 2
 have HC3 := zH (HC0.out.on (KQ.of_below B03))
 have HX3 := zH ((B03.block _ hl0).trans HX0.out)
 have HK3 := zH (HK0.out.trans (KQ.of_below B03))
 have hl3 := Nat.lt_of_lt_of_le hl0 B03.size
 have H3 := zH h3
 obtain ⟨q1, hq1⟩ : ∃ q1, p kk tt = q1 := ⟨_, rfl⟩
 have AF : Hid (∀ w', Calls Tryz.prog f #[.agg #[.int .i64 kk, .int .i64 y, .string tt]] w' fun e w'' => e = .returned (.bool q1) /\ Below w'.heap.size w' w'') := zH (fun w' => by
  rw [<- hq1]; exact HF.out.says kk y tt w' (by omega))
 have HQ1 := zH hq1
 clear htw hb3 B03 h3 T3 CT HT2 HB02 HW2 HX0 HK0 HC0 H0 p0 hq1 HP0
 go_wp2_with fail
 refine AnyX.start (fun wx => wx.cell? ⟨r, 0, none⟩ = some (.pointer (some ⟨cu, 0, none⟩)) /\ wx.cell? ⟨w1.heap.size, 0, none⟩ = some (.int .i64 kk) /\ wx.cell? ⟨w1.heap.size, 1, none⟩ = some (.int .i64 y) /\ wx.cell? ⟨w1.heap.size, 2, none⟩ = some (.string tt)) (fun k => k == 7) (by kernel_rfl) ?_
 have hH0 : w3.drew.cell? ⟨r, 0, none⟩ = some (.pointer (some ⟨cu, 0, none⟩)) /\ w3.drew.cell? ⟨w1.heap.size, 0, none⟩ = some (.int .i64 kk) /\ w3.drew.cell? ⟨w1.heap.size, 1, none⟩ = some (.int .i64 y) /\ w3.drew.cell? ⟨w1.heap.size, 2, none⟩ = some (.string tt) := ⟨p3, t0, t1, t2⟩
 refine AnyX.mv (i := 0) (v := ?_) rfl (fun _ _ _ h => h) (Or.inl ⟨by rfl, ?_⟩) ?_
 rotate_left
 ·(intro wS _; go_simp; try with_reducible rfl)
 simp only [getElem_toArray, getElem_cons_succ, getElem_cons_zero]
 simp only [Act.put, setIfInBounds_toArray, set_cons_zero, set_cons_succ]
 refine AnyX.mv (i := 1) (v := ?_) rfl (fun _ _ _ h => h) (Or.inl ⟨by rfl, ?_⟩) ?_
 rotate_left
 ·(intro wS _; go_simp; try with_reducible rfl)
 simp only [getElem_toArray, getElem_cons_succ, getElem_cons_zero]
 simp only [Act.put, setIfInBounds_toArray, set_cons_zero, set_cons_succ]
 refine AnyX.mv (i := 2) (v := ?_) rfl (fun _ _ _ h => h) (Or.inl ⟨by rfl, ?_⟩) ?_
 rotate_left
 ·(intro wS _; go_simp; try with_reducible rfl)
 simp only [getElem_toArray, getElem_cons_succ, getElem_cons_zero]
 simp only [Act.put, setIfInBounds_toArray, set_cons_zero, set_cons_succ]
 refine AnyX.tk (i := 3) (v := ?_) rfl (fun _ _ _ h => h) hH0 (Or.inl ⟨by rfl, ?_⟩) ?_
 rotate_left
 ·(intro wS hS; (try obtain ⟨hS1, hS2, hS3, hS4⟩ := hS); go_simp; try with_reducible rfl)
 simp only [getElem_toArray, getElem_cons_succ, getElem_cons_zero]
 simp only [Act.put, setIfInBounds_toArray, set_cons_zero, set_cons_succ]
 refine AnyX.mv (i := 4) (v := ?_) rfl (fun _ _ _ h => h) (Or.inl ⟨by rfl, ?_⟩) ?_
 rotate_left
 ·(intro wS _; go_simp; try with_reducible rfl)
 simp only [getElem_toArray, getElem_cons_succ, getElem_cons_zero]
 simp only [Act.put, setIfInBounds_toArray, set_cons_zero, set_cons_succ]
 refine AnyX.tk (i := 5) (v := ?_) rfl (fun _ _ _ h => h) hH0 (Or.inl ⟨by rfl, ?_⟩) ?_
 rotate_left
 ·(intro wS hS; (try obtain ⟨hS1, hS2, hS3, hS4⟩ := hS); go_simp; try with_reducible rfl)
 simp only [getElem_toArray, getElem_cons_succ, getElem_cons_zero]
 simp only [Act.put, setIfInBounds_toArray, set_cons_zero, set_cons_succ]
 refine AnyX.go 6 (by kernel_rfl) rfl rfl (fun K hK => ?_)
 simp only [getElem_toArray, getElem_cons_succ, getElem_cons_zero]
 go_simp
 refine (AF.out _).mono ?_
 rintro e w4 ⟨rfl, hb4⟩
 obtain ⟨hcB4, hfB4⟩ := bcell hb4
 have hH4 : w4.cell? ⟨r, 0, none⟩ = some (.pointer (some ⟨cu, 0, none⟩)) /\ w4.cell? ⟨w1.heap.size, 0, none⟩ = some (.int .i64 kk) /\ w4.cell? ⟨w1.heap.size, 1, none⟩ = some (.int .i64 y) /\ w4.cell? ⟨w1.heap.size, 2, none⟩ = some (.string tt) :=
  ⟨(hcB4 r 0 (World.block_lt_of_cell? _ _ p3)).trans hH0.1, (hcB4 _ 0 (World.block_lt_of_cell? _ _ t0)).trans hH0.2.1, (hcB4 _ 1 (World.block_lt_of_cell? _ _ t1)).trans hH0.2.2.1, (hcB4 _ 2 (World.block_lt_of_cell? _ _ t2)).trans hH0.2.2.2⟩
 simp only []
 refine hK.out _ _ (fun hoff _ => hH4) ?_
 clear hK
 try simp only [Act.put, setIfInBounds_toArray, set_cons_zero, set_cons_succ]
 refine AnyX.go 7 (by kernel_rfl) rfl rfl (fun K hK => ?_)
 simp only [getElem_toArray, getElem_cons_succ, getElem_cons_zero]
 go_simp
 have B34 : Below w3.heap.size w3 w4 := (Below.drew (Below.refl _ _)).trans hb4
 have h4 := H3.out.below B34
 refine (rmust_any h4 q1 2 (by decide)).mono ?_
 rintro e w5 ⟨rfl, h5, k5⟩
 simp only []
 refine hK.out _ _ (fun hoff _ => absurd hoff (by decide)) ?_
 clear hK
 try simp only [Act.put, setIfInBounds_toArray, set_cons_zero, set_cons_succ]
 refine AnyX.done (by kernel_rfl) ?_ _
 have K35 := (KQ.of_below (q := cu) (r := r) B34).trans k5
 have HC5 := zH (HC3.out.on K35)
 have HX5 := zH ((K35.blk hl3 hne0).trans HX3.out)
 have HK5 := zH (HK3.out.trans K35)
 have hl5 := Nat.lt_of_lt_of_le hl3 K35.size
 have p5 := h5.p
 have MU := zH (fun so => rmust_any h5 so 3 (by decide))
 clear hH0 hH4 hcB4 hfB4 t0 t1 t2 p3 hb4 B34 h4 h5 k5 K35 AF HC3 HX3 HK3 H3 eg
 go_wp2_with fail
 refine (MU.out _).mono ?_; rintro e w6 ⟨rfl, h6, k6⟩
 have HC6 := zH (HC5.out.on k6)
 have HX6 := zH ((k6.blk hl5 hne0).trans HX5.out)
 have HK6 := zH (HK5.out.trans k6)
 have hl6 := Nat.lt_of_lt_of_le hl5 k6.size
 have p6 := h6.p
 have MU' := zH (fun so => rmust_any h6 so 5 (by decide))
 clear h6 k6 MU HC5 HX5 HK5 p5
 go_wp2_with fail
 refine (MU'.out _).mono ?_; rintro e w7 ⟨rfl, h7, k7⟩
 obtain ⟨b3, hb3⟩ : ∃ b3, mustB (mustB (mustB b q1 2) (decide ((n : Int) < 20)) 3) (!tw) 5 = b3 := ⟨_, rfl⟩
 rw [hb3] at h7
 have HB3 := zH hb3
 have HX7 := zH ((k7.blk hl6 hne0).trans HX6.out)
 have HK7 := zH (HK6.out.trans k7)
 have hl7 := Nat.lt_of_lt_of_le hl6 k7.size
 have p7 := h7.p
 have C7 := HC6.out.on k7
 have WD := zH (rword_any C7 h7 f p HF.out HP0'.out)
 have HC7 := zH C7
 clear h7 k7 MU' HC6 HX6 HK6 p6 hb3 C7
 go_wp2_with fail
 refine WD.out.mono ?_; rintro e w8 ⟨s, i8, b8, rfl, hs8, h8, k8, hN⟩
 rw [HPK.out i] at hN
 have HN := zH hN
 have HX8 := zH ((k8.blk hl7 hne0).trans HX7.out)
 have HK8 := zH (HK7.out.trans k8)
 have hl8 := Nat.lt_of_lt_of_le hl7 k8.size
 have p8 := h8.p
 have C8 := HC7.out.on k8
 have SG := zH (rsign_any C8 h8 ⟨#[58]⟩)
 have HC8 := zH C8
 clear h8 k8 WD HC7 HX7 HK7 p7 hN C8
 go_wp2_with fail
 refine SG.out.mono ?_; rintro e w9 ⟨rfl, h9, k9⟩
 obtain ⟨b9, hb9⟩ : ∃ b9, psB b8 (S.sign i8 [58]) = b9 := ⟨_, rfl⟩
 obtain ⟨i9, hi9⟩ : ∃ i9, psI b8 (S.sign i8 [58]) i8 = i9 := ⟨_, rfl⟩
 have h9' : RSt cu r A S.n cn i9 c b9 w9 := by rw [<- hb9, <- hi9]; exact h9
 have FA : Hid (FdAt S k i b n ns q1 tw b3 s i8 b8 i9 b9) := zH ⟨HL.out, fun e => by rw [<- HQ1.out]; exact HISB.out e, fun e hlt => by rw [HTW1.out, HPT.out e hlt], HB3.out.symm, HN.out, hi9, hb9⟩
 have C9 := HC8.out.on k9
 have RE1 := RD'.out d' (n + 1) i9 c b9 w9 C9 h9' hc5 hd5 (by omega) (fun hz j => by
  rw [HD.out, one_read];exact FA.out.hne HNE.out hz j)
 rw [HD.out, one_read, <- HD.out] at RE1
 have RE : Calls Tryz.prog 123 #[.pointer (some ⟨r, 0, none⟩), .int .i64 d', .int .i64 ((n : Int) + 1)] w9 (COut w9 cu r A S.n cn (badR b9 i9 (oneR S g d i9 c n))) := RE1
 have HRE := zH RE
 have HX9 := zH ((k9.blk hl8 hne0).trans HX8.out)
 have HK9 := zH (HK8.out.trans k9)
 have hl9 := Nat.lt_of_lt_of_le hl8 k9.size
 have n63 : (n : Int) + 1 <= 9223372036854775807 := by omega
 clear h9 h9' k9 SG HC8 HX8 HK8 p8 C9 RE RE1 hb9 hi9
 go_wp2_with fail
 refine HRE.out.mono ?_; rintro e w10 ⟨l, t, i10, c10, b10, rfl, hT10, k10, h10, hc10, hres⟩
 obtain ⟨An, cA, As, cS, rfl, -⟩ := hT10.parts
 have hs10 := k10.size
 have X10 := (k10.blk hl9 hne0).trans HX9.out
 have SEAL := zH (FdOut.seal (x := ⟨s, t.kind, t.pkg, t.major, t.mod, t.name, An, t.names.length, cA, As, t.subs.length, cS⟩) (R := R) (Nat.le_refl _) X10 hs8 (HK9.out.trans k10) (hT10.move (S' := (· < w.heap.size + 1)) (Nat.le_refl _) fun b hb hS => ⟨fun e => hS (Nat.lt_of_lt_of_le (show b < w.heap.size + 1 from e) hl9), rfl⟩) (Nat.lt_succ_self _) h10 hc10 (by rw [<- HR.out]; exact FA.out.res hres))
 unfold Nv.enc at SEAL
 clear hT10 k10 h10 hres HRE HX9 HK9
 go_wp2_with (first | ((with_reducible refine wpList_putRow 50 (w.heap.size) #[.string s, .int .i64 t.kind, .string t.pkg, .int .i64 t.major, .string t.mod, .string t.name, .slice An t.names.length cA, .slice As t.subs.length cS] _ _ X10 ?_ ?_ ?_ ?_ ?_ ?_); exact nmSize; rfl; exact nmOne; iterate 2 (focus (first | (go_simp; done) | rfl))))
 exact ret_agg1 (fn := Tryz.f230) (vs := [.string s, .int .i64 t.kind, .string t.pkg, .int .i64 t.major, .string t.mod, .string t.name, .slice An t.names.length cA, .slice As t.subs.length cS]) (b := w.heap.size) rfl rfl Tryz.underlying50 (by kernel_rfl) SEAL.out.1 rfl SEAL.out.2
theorem nm_info : (Tryz.prog.info? 50).map (fun i => (i.zero, i.size, i.bytes)) = some (some (.agg #[.string ⟨#[]⟩, .int .i64 0, .string ⟨#[]⟩, .int .i64 0, .string ⟨#[]⟩, .string ⟨#[]⟩, .slice none 0 0, .slice none 0 0]), 8, 128) := by kernel_rfl
theorem field_ok {S : Toks} {k : Int} {g d i c j c' : Nat} {ns : List ByteArray} {s : ByteArray} {t : Ty} (h : fieldR S k g d i c ns = .ok (s, t) j c') : ns.length < 20 /\ twice (S.T i) ns = false /\ s = S.T i /\ i < j /\ i < S.n := by
 unfold fieldR at h
 split at h
 ·cases h
 rename_i hn
 split at h
 ·cases h
 rename_i h20
 split at h
 ·cases h
 rename_i ht
 split at h
 ·cases h
 have hf := (fw_all S g).1 (d + 1) (i + 2) c
 cases e : pT S g (d + 1) (i + 2) c with
 | err b q => rw [e] at h; cases h
 | ok u q cq =>
  rw [e] at h hf;cases h
  have hf' : i + 2 < j := hf
  exact ⟨by omega, by simpa using ht, rfl, by omega, name_lt (by simpa using hn)⟩
def contP (S : Toks) (k : Int) (z : List UInt8) (g d i c : Nat) (P : List FdT) : Res Ty :=
 if S.sign i z = true then .ok (Ty.mk k ⟨#[]⟩ 0 ⟨#[]⟩ ⟨#[]⟩ (insN P) (insS P)) (i + 1) c else if S.sign i [44] = false then .err 2 i else pParts S k z g d (i + 1) c (insN P) (insS P)
def shutP (S : Toks) (k : Int) (z : List UInt8) (i c : Nat) (P : List FdT) : Res Ty := if S.sign i z = true then .ok (Ty.mk k ⟨#[]⟩ 0 ⟨#[]⟩ ⟨#[]⟩ (insN P) (insS P)) (i + 1) c else .err 2 i
theorem parts_field (S : Toks) (k : Int) (z : List UInt8) (g d i c : Nat) (P : List FdT) : pParts S k z (g + 1) d i c (insN P) (insS P) = match fieldR S k g d i c (insN P) with
  | .err b j => .err b j
  | .ok x j c' => contP S k z g d j c' (P ++ [x]) := by
 rw [parts_eq]
 unfold fieldR behindR
 split
 ·rfl
 split
 ·rfl
 split
 ·rfl
 split
 ·rfl
 cases pT S g (d + 1) (i + 2) c with
 | err b j => rfl
 | ok s j c' =>
  show (if _ then _ else _) = contP S k z g d j c' (P ++ [(S.T i, s)])
  unfold contP
  rw [insN_snoc, insS_snoc]
theorem parts_cont {S : Toks} {k : Int} {z : List UInt8} {g d i c b2 i2 c2 : Nat} {P : List FdT} {x : FdT} (h : fieldR S k g d i c (insN P) = badR b2 i2 (.ok x i2 c2)) :
  pParts S k z (g + 1) d i c (insN P) (insS P) = badR b2 i2 (contP S k z g d i2 c2 (P ++ [x])) := by
 rw [parts_field, h]
 by_cases hb : b2 = 0
 ·subst hb; rfl
 ·rw [badR_ne _ _ hb, badR_ne _ _ hb]
theorem contP_no {S : Toks} {k : Int} {z : List UInt8} {g d i c b : Nat} {P : List FdT} (h : (decide (b = 0) && S.sign i [44]) = false) : badR b i (contP S k z g d i c P) = badR b i (shutP S k z i c P) := by
 by_cases hb : b = 0
 ·subst hb
  have h4 : S.sign i [44] = false := by simpa using h
  unfold contP shutP
  rw [if_pos h4]
 ·exact badR_bad hb
theorem contP_yes {S : Toks} {k : Int} {z : List UInt8} {g d i c b : Nat} {P : List FdT} (hz : z ≠ [44]) (h : (decide (b = 0) && S.sign i [44]) = true) : b = 0 /\ S.sign i [44] = true /\ badR b i (contP S k z g d i c P) = pParts S k z g d (i + 1) c (insN P) (insS P) := by
 simp at h
 obtain ⟨rfl, h4⟩ := h
 refine ⟨rfl, h4, ?_⟩
 rw [badR_0]
 unfold contP
 rw [if_neg (by rw [sign_one h4 hz.symm]; decide), if_neg (by rw [h4]; decide)]
theorem shutP_res {S : Toks} {k : Int} {z : List UInt8} {i c b : Nat} {P : List FdT} : badR b i (shutP S k z i c P) = badR (psB b (S.sign i z)) (psI b (S.sign i z) i) (.ok (Ty.mk k ⟨#[]⟩ 0 ⟨#[]⟩ ⟨#[]⟩ (insN P) (insS P)) (psI b (S.sign i z) i) c) := by
 rw [sign_res (S.sign i z) b i (fun j => Res.ok (Ty.mk k ⟨#[]⟩ 0 ⟨#[]⟩ ⟨#[]⟩ (insN P) (insS P)) j c)]
 unfold shutP
 by_cases h : S.sign i z = true
 ·rw [if_pos h, if_neg (by rw [h]; decide)]
 ·rw [if_neg h, if_pos (by simpa using h)]
theorem any_fd (P : List Nt) (s : ByteArray) : P.any (fun x => x.1.s.data.toList == s.data.toList) = twice s (insN (fdOf P)) := by
 rw [twice_ins]
 unfold fdOf
 rw [List.any_map]
 rfl
theorem nodup_snoc {P : List Nt} {x : Nt} (h : ((fdOf P).map (·.1)).Nodup) (ht : twice x.1.s (insN (fdOf P)) = false) : ((fdOf (P ++ [x])).map (·.1)).Nodup := by
 rw [fdOf_snoc, List.map_append]
 refine List.nodup_append.2 ⟨h, by simp, fun a ha b hb e => ?_⟩
 subst e
 simp at hb
 rw [twice_ins, List.any_eq_false] at ht
 obtain ⟨y, hy, rfl⟩ := List.mem_map.1 ha
 refine ht y hy ?_
 rw [hb]; simp
structure CfI (w : World) (cu r : Nat) (A : Option Addr) (S : Toks) (cn : Nat) (k : Int) (z : List UInt8) (d f : Nat) (F : Res Ty) (P : List Nt) (n : Nat) (v : Value) (i c b g : Nat) (wr : World) : Prop where
 kp : KQ cu r w wr
 rows : NmR w.heap.size P n v wr
 rd : RSt cu r A S.n cn i c b wr
 fin : F = badR b i (contP S k z g d i c (fdOf P))
 fuel : g <= f
 some : n <= 21
 most : b = 0 -> n <= 20
 cnt : c <= 500
 apart : b = 0 -> ((fdOf P).map (·.1)).Nodup
def CfOut (w : World) (cu r : Nat) (A : Option Addr) (S : Toks) (cn : Nat) (k : Int) (z : List UInt8) (F : Res Ty) (e : Ending) (w' : World) : Prop :=
 ∃ (P : List Nt) (n : Nat) (v : Value) (i c b : Nat), e = .returned v /\ KQ cu r w w' /\ NmR w.heap.size P n v w' /\ RSt cu r A S.n cn i c b w' /\
  F = badR b i (shutP S k z i c (fdOf P)) /\ n <= 21 /\ 1 <= n /\ c <= 500 /\ (b = 0 -> ((fdOf P).map (·.1)).Nodup)
theorem fields_any {W : World} {cu r : Nat} {A : Option Addr} {S : Toks} {cn i c f d d' : Nat} {k : Int} {z : List UInt8} {w : World} (RD : ∀ g, g < f -> CReadOk W cu r A S cn g) (hc : RCtx W cu r A S w) (h : RSt cu r A S.n cn i c 0 w) (hc5 : c <= 500) (hd : d' = d + 1) (hd5 : d' <= 1000000)
  (fi : Nat) (p : Int -> ByteArray -> Bool) (hf : AsksOk fi p) (hp0 : p 0 ⟨#[]⟩ = false) (hpk : ∀ i, (decide (i < S.n) && p (S.K i) (S.T i)) = S.nameOk k i) (hz : z ≠ [44]) (F : Res Ty) (hF : F = pParts S k z f d i c [] []) (hne : ∀ j, F ≠ .err 99 j) :
  Calls Tryz.prog 202 #[.pointer (some ⟨r, 0, none⟩), .func (.func fi) #[] #[], .int .i64 d'] w (CfOut w cu r A S cn k z F) := by
 have hr := h.lt
 have hq0 := h.qlt
 have hbig := hc.cur.big
 obtain ⟨f', rfl⟩ : ∃ f', f = f' + 1 := by
  cases f with
  | zero => exact absurd (by rw [hF]; unfold pParts; rfl) (hne 0)
  | succ f' => exact ⟨f', rfl⟩
 have HNE := zH hne
 have RDD := zH RD
 have HC := zH hc
 have HD := zH hd
 have HAF := zH hf
 have HPK := zH hpk
 have HP0 := zH hp0
 have hF' : F = pParts S k z (f' + 1) d i c (insN []) (insS []) := hF
 have HRE := zH (field_any (RD f' (by omega)) hc h hc5 hd hd5 fi p hf hp0 hpk (NmR.start w.heap.size w) (by omega) (insN (fdOf [])) rfl (any_fd []) (fun _ j e => hne j (by
  rw [hF', parts_field];have e' : fieldR S k f' d i c (insN []) = .err 99 j := e
  rw [e'])))
 have HF := zH hF'
 clear hne RD hc h hd hF hF' hf hpk hp0
 go_enter Tryz.func202, Tryz.ntmps202
 go_wp2_with fail
 refine HRE.out.mono ?_; rintro e w1 ⟨x, t, i1, c1, b1, rfl, hs1x, hT1, k1, h1, hc1, hres⟩
 rw [badR_0] at hres
 unfold Nv.enc
 obtain ⟨w2, hw2⟩ : ∃ w2, w2 = w1.alloc (.cells #[.string x.s, .int .i64 x.k, .string x.p, .int .i64 x.m, .string x.d, .string x.n, .slice x.A5 x.n5 x.c5, .slice x.A6 x.n6 x.c6] 50) := ⟨_, rfl⟩
 have B2 : Below w1.heap.size w1 w2 := by rw [hw2]; exact below_new (Below.refl _ _) _
 have s2 : w2.heap.size = w1.heap.size + 1 := by rw [hw2]; simp
 have s1 := k1.size
 have INV : Hid (CfI w cu r A S cn k z d (f' + 1) F [(x, t)] 1 (.slice (some ⟨w1.heap.size, 0, none⟩) 1 1) i1 c1 b1 f' w2) := zH (by
  refine ⟨k1.trans (KQ.of_below B2), ?_, h1.below B2, ?_, by omega, by omega, fun _ => by omega, hc1, fun _ => by simp [fdOf]⟩
  ·refine NmR.first (x := (x, t)) s1 (by rw [hw2]; exact heap_alloc_new w1 _) hs1x (hT1.move (by omega) fun b hb hS => ⟨?_, B2.block b hb⟩)
   rintro (e | e)
   ·exact hS e
   ·omega
  ·rw [HF.out]
   exact parts_cont (P := []) (x := (x.s, t)) hres.symm)
 have HW2 := zH hw2
 clear hT1 k1 h1 hres hw2 B2 s2 s1 HRE HF
 go_wp2_with fail
 rw [<- HW2.out]
 go_loopw [7] (fun m wr => ∃ (P : List Nt) (n : Nat) (i c b g : Nat), Hid (CfI w cu r A S cn k z d (f' + 1) F P n m i c b g wr) /\ 1 <= n) (fun _ wr => cuM cu S.n wr)
 case atStart => exact ⟨[(x, t)], 1, i1, c1, b1, f', INV, Nat.le_refl _⟩
 case round =>
  obtain ⟨P, n, i, c, b, g, HI, hn1⟩ := hrel;obtain ⟨wo, rfl⟩ : ∃ wo : World, wo = wr := ⟨_, rfl⟩;obtain ⟨A7, c7, rfl, -⟩ := HI.out.rows.cell;have R := HI.out.rd;have p0 := R.p;have C0 := HC.out.on HI.out.kp;have SK := zH (rskip_any C0 R ⟨#[44]⟩);have HC0 := zH C0;have hso := HI.out.kp.size;clear R C0;go_wp2_with fail
  refine SK.out.mono ?_; rintro e w3 ⟨rfl, h3, k3⟩
  obtain ⟨v, hv⟩ : ∃ v, (decide (b = 0) && S.sign i (ByteArray.mk #[44]).data.toList) = v := ⟨_, rfl⟩;rw [hv];have HV : Hid ((decide (b = 0) && S.sign i [44]) = v) := zH hv;have hs3 := k3.size;have K3 := HI.out.kp.trans k3;have ROW3 := HI.out.rows.keep hs3 (fun b' hb hlt => k3.blk hlt (by omega));clear hv SK;cases v with
  | false =>
   have hps : psI b (S.sign i (ByteArray.mk #[44]).data.toList) i = i := by
    have := HV.out
    unfold psI
    rw [if_neg];rintro ⟨e1, e2⟩;rw [e1] at this;have e2' : S.sign i [44] = true := e2
    rw [e2'] at this; cases this
   rw [hps] at h3;have OUT : Hid (CfOut w cu r A S cn k z F (.returned (.slice A7 n c7)) w3) := zH ⟨P, n, _, i, c, b, rfl, K3, ROW3, h3, by rw [HI.out.fin]; exact contP_no HV.out, HI.out.some, hn1, HI.out.cnt, HI.out.apart⟩;clear h3 k3 K3 ROW3 hps HI HC0;go_wp2_with fail
   go_ret;exact OUT.out
  | true =>
   obtain ⟨hb0, hsg, hcy⟩ := contP_yes (k := k) (g := g) (d := d) (c := c) (P := fdOf P) hz HV.out;subst hb0;have hi1 := sign_lt hsg;have hfin := HI.out.fin.trans hcy
   have h3' : RSt cu r A S.n cn (i + 1) c 0 w3 := by
    have e : S.sign i (ByteArray.mk #[44]).data.toList = true := hsg;rw [e] at h3; exact h3
   obtain ⟨g', rfl⟩ : ∃ g', g = g' + 1 := by
    cases g with
    | zero => exact absurd (by rw [hfin]; unfold pParts; rfl) (HNE.out 0)
    | succ g' => exact ⟨g', rfl⟩
   have hfu := HI.out.fuel;have h20 := HI.out.most rfl;have hcnt := HI.out.cnt;have hl7 := HI.out.rows.len;have C3 := HC0.out.on k3
   have HRE := zH (field_any (RDD.out g' (by omega)) C3 h3' hcnt HD.out hd5 fi p HAF.out HP0.out HPK.out ROW3 (by omega) (insN (fdOf P)) (by rw [insN_len, fdOf_len]; exact hl7) (any_fd P) (fun _ j e => HNE.out j (by
    rw [hfin, parts_field, e])))
   have HROW3 := zH ROW3;have HK3 := zH K3;have HFIN := zH hfin;have HAP := zH (HI.out.apart rfl);have MI := zH HI.out.rd.cur.m;have HLN := zH (show (insN (fdOf P)).length = n by rw [insN_len, fdOf_len]; exact hl7);clear h3 h3' k3 K3 ROW3 hfin hl7 C3 hcy p0 HC0 HI;go_wp2_with fail
   refine HRE.out.mono ?_; rintro e w4 ⟨x, t, i4, c4, b4, rfl, hsx, hT4, k4, h4, hc4, hres⟩
   rw [badR_0] at hres;unfold Nv.enc
   have hs4 := k4.size;have ROW4 := HROW3.out.keep hs4 (fun b' hb hlt => k4.blk hlt (by omega));have K4 := HK3.out.trans k4;have hown := ROW4.own;obtain ⟨inf, hi1', hy0, hy1, hy2⟩ := info_parts nm_info;have hMX : n + 1 <= maxLen := by unfold maxLen; omega
   have hwo : ∀ b, (Value.slice A7 n c7).ownBlock = some b -> b < w3.heap.size := fun b e => (HROW3.out.own.lt b e).2
   have hAL : w.heap.size <= (w4.alloc (.cells #[.string x.s, .int .i64 x.k, .string x.p, .int .i64 x.m, .string x.d, .string x.n, .slice x.A5 x.n5 x.c5, .slice x.A6 x.n6 x.c6] 50)).heap.size := by
    have e1 : (w4.alloc (.cells #[.string x.s, .int .i64 x.k, .string x.p, .int .i64 x.m, .string x.d, .string x.n, .slice x.A5 x.n5 x.c5, .slice x.A6 x.n6 x.c6] 50)).heap.size = w4.heap.size + 1 := (by simp);omega
   have hNW : ∀ j u, ([.string x.s, .int .i64 x.k, .string x.p, .int .i64 x.m, .string x.d, .string x.n, .slice x.A5 x.n5 x.c5, .slice x.A6 x.n6 x.c6] : List Value)[j]? = some u -> (w4.alloc (.cells #[.string x.s, .int .i64 x.k, .string x.p, .int .i64 x.m, .string x.d, .string x.n, .slice x.A5 x.n5 x.c5, .slice x.A6 x.n6 x.c6] 50)).cell? ((⟨w4.heap.size, 0, none⟩ : Addr).add j) = some u := fun q u hq => by
    rw [WideShapes.add_plain, Nat.zero_add, cZ (heap_alloc_new w4 _), <- hq, <- List.getElem?_toArray]
   have KEY : ∀ (gb cap : Nat) (w5 : World), w5.ownsRow w.heap.size 50 8 (.slice (some ⟨gb, 0, none⟩) (n + 1) cap) (n + 1) (rowN P ++ [.string x.s, .int .i64 x.k, .string x.p, .int .i64 x.m, .string x.d, .string x.n, .slice x.A5 x.n5 x.c5, .slice x.A6 x.n6 x.c6]) -> (w4.alloc (.cells #[.string x.s, .int .i64 x.k, .string x.p, .int .i64 x.m, .string x.d, .string x.n, .slice x.A5 x.n5 x.c5, .slice x.A6 x.n6 x.c6] 50)).grownBy w5 (Value.slice A7 n c7).ownBlock ->
     ((Value.slice A7 n c7).ownBlock = some gb \/ gb = (w4.alloc (.cells #[.string x.s, .int .i64 x.k, .string x.p, .int .i64 x.m, .string x.d, .string x.n, .slice x.A5 x.n5 x.c5, .slice x.A6 x.n6 x.c6] 50)).heap.size) ->
     CfI w cu r A S cn k z d (f' + 1) F (P ++ [(x, t)]) (n + 1) (.slice (some ⟨gb, 0, none⟩) (n + 1) cap) i4 c4 b4 g' w5 /\ cuM cu S.n w5 < cuM cu S.n wo := by
    intro gb cap w5 hown5 hgrow hat;obtain ⟨ROW5, K5, old5, oth5, hs5⟩ := NmR.moreK (x := (x, t)) ROW4 (by omega) hwo hsx hT4 hown5 hgrow hat K4 (Nat.le_refl _)
    have h5 : RSt cu r A S.n cn i4 c4 b4 w5 := h4.keep fun k hk hlt => oth5 k (fun vs fr e => by
     rcases hk _ _ _ e with q | q | q <;> exact absurd q (by decide)) hlt
    have hlim : b4 = 0 -> n + 1 <= 20 /\ i + 1 < i4 /\ twice x.s (insN (fdOf P)) = false := fun hb => by
     subst hb;have := field_ok hres.symm
     rw [HLN.out] at this;obtain ⟨q1, q2, q3, q4, q5⟩ := this;exact ⟨by omega, q4, by rw [q3]; exact q2⟩
    refine ⟨⟨K5, ROW5, h5, ?_, by omega, by omega, fun e => (hlim e).1, hc4, fun e => nodup_snoc HAP.out (hlim e).2.2⟩, ?_⟩
    ·rw [HFIN.out, fdOf_snoc]; exact parts_cont hres.symm
    ·rw [MI.out, h5.cur.m]
     simp only [if_true];split
     ·rename_i e
      have := hlim e
      omega
     ·omega
   have HKEY := zH KEY;clear hT4 k4 h4 hres ROW4 K4 HRE HROW3 HK3 hwo KEY;go_wp2_with (first | ((with_reducible refine wpList_append_lies _ ?_ (.tmp 18) (.tmp 24) 51 ?_ (w.heap.size) 50 inf _ 8 128 ?_ hi1' hy0 hy1 hy2 ?_ ?_ (.slice A7 n c7) (n) _ ?_ (hown.alloc _) ⟨w4.heap.size, 0, none⟩ 1 1 [.string x.s, .int .i64 x.k, .string x.p, .int .i64 x.m, .string x.d, .string x.n, .slice x.A5 x.n5 x.c5, .slice x.A6 x.n6 x.c6] ?_ ?_ ?_ ?_ ?_ ?_ ?_ ?_ _ rfl ?_); rfl; rfl; exact Tryz.underlying51; rfl; exact Nat.zero_lt_succ _; rfl; rfl; rfl; exact hNW; exact (fun u hu => by simp at hu; rcases hu with rfl | rfl | rfl | rfl | rfl | rfl | rfl | rfl <;> rfl); exact Nat.one_pos; exact hMX; omega; exact hAL; intro gb cap w5 hown5 hgrow hat hlt5; have KK := zH (HKEY.out gb cap w5 hown5 hgrow hat); clear hown5 hgrow hat hown hNW hAL hMX hi1' hy0 hy1 hy2))
   go_roundw
   case rel => exact ⟨P ++ [(x, t)], n + 1, i4, c4, b4, g', zH KK.out.1, by omega⟩
   case measure => exact KK.out.2
end Go.Proofs.YtddlmigofilejaaGreatDoor
namespace Go.Proofs
open Go.Shelf
def Tryz.sortNamed_ren : Go.Shelf.Ren := ⟨fun | 6 => 231 | 15 => 245 | 14 => 258 | 28 => 272 | 29 => 273 | 20 => 282 | 21 => 283 | 22 => 284 | 23 => 285 | 24 => 286 | 25 => 287 | 26 => 288 | 27 => 289 | 46 => 299 | 47 => 292 | 48 => 293 | 49 => 300 | 50 => 301 | 57 => 303 | n => n, fun | 22 => 51 | 24 => 50 | 25 => 277 | 3 => 3 | 39 => 286 | 0 => 0 | 53 => 318 | 55 => 295 | 4 => 4 | 46 => 312 | 45 => 311 | 50 => 293 | 5 => 5 | 9 => 9 | 66 => 332 | 70 => 223 | 76 => 339 | 77 => 40 | n => n, fun | n => n⟩
theorem Tryz.sortNamed : Go.Proofs.SlLaysF0.n6 Tryz.prog Tryz.sortNamed_ren := {
  mixed := by kernel_rfl
  f6 := ⟨Tryz.f231.name, by decide, Tryz.func231.trans (congrArg some (by kernel_rfl))⟩
  f14 := ⟨Tryz.f258.name, by decide, Tryz.func258.trans (congrArg some (by kernel_rfl))⟩
  f15 := Tryz.func245.trans (congrArg some (by kernel_rfl))
  f20 := ⟨Tryz.f282.name, by decide, Tryz.func282.trans (congrArg some (by kernel_rfl))⟩
  f21 := ⟨Tryz.f283.name, by decide, Tryz.func283.trans (congrArg some (by kernel_rfl))⟩
  f22 := ⟨Tryz.f284.name, by decide, Tryz.func284.trans (congrArg some (by kernel_rfl))⟩
  f23 := ⟨Tryz.f285.name, by decide, Tryz.func285.trans (congrArg some (by kernel_rfl))⟩
  f24 := ⟨Tryz.f286.name, by decide, Tryz.func286.trans (congrArg some (by kernel_rfl))⟩
  f25 := ⟨Tryz.f287.name, by decide, Tryz.func287.trans (congrArg some (by kernel_rfl))⟩
  f26 := ⟨Tryz.f288.name, by decide, Tryz.func288.trans (congrArg some (by kernel_rfl))⟩
  f27 := ⟨Tryz.f289.name, by decide, Tryz.func289.trans (congrArg some (by kernel_rfl))⟩
  f28 := Tryz.func272.trans (congrArg some (by kernel_rfl))
  f29 := Tryz.func273.trans (congrArg some (by kernel_rfl))
  f46 := ⟨Tryz.f299.name, by decide, Tryz.func299.trans (congrArg some (by kernel_rfl))⟩
  f47 := Tryz.func292.trans (congrArg some (by kernel_rfl))
  f48 := Tryz.func293.trans (congrArg some (by kernel_rfl))
  f49 := ⟨Tryz.f300.name, by decide, Tryz.func300.trans (congrArg some (by kernel_rfl))⟩
  f50 := ⟨Tryz.f301.name, by decide, Tryz.func301.trans (congrArg some (by kernel_rfl))⟩
  f57 := ⟨Tryz.f303.name, by decide, Tryz.func303.trans (congrArg some (by kernel_rfl))⟩
  t0 := Tryz.underlying0
  a0 := Tryz.isAgg0
  z0 := Tryz.sizeOf0
  v0 := Tryz.zeroValue0
  t3 := Tryz.underlying3
  a3 := Tryz.isAgg3
  z3 := Tryz.sizeOf3
  v3 := Tryz.zeroValue3
  t4 := Tryz.underlying4
  a4 := Tryz.isAgg4
  z4 := Tryz.sizeOf4
  v4 := Tryz.zeroValue4
  t5 := Tryz.underlying5
  a5 := Tryz.isAgg5
  z5 := Tryz.sizeOf5
  v5 := Tryz.zeroValue5
  t9 := Tryz.underlying9
  a9 := Tryz.isAgg9
  z9 := Tryz.sizeOf9
  v9 := Tryz.zeroValue9
  t22 := Tryz.underlying51
  a22 := Tryz.isAgg51
  z22 := Tryz.sizeOf51
  v22 := Tryz.zeroValue51
  t25 := Tryz.underlying277
  a25 := Tryz.isAgg277
  z25 := Tryz.sizeOf277
  v25 := Tryz.zeroValue277
  t39 := Tryz.underlying286
  a39 := Tryz.isAgg286
  z39 := Tryz.sizeOf286
  v39 := Tryz.zeroValue286
  t45 := Tryz.underlying311
  a45 := Tryz.isAgg311
  z45 := Tryz.sizeOf311
  v45 := Tryz.zeroValue311
  t46 := Tryz.underlying312
  a46 := Tryz.isAgg312
  z46 := Tryz.sizeOf312
  v46 := Tryz.zeroValue312
  t50 := Tryz.underlying293
  a50 := Tryz.isAgg293
  z50 := Tryz.sizeOf293
  v50 := Tryz.zeroValue293
  t53 := Tryz.underlying318
  a53 := Tryz.isAgg318
  z53 := Tryz.sizeOf318
  v53 := Tryz.zeroValue318
  t55 := Tryz.underlying295
  a55 := Tryz.isAgg295
  z55 := Tryz.sizeOf295
  v55 := Tryz.zeroValue295
  t66 := Tryz.underlying332
  a66 := Tryz.isAgg332
  z66 := Tryz.sizeOf332
  v66 := Tryz.zeroValue332
  t70 := Tryz.underlying223
  a70 := Tryz.isAgg223
  z70 := Tryz.sizeOf223
  v70 := Tryz.zeroValue223
  t76 := Tryz.underlying339
  a76 := Tryz.isAgg339
  z76 := Tryz.sizeOf339
  v76 := Tryz.zeroValue339
  t77 := Tryz.underlying40
  a77 := Tryz.isAgg40
  z77 := Tryz.sizeOf40
  v77 := Tryz.zeroValue40 }
end Go.Proofs
namespace Go.Proofs.YtddlmigofilejaaGreatDoor
open Go.RowKit
open Go.Sort
open M
theorem cmp_less : ∀ a b : List UInt8, decide (Lib.compareBytes a b < 0) = Op.bytesLess a b
  | [], [] => rfl
  | [], _ :: _ => rfl
  | _ :: _, [] => rfl
  | a :: ar, b :: br => by
    have ih := cmp_less ar br;unfold Lib.compareBytes Op.bytesLess
    by_cases h1 : a < b
    · simp [h1]
    · rw [if_neg h1]
      by_cases h2 : b < a
      · rw [if_pos h2]
        have hne : a ≠ b := fun e => by subst e; exact h1 h2
        simp [h1, hne]
      · rw [if_neg h2]
        have e : a = b := UInt8.le_antisymm (UInt8.not_lt.1 h2) (UInt8.not_lt.1 h1);subst e;simpa using ih
def cmpN (x y : Nv) : Int := Lib.compareBytes x.s.data.toList y.s.data.toList
theorem ltN (x y : Nv) : ltOf cmpN x y = Op.bytesLess x.s.toList y.s.toList := by
  unfold ltOf cmpN
  rw [cmp_less, Lib.toList_data, Lib.toList_data]
theorem swoN : SWO (ltOf cmpN) where
  irrefl x := by rw [ltN]; exact bl_irrefl _
  trans x y z h1 h2 := by rw [ltN] at *; exact bl_trans _ _ _ h1 h2
  ntrans x y z h1 h2 := by rw [ltN] at *; exact bl_ntrans _ _ _ h1 h2
theorem closN (x y : Nv) (W : World) : Calls Tryz.prog 232 #[.agg x.enc.toArray, .agg y.enc.toArray] W fun e w' => e = .returned (.int .i64 (cmpN x y)) /\ ∃ q os', w' = grow (W.drewN q) os' := by
  have hcon := fun W' => Tryz.strings_Compare x.s y.s W'
  unfold cmpN
  generalize Lib.compareBytes x.s.data.toList y.s.data.toList = r at hcon ⊢
  unfold Nv.enc
  go_enter Tryz.func232, Tryz.ntmps232
  go_wp2_with fail
  refine (hcon _).mono ?_; rintro e w' ⟨rfl, rfl⟩
  go_wp2_with fail
  go_ret;exact ⟨rfl, 0, _, by rw [alloc_eq_grow, alloc_eq_grow, grow_grow]; rfl⟩
theorem grown_sortedN {w : World} {g n : Nat} {os : Array Obj} (d : Array Nv) : w.grownBy (sortWorldK Nv.enc 8 w g 0 n d os) (some g) := by
  unfold sortWorldK putRowK
  refine ⟨rfl, rfl, rfl, by simp, fun k hk hne => ?_⟩;rw [heap_grow_old _ _ (by simpa using hk)];have : g ≠ k := fun e => hne (by rw [e])
  simp [putRow, mapBlock, Sort.ahead, Array.getElem?_modify, this]
theorem sort_named {lo : Nat} {P : List Nt} {n : Nat} {v : Value} {w : World} (hR : NmR lo P n v w) (h1 : 1 <= n) (hz : n <= 1000000) :
    Calls Tryz.prog 231 #[v, .func (.func 232) #[] #[]] w fun e w' => e = .returned (.tuple #[]) /\ ∃ g cap P', v = .slice (some ⟨g, 0, none⟩) n cap /\ lo <= g /\ g < w.heap.size /\ w.grownBy w' (some g) /\
      P'.Perm P /\ (fdOf P').Pairwise leF /\ ∀ k x, P'[k]? = some x -> ∀ q u, x.1.enc[q]? = some u -> w'.cell? ⟨g, 0 + k * 8 + q, none⟩ = some u := by
  have hl := hR.len;rcases hR.own.2 with ⟨rfl, h0⟩ | ⟨g, cap, cur, rfl, hB, hg, hnc, hcm, hcs, htake⟩
  · omega
  obtain ⟨d, hd⟩ : ∃ d : Array Nv, d = (P.map (·.1)).toArray := ⟨_, rfl⟩;have hds : d.size = n := by rw [hd]; simp [hl]
  have hgl := (Array.getElem?_eq_some_iff.1 hg).1
  have hH : HoldsK Nv.enc 8 w g 0 d := by
    intro j hj;rw [size_flatK] at hj;refine ⟨?_, Lib.frozen_of_heap hg _⟩;rw [get_flatK _ _ _ _ hj, cZ hg, <- Array.getElem?_toList];have hi : j / 8 < P.length := by omega
    have hx : P[j / 8]? = some P[j / 8] := List.getElem?_eq_getElem hi;have e1 := rowN_at P (j / 8) (j % 8) _ hx (by omega);rw [<- htake, List.getElem?_take, show j / 8 * 8 + j % 8 = j by omega, if_pos (by omega)] at e1;rw [Nat.zero_add, e1];have e2 : d[j / 8]! = P[j / 8].1 := by rw [hd]; simp [hi]
    rw [e2];have hq : j % 8 < (P[j / 8].1.enc).length := by rw [Nv.len]; omega
    rw [List.getElem?_eq_getElem hq];simp [hq]
  have eg : ∀ args w, (callFunc 232 args).run Tryz.prog w = .ok (.enter 232 args) w := enters_of Tryz.func232 (by kernel_rfl) rfl;have hcon := AnyQ.slices_SortFunc Tryz.sortNamed 8 Tryz.isAgg50 Tryz.sizeOf50 Nv.enc Nv.len Nv.one cmpN swoN 232 #[] g 0 cap d w eg (fun _ _ _ _ x y => closN x y _) hH hgl (by omega);change Calls Tryz.prog 231 _ _ _ at hcon
  rw [hds] at hcon;refine hcon.mono fun e w' ⟨he, d', m, os, hp, hs, hw⟩ => ⟨he, g, cap, ?_⟩
  obtain ⟨hp1, -, hp3⟩ := hp;have hd's : d'.size = n := by omega
  have hperm : d'.toList.Perm (P.map (·.1)) := by
    have e1 : d'.extract 0 n = d' := by rw [<- hd's]; exact Array.extract_size
    have e2 : d.extract 0 n = d := by rw [<- hds]; exact Array.extract_size
    rw [e1, e2] at hp3;rw [hd] at hp3;simpa using hp3
  obtain ⟨P', hP', hm⟩ := perm_lift (fun x : Nt => x.1) hperm;have hlen' : P'.length = n := by rw [hP'.length_eq]; exact hl
  have hat : ∀ k x, P'[k]? = some x -> k < n /\ d'[k]! = x.1 := fun k x hx => by
    have hk := (List.getElem?_eq_some_iff.1 hx).1;refine ⟨by omega, ?_⟩;have : d'.toList[k]? = some x.1 := by rw [<- hm, List.getElem?_map, hx]; rfl
    rw [Array.getElem?_toList] at this;rw [Array.getElem!_eq_getD, Array.getD_eq_getD_getElem?, this]; rfl
  have hH' := holdsK_sortWorldK_c Nv.enc 8 w g 0 d d' m os hH hgl (by omega)
  refine ⟨P', rfl, hB, hgl, by rw [hw]; exact grown_sortedN d', hP', ?_, fun k x hx q u hu => ?_⟩
  · refine List.pairwise_iff_getElem.2 fun i j hi hj hij => ?_
    have hi' : i < P'.length := by simpa [fdOf] using hi
    have hj' : j < P'.length := by simpa [fdOf] using hj
    have := hs i j (Nat.zero_le _) hij (by omega)
    rw [ltN, (hat j _ (List.getElem?_eq_getElem hj')).2, (hat i _ (List.getElem?_eq_getElem hi')).2] at this;show Op.bytesLess _ _ = false
    simpa [fdOf] using this
  · obtain ⟨hk, he⟩ := hat k x hx
    have hq : q < 8 := by have := (List.getElem?_eq_some_iff.1 hu).1; rwa [x.1.len] at this
    rw [hw];have := (hH'.cell (i := k) (c := q) (by omega) hq).1
    rw [he] at this;rw [this];obtain ⟨hq', e⟩ := List.getElem?_eq_some_iff.1 hu;simp [hq', e]
end Go.Proofs.YtddlmigofilejaaGreatDoor
