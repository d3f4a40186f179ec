/-
  Several texts in one: The code's local and open. · The code's list, over what read tells. · Plain: what a token begins, and what is read then. · A region that draws its order and only reads, but for its last operation, a call for which all others are waited: one walk of the text's order serves every order. Nothing of any program.
-/
import Derived.Test.YtpfoclpgcbjjoaaGreatDoorJ05
import Derived.Lib.QuietBelow
import Derived.Test.YtpfoclpgcbjjoaaGreatDoorJ00
/- The code's local and open. -/
namespace Go.Proofs.YtpfoclpgcbjjoaaGreatDoor
open Go.RowKit
open Go.Sort
open M

theorem small_k (S : Toks) (i : Nat) : (decide (i < S.n) && smallK (S.K i) (S.T i)) = S.small i := by unfold smallK Toks.small; rw [Bool.and_assoc]
theorem great_k (S : Toks) (i : Nat) : (decide (i < S.n) && greatK (S.K i) (S.T i)) = S.great i := by unfold greatK Toks.great; rw [Bool.and_assoc]
theorem small_at (S : Toks) (i : Nat) : smallK (kAt S 0 i) (tAt S 0 i) = S.small i := by
  rw [← small_k]
  unfold kAt tAt
  by_cases h : i < S.n
  · rw [if_pos ⟨rfl, h⟩, if_pos ⟨rfl, h⟩]; simp [h]
  · rw [if_neg (fun x => h x.2)]; simp [h, smallK]

/-- What a call of the code's reader that tells a type leaves. -/
def COut (w : World) (cu r : Nat) (A : Option Addr) (n cn : Nat) (R : Res Ty) (e : Ending) (w' : World) : Prop :=
  ∃ (l : List Value) (t : Ty) (i c b : Nat), e = .returned (.agg l.toArray) ∧ TyAt (strike (· < w.heap.size) w') l t ∧ KQ cu r w w' ∧ RSt cu r A n cn i c b w' ∧ c ≤ 500 ∧ badR b i (.ok t i c) = R
theorem COut.seal {w wk : World} {cu r b m : Nat} {A : Option Addr} {n cn i c bd : Nat} {R : Res Ty} {t : Ty} {old : Array Value} {v0 v1 v2 v3 v4 v5 v6 : Value}
    (hb : w.heap.size ≤ b) (hres : wk.heap[b]? = some (.cells old 42 (0, 0))) (hK : KQ cu r w wk) (hT : TyAt (strike (· < m) wk) [v0, v1, v2, v3, v4, v5, v6] t) (hbm : b < m) (hr : r < w.heap.size) (hC : RSt cu r A n cn i c bd wk) (h5 : c ≤ 500) (hR : badR bd i (.ok t i c) = R) :
    (∀ i v, ([v0, v1, v2, v3, v4, v5, v6] : List Value)[i]? = some v → (wk.setRow b #[v0, v1, v2, v3, v4, v5, v6]).cell? ⟨b, i, none⟩ = some v) ∧
    COut w cu r A n cn R (.returned (.agg #[v0, v1, v2, v3, v4, v5, v6])) (wk.setRow b #[v0, v1, v2, v3, v4, v5, v6]) := by
  refine ⟨cell7 (setRow_heap wk b old _ _ _ hres), [v0, v1, v2, v3, v4, v5, v6], t, i, c, bd, rfl, ?_, ?_, ?_, h5, hR⟩
  · exact hT.move (by simp) fun b' hlt hS => ⟨by omega, setRow_other wk b b' _ (by omega)⟩
  · exact ⟨hK.os, hK.tape, hK.output, by have := hK.size; simpa using this, fun j hj h1 h2 => (setRow_other wk b j _ (by omega)).trans (hK.block j hj h1 h2)⟩
  · exact hC.other hres (by decide) (fun k hk => setRow_other wk b k _ (by omega))

/-- The result's box, as it is made. -/
def Bx (b : Nat) (w : World) : Prop := w.heap[b]? = some (.cells #[.int .i64 0, .string ⟨#[]⟩, .int .i64 0, .string ⟨#[]⟩, .string ⟨#[]⟩, .slice none 0 0, .slice none 0 0] 42 (0, 0))

theorem nameOut_res {α : Type} {S : Toks} {ok : Bool} {i b : Nat} {s : ByteArray} {i' b' : Nat} (h : NameOut S ok i b s i' b') (x : ByteArray → Nat → Res α) :
    badR b' i' (x s i') = badR b i (if ok = false then .err 2 i else x (S.T i) (i + 1)) := by
  rcases h with ⟨rfl, rfl, rfl, rfl, rfl⟩ | ⟨rfl, rfl, rfl, rfl⟩ | ⟨hb, rfl, rfl⟩
  · rfl
  · rfl
  · rw [badR_ne _ _ hb, badR_ne _ _ hb]
theorem numOut_res {α : Type} {S : Toks} {i b : Nat} {v : Int} {i' b' : Nat} (h : NumOut S i b v i' b') (x : Int → Nat → Res α) :
    badR b' i' (x v i') = badR b i (if S.major i = false then .err 2 i else x (digs (S.T i).data.toList 0) (i + 1)) := by
  rcases h with ⟨rfl, h1, rfl, rfl, rfl⟩ | ⟨rfl, h1, rfl, rfl⟩ | ⟨hb, rfl, rfl⟩
  · rw [h1]; rfl
  · rw [h1]; rfl
  · rw [badR_ne _ _ hb, badR_ne _ _ hb]

theorem loc0_res {S : Toks} {i c i3 b3 : Nat} {s : ByteArray} (h : NameOut S (decide (i < S.n) && greatK (S.K i) (S.T i)) i 0 s i3 b3) :
    badR b3 i3 (.ok (.mk 8 ⟨#[]⟩ 0 ⟨#[]⟩ s [] []) i3 c) = if S.great i = false then .err 2 i else .ok (localT ⟨#[]⟩ (S.T i)) (i + 1) c := by
  have := nameOut_res h (fun s i => Res.ok (localT ⟨#[]⟩ s) i c)
  rw [great_k] at this
  exact this
theorem loc1_res {S : Toks} {i c i3 b3 i5 b5 : Nat} {s1 s : ByteArray} (h1 : NameOut S (decide (i < S.n) && smallK (S.K i) (S.T i)) i 0 s1 i3 b3)
    (h : NameOut S (decide (psI b3 (S.sign i3 [46]) i3 < S.n) && greatK (S.K (psI b3 (S.sign i3 [46]) i3)) (S.T (psI b3 (S.sign i3 [46]) i3))) (psI b3 (S.sign i3 [46]) i3) (psB b3 (S.sign i3 [46])) s i5 b5) :
    badR b5 i5 (.ok (.mk 8 ⟨#[]⟩ 0 s1 s [] []) i5 c) = if S.small i = false then .err 2 i else pLocal S (S.T i) (i + 1) c := by
  have a := nameOut_res h (fun s i => Res.ok (localT s1 s) i c)
  rw [great_k] at a
  have b := sign_res (S.sign i3 [46]) b3 i3 (fun j => if S.great j = false then Res.err 2 j else .ok (localT s1 (S.T j)) (j + 1) c)
  have d := nameOut_res h1 (fun s j => if S.sign j [46] = false then Res.err 2 j else if S.great (j + 1) = false then .err 2 (j + 1) else .ok (localT s (S.T (j + 1))) (j + 1 + 1) c)
  rw [small_k] at d
  exact a.trans (b.trans d)

set_option maxRecDepth 100000 in
set_option maxHeartbeats 4000000 in
theorem clocal_any {W : World} {cu r : Nat} {A : Option Addr} {S : Toks} {cn i c : Nat} {w : World} (hc : RCtx W cu r A S w) (h : RSt cu r A S.n cn i c 0 w) (hc5 : c ≤ 500) (R : Res Ty) (hR : R = if S.small i = true then pLocal S (S.T i) (i + 1) c else if S.great i = false then .err 2 i else .ok (localT ⟨#[]⟩ (S.T i)) (i + 1) c) :
    Calls Tryz.prog 182 #[.pointer (some ⟨r, 0, none⟩)] w (COut w cu r A S.n cn R) := by
  have hr := h.lt
  have hq0 := h.qlt
  obtain ⟨w0, hw0⟩ : ∃ w0, w0 = w.alloc (.cells #[.int .i64 0, .string ⟨#[]⟩, .int .i64 0, .string ⟨#[]⟩, .string ⟨#[]⟩, .slice none 0 0, .slice none 0 0] 42) := ⟨_, rfl⟩
  have B0 : Below w.heap.size w w0 := by rw [hw0]; exact below_new (Below.refl _ _) _
  have X0 : Bx w.heap.size w0 := by rw [hw0]; exact heap_alloc_new w _
  have hl0 : w.heap.size < w0.heap.size := (Array.getElem?_eq_some_iff.1 X0).1
  have NX := Lib.hid (rnext_any (hc.on (KQ.of_below B0)) (h.below B0))
  have HH := Lib.hid (h.below B0)
  have p0 := (h.below B0).p
  have HC := Lib.hid (hc.on (KQ.of_below B0))
  have HX0 := Lib.hid X0
  have HK0 := Lib.hid (KQ.of_below (q := cu) (r := r) B0)
  have hts := tAt_size hc.cur 0 i
  have hsm := small_at S i
  have HR := Lib.hid hR
  have HW0 := Lib.hid hw0
  have hne : w.heap.size ≠ r ∧ w.heap.size ≠ cu := ⟨Nat.ne_of_gt hr, Nat.ne_of_gt hq0⟩
  clear h hc hR hw0 B0 X0
  go_enter Tryz.func182, Tryz.ntmps182
  go_upto_region 1 with fail
  rw [← HW0.out]
  go_wp2_with fail
  refine NX.out.mono ?_; rintro e w1 ⟨y, rfl, hb1⟩
  obtain ⟨q, hq⟩ : ∃ q, S.small i = q := ⟨_, rfl⟩
  have IS := Lib.hid (isSmall_any (kAt S 0 i) y (tAt S 0 i) w1 (by omega))
  rw [hsm, hq] at IS
  have HB1 := Lib.hid hb1
  have HQ := Lib.hid hq
  generalize hk : kAt S 0 i = k at IS ⊢
  generalize ht : tAt S 0 i = t at hts IS ⊢
  clear hk ht hb1 NX hsm hq hts
  go_wp2_with fail
  refine IS.out.mono ?_; rintro e w2 ⟨rfl, hb2⟩
  have B02 := below_over HB1.out hb2
  have HB2 := Lib.hid B02
  have h2 := HH.out.below B02
  have p2 := h2.p
  have C2 := HC.out.on (KQ.of_below B02)
  have HX2 : Hid (Bx w.heap.size w2) := Lib.hid ((B02.block _ hl0).trans HX0.out)
  have HKP2 := Lib.hid (HK0.out.trans (KQ.of_below B02))
  have HC2 := Lib.hid C2
  have hl2 := Nat.lt_of_lt_of_le hl0 B02.size
  clear hb2 IS HB1 B02 HX0 HK0
  rcases hid_or q with aq | aq
  · have := aq.out; subst this
    have WD := Lib.hid (rword_any C2 h2 _ _ asksGreat (by decide))
    clear h2 C2 HB2 HH HC
    go_wp2_with fail
    refine WD.out.mono ?_; rintro e w3 ⟨s, i3, b3, rfl, hs3, h3, k3, hN⟩
    have p3 := h3.p
    have X3 : Bx w.heap.size w3 := (k3.blk hl2 hne).trans HX2.out
    have SEAL := Lib.hid (COut.seal (R := R) (Nat.le_refl _) X3 (HKP2.out.trans k3) (TyAt.leaf (strike (· < w.heap.size + 1) w3) 8 ⟨#[]⟩ 0 ⟨#[]⟩ s (by decide) (by decide) (by omega)) (Nat.lt_succ_self _) hr h3 hc5 (by
      rw [loc0_res hN, HR.out, HQ.out]; rfl))
    unfold Bx at X3
    clear h3 k3 hN WD HX2 HKP2 HC2
    go_wp2_with (first | ((with_reducible refine wpList_putRow 42 (w.heap.size) #[.int .i64 8, .string ⟨#[]⟩, .int .i64 0, .string ⟨#[]⟩, .string s, .slice none 0 0, .slice none 0 0] _ _ X3 ?_ ?_ ?_ ?_ ?_ ?_); exact tySize; rfl; exact tyOne; (focus (first | (go_simp; done) | rfl)); (focus (first | (go_simp; done) | rfl))))
    exact ret_agg1 (fn := Tryz.f182) (vs := [.int .i64 8, .string ⟨#[]⟩, .int .i64 0, .string ⟨#[]⟩, .string s, .slice none 0 0, .slice none 0 0]) (b := w.heap.size) rfl rfl Tryz.underlying42 (by kernel_rfl) SEAL.out.1 rfl SEAL.out.2
  · have := aq.out; subst this
    have WD := Lib.hid (rword_any C2 h2 _ _ asksSmall (by decide))
    clear h2 C2 HB2 HH HC
    go_wp2_with fail
    refine WD.out.mono ?_; rintro e w3 ⟨s1, i3, b3, rfl, hs3, h3, k3, hN⟩
    have p3 := h3.p
    have C3 := HC2.out.on k3
    have SG := Lib.hid (rsign_any C3 h3 ⟨#[46]⟩)
    have X3 : Bx w.heap.size w3 := (k3.blk hl2 hne).trans HX2.out
    have HX3 := Lib.hid X3
    have HK3 := Lib.hid (HKP2.out.trans k3)
    have HC3 := Lib.hid C3
    have HN1 := Lib.hid hN
    have hl3 := Nat.lt_of_lt_of_le hl2 k3.size
    clear h3 k3 hN C3 X3 WD HX2 HKP2 HC2
    go_wp2_with fail
    refine SG.out.mono ?_; rintro e w4 ⟨rfl, h4, k4⟩
    have p4 := h4.p
    have C4 := HC3.out.on k4
    have WD := Lib.hid (rword_any C4 h4 _ _ asksGreat (by decide))
    have HX4 : Hid (Bx w.heap.size w4) := Lib.hid ((k4.blk hl3 hne).trans HX3.out)
    have HK4 := Lib.hid (HK3.out.trans k4)
    have hl4 := Nat.lt_of_lt_of_le hl3 k4.size
    clear h4 k4 C4 SG HX3 HK3 HC3
    go_wp2_with fail
    refine WD.out.mono ?_; rintro e w5 ⟨s, i5, b5, rfl, hs5, h5, k5, hN⟩
    have p5 := h5.p
    have X5 : Bx w.heap.size w5 := (k5.blk hl4 hne).trans HX4.out
    have SEAL := Lib.hid (COut.seal (R := R) (Nat.le_refl _) X5 (HK4.out.trans k5) (TyAt.leaf (strike (· < w.heap.size + 1) w5) 8 ⟨#[]⟩ 0 s1 s (by decide) (by omega) (by omega)) (Nat.lt_succ_self _) hr h5 hc5 (by
      rw [loc1_res HN1.out hN, HR.out, HQ.out]; rfl))
    unfold Bx at X5
    clear h5 k5 hN WD HX4 HK4
    go_wp2_with (first | ((with_reducible refine wpList_putRow 42 (w.heap.size) #[.int .i64 8, .string ⟨#[]⟩, .int .i64 0, .string s1, .string s, .slice none 0 0, .slice none 0 0] _ _ X5 ?_ ?_ ?_ ?_ ?_ ?_); exact tySize; rfl; exact tyOne; (focus (first | (go_simp; done) | rfl)); (focus (first | (go_simp; done) | rfl))))
    exact ret_agg1 (fn := Tryz.f182) (vs := [.int .i64 8, .string ⟨#[]⟩, .int .i64 0, .string s1, .string s, .slice none 0 0, .slice none 0 0]) (b := w.heap.size) rfl rfl Tryz.underlying42 (by kernel_rfl) SEAL.out.1 rfl SEAL.out.2

theorem open_any_res {S : Toks} {i c i1 b1 i2 b2 i3 b3 i4 b4 : Nat} {p m n : ByteArray} {v : Int} (hq : S.sign i [60] = true)
    (h1 : NameOut S (decide (i + 1 < S.n) && smallK (S.K (i + 1)) (S.T (i + 1))) (i + 1) 0 p i1 b1) (h2 : NumOut S i1 b1 v i2 b2)
    (h3 : NameOut S (decide (i2 < S.n) && smallK (S.K i2) (S.T i2)) i2 b2 m i3 b3) (h4 : NameOut S (decide (i3 < S.n) && greatK (S.K i3) (S.T i3)) i3 b3 n i4 b4) :
    badR (psB b4 (S.sign i4 [62])) (psI b4 (S.sign i4 [62]) i4) (Res.ok (Ty.mk 9 p v m n [] []) (psI b4 (S.sign i4 [62]) i4) c) = pOpen S (i + 1) c := by
  rw [small_k] at h1 h3
  rw [great_k] at h4
  have e5 := sign_res (S.sign i4 [62]) b4 i4 (fun j => Res.ok (Ty.mk 9 p v m n [] []) j c)
  have e4 := nameOut_res h4 (fun n j => if S.sign j [62] = false then Res.err 2 j else Res.ok (Ty.mk 9 p v m n [] []) (j + 1) c)
  have e3 := nameOut_res h3 (fun m j => if S.great j = false then Res.err 2 j else if S.sign (j + 1) [62] = false then Res.err 2 (j + 1) else Res.ok (Ty.mk 9 p v m (S.T j) [] []) (j + 1 + 1) c)
  have e2 := numOut_res h2 (fun v j => if S.small j = false then Res.err 2 j else if S.great (j + 1) = false then Res.err 2 (j + 1) else if S.sign (j + 1 + 1) [62] = false then Res.err 2 (j + 1 + 1) else Res.ok (Ty.mk 9 p v (S.T j) (S.T (j + 1)) [] []) (j + 1 + 1 + 1) c)
  have e1 := nameOut_res h1 (fun p j => if S.major j = false then Res.err 2 j else if S.small (j + 1) = false then Res.err 2 (j + 1) else if S.great (j + 1 + 1) = false then Res.err 2 (j + 1 + 1) else if S.sign (j + 1 + 1 + 1) [62] = false then Res.err 2 (j + 1 + 1 + 1) else Res.ok (Ty.mk 9 p (digs (S.T j).data.toList 0) (S.T (j + 1)) (S.T (j + 1 + 1)) [] []) (j + 1 + 1 + 1 + 1) c)
  refine e5.trans (e4.trans (e3.trans (e2.trans (e1.trans ?_))))
  rw [badR_0]
  rfl

set_option maxRecDepth 100000 in
set_option maxHeartbeats 4000000 in
theorem copen_any {W : World} {cu r : Nat} {A : Option Addr} {S : Toks} {cn i c : Nat} {w : World} (hc : RCtx W cu r A S w) (he : CEnv W) (h : RSt cu r A S.n cn i c 0 w) (hc5 : c ≤ 500) (R : Res Ty) (hq : S.sign i [60] = true) (hR : R = pOpen S (i + 1) c) :
    Calls Tryz.prog 183 #[.pointer (some ⟨r, 0, none⟩)] w (COut w cu r A S.n cn R) := by
  have hr := h.lt
  have hq0 := h.qlt
  obtain ⟨w0, hw0⟩ : ∃ w0, w0 = w.alloc (.cells #[.int .i64 0, .string ⟨#[]⟩, .int .i64 0, .string ⟨#[]⟩, .string ⟨#[]⟩, .slice none 0 0, .slice none 0 0] 42) := ⟨_, rfl⟩
  have B0 : Below w.heap.size w w0 := by rw [hw0]; exact below_new (Below.refl _ _) _
  have X0 : Bx w.heap.size w0 := by rw [hw0]; exact heap_alloc_new w _
  have hl0 : w.heap.size < w0.heap.size := (Array.getElem?_eq_some_iff.1 X0).1
  have C0 := hc.on (KQ.of_below B0)
  have SG := Lib.hid (rsign_any C0 (h.below B0) ⟨#[60]⟩)
  have HC0 := Lib.hid C0
  have p0 := (h.below B0).p
  have HX0 := Lib.hid X0
  have HK0 := Lib.hid (KQ.of_below (q := cu) (r := r) B0)
  have HR := Lib.hid hR
  have HQ := Lib.hid hq
  have HE := Lib.hid he
  have HW0 := Lib.hid hw0
  have hne : w.heap.size ≠ r ∧ w.heap.size ≠ cu := ⟨Nat.ne_of_gt hr, Nat.ne_of_gt hq0⟩
  clear h hc hR hw0 B0 X0 C0 hq he
  go_enter Tryz.func183, Tryz.ntmps183
  go_upto_region 1 with fail
  rw [← HW0.out]
  go_wp2_with fail
  refine SG.out.mono ?_; rintro e w1 ⟨rfl, h1, k1⟩
  have p1 := h1.p
  have hs1 : S.sign i (⟨#[60]⟩ : ByteArray).data.toList = true := HQ.out
  rw [hs1] at h1
  have h1' : RSt cu r A S.n cn (i + 1) c 0 w1 := h1
  have C1 := HC0.out.on k1
  have HX1 : Hid (Bx w.heap.size w1) := Lib.hid ((k1.blk hl0 hne).trans HX0.out)
  have HK1 := Lib.hid (HK0.out.trans k1)
  have HC1 := Lib.hid C1
  have hl1 := Nat.lt_of_lt_of_le hl0 k1.size
  have WD := Lib.hid (rword_any C1 h1' _ _ asksSmall (by decide))
  clear h1 h1' k1 C1 SG HX0 HK0 HC0 hs1
  go_wp2_with fail
  refine WD.out.mono ?_; rintro e w2 ⟨s1, i2, b2, rfl, hs2, h2, k2, hN⟩
  have p2 := h2.p
  have HN1 := Lib.hid hN
  have C2 := HC1.out.on k2
  have HX2 : Hid (Bx w.heap.size w2) := Lib.hid ((k2.blk hl1 hne).trans HX1.out)
  have HK2 := Lib.hid (HK1.out.trans k2)
  have HC2 := Lib.hid C2
  have hl2 := Nat.lt_of_lt_of_le hl1 k2.size
  have WD' := Lib.hid (rmajor_any C2 h2 HE.out)
  clear h2 k2 C2 WD HX1 HK1 HC1 hN
  go_wp2_with fail
  refine WD'.out.mono ?_; rintro e w3 ⟨v, i3, b3, rfl, h3, k3, hN⟩
  have p3 := h3.p
  have HN2 := Lib.hid hN
  have C3 := HC2.out.on k3
  have HX3 : Hid (Bx w.heap.size w3) := Lib.hid ((k3.blk hl2 hne).trans HX2.out)
  have HK3 := Lib.hid (HK2.out.trans k3)
  have HC3 := Lib.hid C3
  have hl3 := Nat.lt_of_lt_of_le hl2 k3.size
  have WD := Lib.hid (rword_any C3 h3 _ _ asksSmall (by decide))
  clear h3 k3 C3 WD' HX2 HK2 HC2 hN
  go_wp2_with fail
  refine WD.out.mono ?_; rintro e w4 ⟨s3, i4, b4, rfl, hs4, h4, k4, hN⟩
  have p4 := h4.p
  have HN3 := Lib.hid hN
  have C4 := HC3.out.on k4
  have HX4 : Hid (Bx w.heap.size w4) := Lib.hid ((k4.blk hl3 hne).trans HX3.out)
  have HK4 := Lib.hid (HK3.out.trans k4)
  have HC4 := Lib.hid C4
  have hl4 := Nat.lt_of_lt_of_le hl3 k4.size
  have WD' := Lib.hid (rword_any C4 h4 _ _ asksGreat (by decide))
  clear h4 k4 C4 WD HX3 HK3 HC3 hN
  go_wp2_with fail
  refine WD'.out.mono ?_; rintro e w5 ⟨s4, i5, b5, rfl, hs5, h5, k5, hN⟩
  have p5 := h5.p
  have HN4 := Lib.hid hN
  have C5 := HC4.out.on k5
  have HX5 : Hid (Bx w.heap.size w5) := Lib.hid ((k5.blk hl4 hne).trans HX4.out)
  have HK5 := Lib.hid (HK4.out.trans k5)
  have HC5 := Lib.hid C5
  have hl5 := Nat.lt_of_lt_of_le hl4 k5.size
  have SG := Lib.hid (rsign_any C5 h5 ⟨#[62]⟩)
  clear h5 k5 C5 WD' HX4 HK4 HC4 hN
  go_wp2_with fail
  refine SG.out.mono ?_; rintro e w6 ⟨rfl, h6, k6⟩
  have p6 := h6.p
  have X6 : Bx w.heap.size w6 := (k6.blk hl5 hne).trans HX5.out
  have SEAL := Lib.hid (COut.seal (R := R) (Nat.le_refl _) X6 (HK5.out.trans k6) (TyAt.leaf (strike (· < w.heap.size + 1) w6) 9 s1 v s3 s4 (by omega) (by omega) (by omega)) (Nat.lt_succ_self _) hr h6 hc5 ((open_any_res HQ.out HN1.out HN2.out HN3.out HN4.out).trans HR.out.symm))
  unfold Bx at X6
  clear h6 k6 SG HX5 HK5 HC5
  go_wp2_with (first | ((with_reducible refine wpList_putRow 42 (w.heap.size) #[.int .i64 9, .string s1, .int .i64 v, .string s3, .string s4, .slice none 0 0, .slice none 0 0] _ _ X6 ?_ ?_ ?_ ?_ ?_ ?_); exact tySize; rfl; exact tyOne; (focus (first | (go_simp; done) | rfl)); (focus (first | (go_simp; done) | rfl))))
  exact ret_agg1 (fn := Tryz.f183) (vs := [.int .i64 9, .string s1, .int .i64 v, .string s3, .string s4, .slice none 0 0, .slice none 0 0]) (b := w.heap.size) rfl rfl Tryz.underlying42 (by kernel_rfl) SEAL.out.1 rfl SEAL.out.2

end Go.Proofs.YtpfoclpgcbjjoaaGreatDoor

/- The code's list, over what read tells. -/
namespace Go.Proofs.YtpfoclpgcbjjoaaGreatDoor
open Go.RowKit
open Go.Sort
open M

/-- What read tells of the nth Sub. -/
def readR (S : Toks) (f d n i c : Nat) : Res Ty := if S.begins i = true ∧ 20 < n then .err 3 i else pT S f d i c
theorem readR_one {S : Toks} {f d i c : Nat} : readR S f d 1 i c = pT S f d i c := if_neg (fun x => by omega)
def CReadOk (W : World) (cu r : Nat) (A : Option Addr) (S : Toks) (cn f : Nat) : Prop := ∀ (d n i c b : Nat) (w : World), RCtx W cu r A S w → RSt cu r A S.n cn i c b w → c ≤ 500 → d ≤ 1000000 → n ≤ 1000000 → (b = 0 → ∀ j, readR S f d n i c ≠ .err 99 j) →
  Calls Tryz.prog 161 #[.pointer (some ⟨r, 0, none⟩), .int .i64 d, .int .i64 n] w (COut w cu r A S.n cn (badR b i (readR S f d n i c)))

set_option maxRecDepth 100000 in
set_option maxHeartbeats 4000000 in
theorem clist_any {W : World} {cu r : Nat} {A : Option Addr} {S : Toks} {cn i c f d d' : Nat} {w : World} (RD : CReadOk W cu r A S cn f) (hc : RCtx W cu r A S w) (h : RSt cu r A S.n cn i (c + 1) 0 w) (hi : i < S.n) (hc5 : c + 1 ≤ 500) (hd : d' = d + 1) (hd5 : d' ≤ 1000000) (R : Res Ty) (hR : R = listR S f d i c) (hne : ∀ j, R ≠ .err 99 j) :
    Calls Tryz.prog 178 #[.pointer (some ⟨r, 0, none⟩), .int .i64 d'] w (COut w cu r A S.n cn R) := by
  have hr := h.lt
  have hq0 := h.qlt
  obtain ⟨w0, hw0⟩ : ∃ w0, w0 = w.alloc (.cells #[.int .i64 0, .string ⟨#[]⟩, .int .i64 0, .string ⟨#[]⟩, .string ⟨#[]⟩, .slice none 0 0, .slice none 0 0] 42) := ⟨_, rfl⟩
  have B0 : Below w.heap.size w w0 := by rw [hw0]; exact below_new (Below.refl _ _) _
  have X0 : Bx w.heap.size w0 := by rw [hw0]; exact heap_alloc_new w _
  have hl0 : w.heap.size < w0.heap.size := (Array.getElem?_eq_some_iff.1 X0).1
  have hne0 : w.heap.size ≠ r ∧ w.heap.size ≠ cu := ⟨Nat.ne_of_gt hr, Nat.ne_of_gt hq0⟩
  have C0 := hc.on (KQ.of_below B0)
  have PA := Lib.hid (rpass_any C0 (h.below B0) hi)
  have p0 := (h.below B0).p
  have HC0 := Lib.hid C0
  have HX0 := Lib.hid X0
  have HK0 := Lib.hid (KQ.of_below (q := cu) (r := r) B0)
  have HR := Lib.hid hR
  have HN := Lib.hid hne
  have RD' := Lib.hid RD
  have HW0 := Lib.hid hw0
  have HD := Lib.hid hd
  clear h hc hR hne RD hd hw0 B0 X0 C0
  go_enter Tryz.func178, Tryz.ntmps178
  go_upto_region 1 with fail
  rw [← HW0.out]
  go_wp2_with fail
  refine PA.out.mono ?_; rintro e w1 ⟨rfl, h1, k1⟩
  have C1 := HC0.out.on k1
  have SG := Lib.hid (rsign_any C1 h1 ⟨#[40]⟩)
  have HC1 := Lib.hid C1
  have HX1 : Hid (Bx w.heap.size w1) := Lib.hid ((k1.blk hl0 hne0).trans HX0.out)
  have HK1 := Lib.hid (HK0.out.trans k1)
  have hl1 := Nat.lt_of_lt_of_le hl0 k1.size
  have p1 := h1.p
  clear h1 k1 C1 PA HC0 HX0 HK0
  go_wp2_with fail
  refine SG.out.mono ?_; rintro e w2 ⟨rfl, h2, k2⟩
  have p2 := h2.p
  have C2 := HC1.out.on k2
  have HX2 : Hid (Bx w.heap.size w2) := Lib.hid ((k2.blk hl1 hne0).trans HX1.out)
  have HK2 := Lib.hid (HK1.out.trans k2)
  have HC2 := Lib.hid C2
  have hl2 := Nat.lt_of_lt_of_le hl1 k2.size
  have hd := HD.out
  have TY := RD'.out d' 1 _ _ _ w2 C2 h2 hc5 hd5 (by omega) (by
    intro hb j q
    rw [readR_one, hd] at q
    apply HN.out j
    rw [HR.out]
    have e : S.sign (i + 1) [40] = true := by
      cases hq : S.sign (i + 1) [40] with
      | true => rfl
      | false =>
        have hq' : S.sign (i + 1) (⟨#[40]⟩ : ByteArray).data.toList = false := hq
        rw [hq'] at hb; cases hb
    have e' : S.sign (i + 1) (⟨#[40]⟩ : ByteArray).data.toList = true := e
    rw [e'] at q
    have q' : pT S f (d + 1) (i + 2) (c + 1) = .err 99 j := q
    unfold listR
    rw [if_neg (by rw [e]; decide), q'])
  rw [readR_one] at TY
  have TY1 : Calls Tryz.prog 161 #[.pointer (some ⟨r, 0, none⟩), .int .i64 d', .int .i64 1] w2 _ := TY
  have HTY := Lib.hid TY1
  clear TY TY1 hd C2 h2 k2 SG HX1 HK1 HC1 RD'
  go_wp2_with fail
  refine HTY.out.mono ?_; rintro e w7 ⟨l, t, i2, c2, b2, rfl, hT7, hK7, R7, hc2, hres⟩
  obtain ⟨An, cA, As, cS, rfl, -⟩ := hT7.parts
  obtain ⟨w8, hw8⟩ : ∃ w8, w8 = w7.alloc (.cells #[.int .i64 t.kind, .string t.pkg, .int .i64 t.major, .string t.mod, .string t.name, .slice An t.names.length cA, .slice As t.subs.length cS] 42) := ⟨_, rfl⟩
  have hr7 := R7.lt
  have hq7 := R7.qlt
  have hs7 := hK7.size
  have B8 : Below w7.heap.size w7 w8 := by rw [hw8]; exact below_new (Below.refl _ _) _
  have R8 := R7.below B8
  have p8 := R8.p
  have s8 : w8.heap.size = w7.heap.size + 1 := by rw [hw8]; simp
  have O8 : w8.heap[w7.heap.size]? = some (.cells #[.int .i64 t.kind, .string t.pkg, .int .i64 t.major, .string t.mod, .string t.name, .slice An t.names.length cA, .slice As t.subs.length cS] 42 (0, 0)) := by rw [hw8]; exact heap_alloc_new w7 _
  have C8 : RCtx W cu r A S w8 := (HC2.out.on hK7).on (KQ.of_below B8)
  have X8 : Bx w.heap.size w8 := (B8.block _ (by omega)).trans ((hK7.blk (by omega) (by omega)).trans HX2.out)
  have PS := Lib.hid (rsign_any C8 R8 ⟨#[41]⟩)
  have K8 := Lib.hid ((HK2.out.trans hK7).trans (KQ.of_below B8))
  have T8 : Hid (TyAt (strike (· < w.heap.size + 1) w8) [.int .i64 t.kind, .string t.pkg, .int .i64 t.major, .string t.mod, .string t.name, .slice An t.names.length cA, .slice As t.subs.length cS] t) := Lib.hid (hT7.move (by omega) fun b hb hS => ⟨by omega, B8.block b hb⟩)
  have HW8 := Lib.hid hw8
  have HO8 := Lib.hid O8
  have HX8 := Lib.hid X8
  have S8 := Lib.hid s8
  have hb8 : w7.heap.size < w8.heap.size := by omega
  have hb8' : w.heap.size < w8.heap.size := by omega
  have hrs : r < w7.heap.size := hr7
  have hws : w.heap.size < w7.heap.size := by omega
  clear hT7 hK7 R7 B8 hw8 O8 X8 C8 R8 HTY s8 HX2 HK2 HC2 hs7 hr7
  go_upto_region 4 with fail
  rw [← HW8.out]
  go_wp2_with fail
  refine PS.out.mono ?_; rintro e w9 ⟨rfl, R9, k9⟩
  have s9 := k9.size
  have O9 : w9.heap[w7.heap.size]? = some (.cells #[.int .i64 t.kind, .string t.pkg, .int .i64 t.major, .string t.mod, .string t.name, .slice An t.names.length cA, .slice As t.subs.length cS] 42 (0, 0)) := (k9.blk (by omega) (by omega)).trans HO8.out
  have X9 : Bx w.heap.size w9 := (k9.blk (by omega) (by omega)).trans HX8.out
  have x0 := Lib.cell_of_heap O9 0
  have x1 := Lib.cell_of_heap O9 1
  have x2 := Lib.cell_of_heap O9 2
  have x3 := Lib.cell_of_heap O9 3
  have x4 := Lib.cell_of_heap O9 4
  have x5 := Lib.cell_of_heap O9 5
  have x6 := Lib.cell_of_heap O9 6
  simp at x0 x1 x2 x3 x4 x5 x6
  obtain ⟨w10, hw10⟩ : ∃ w10, w10 = w9.alloc (.cells #[.int .i64 t.kind, .string t.pkg, .int .i64 t.major, .string t.mod, .string t.name, .slice An t.names.length cA, .slice As t.subs.length cS] 42) := ⟨_, rfl⟩
  have B10 : Below w9.heap.size w9 w10 := by rw [hw10]; exact below_new (Below.refl _ _) _
  have s10 : w10.heap.size = w9.heap.size + 1 := by rw [hw10]; simp
  have X10 : Bx w.heap.size w10 := (B10.block _ (by omega)).trans X9
  have G10 : w10.heap[w9.heap.size]? = some (.cells #[.int .i64 t.kind, .string t.pkg, .int .i64 t.major, .string t.mod, .string t.name, .slice An t.names.length cA, .slice As t.subs.length cS] 42 (0, 0)) := by rw [hw10]; exact heap_alloc_new w9 _
  have hr9 := R9.lt
  have T10 : TyAt (strike (· < w.heap.size + 1) w10) [.int .i64 t.kind, .string t.pkg, .int .i64 t.major, .string t.mod, .string t.name, .slice An t.names.length cA, .slice As t.subs.length cS] t := T8.out.move (by omega) fun b hb hS => ⟨hS, (B10.block b (by omega)).trans (k9.blk (by omega) (by omega))⟩
  have SEAL := Lib.hid (COut.seal (R := R) (Nat.le_refl _) X10 ((K8.out.trans k9).trans (KQ.of_below B10)) (TyAt.one 4 rfl T10 G10 (by omega)) (Nat.lt_succ_self _) hr (R9.below B10) hc2 ((list_res (HD.out ▸ hres.symm)).symm.trans HR.out.symm))
  have HW10 := Lib.hid hw10
  clear PS O9 k9 R9 hw10 B10 G10 T10 T8 HO8 HW8 hres s10
  unfold Bx at X10
  rw [HW10.out] at X10
  go_wp2_with (first | ((with_reducible refine wpList_putRow 42 (w.heap.size) #[.int .i64 4, .string ⟨#[]⟩, .int .i64 0, .string ⟨#[]⟩, .string ⟨#[]⟩, .slice none 0 0, .slice (some ⟨w9.heap.size, 0, none⟩) 1 1] _ _ X10 ?_ ?_ ?_ ?_ ?_ ?_); exact tySize; rfl; exact tyOne; (focus (first | (go_simp; done) | rfl)); (focus (first | (go_simp; done) | rfl))))
  rw [← HW10.out]
  exact ret_agg1 (fn := Tryz.f178) (vs := [.int .i64 4, .string ⟨#[]⟩, .int .i64 0, .string ⟨#[]⟩, .string ⟨#[]⟩, .slice none 0 0, .slice (some ⟨w9.heap.size, 0, none⟩) 1 1]) (b := w.heap.size) rfl rfl Tryz.underlying42 (by kernel_rfl) SEAL.out.1 rfl SEAL.out.2

end Go.Proofs.YtpfoclpgcbjjoaaGreatDoor

/- Plain: what a token begins, and what is read then. -/
namespace Go.Proofs.YtpfoclpgcbjjoaaGreatDoor
open Go.RowKit
open Go.Sort
open M

theorem great_base {l : List UInt8} (h : greatB l = true) : baseT l = 0 := by
  unfold baseT
  split
  · rename_i e; subst e; exact absurd h (by decide)
  split
  · rename_i e; subst e; exact absurd h (by decide)
  split
  · rename_i e; subst e; exact absurd h (by decide)
  split
  · rename_i e; subst e; exact absurd h (by decide)
  rfl
theorem baseT_range (l : List UInt8) : baseT l = 0 ∨ baseT l = 1 ∨ baseT l = 2 ∨ baseT l = 3 ∨ baseT l = 4 := by
  unfold baseT
  repeat' split
  all_goals simp
theorem signK_range (l : List UInt8) : signK l = 0 ∨ signK l = 5 ∨ signK l = 6 ∨ signK l = 7 ∨ signK l = 9 := by
  unfold signK
  repeat' split
  all_goals simp

/-- What is read of a type, by the kind that its first token tells. -/
def kindR (S : Toks) (f d i c : Nat) (k : Int) : Res Ty :=
  if k = 4 then listR S f d i c
  else if k = 5 then partsR S 5 [125] f d (i + 1) (c + 1)
  else if k = 6 then partsR S 6 [93] f d (i + 1) (c + 1)
  else if k = 7 then fnR S f d (i + 1) (c + 1)
  else if k = 8 then (if S.small i = true then pLocal S (S.T i) (i + 1) (c + 1) else if S.great i = false then .err 2 i else .ok (localT ⟨#[]⟩ (S.T i)) (i + 1) (c + 1))
  else if k = 9 then pOpen S (i + 1) (c + 1)
  else .ok (leafK k) (i + 1) (c + 1)

theorem begins_iff (S : Toks) {i : Nat} (hi : i < S.n) : S.begins i = decide (begunK (S.K i) (S.T i) ≠ 0) := by
  have hs : S.small i = smallK (S.K i) (S.T i) := by rw [← small_k]; simp [hi]
  have hg : S.great i = greatK (S.K i) (S.T i) := by rw [← great_k]; simp [hi]
  unfold Toks.begins begunK
  rw [hs, hg]
  by_cases h : smallK (S.K i) (S.T i) = true ∨ greatK (S.K i) (S.T i) = true
  · rw [if_pos h]
    rcases h with h | h <;> simp [h, hi]
  · rw [if_neg h]
    have h1 : smallK (S.K i) (S.T i) = false := by cases e : smallK (S.K i) (S.T i) with | true => exact absurd (.inl e) h | false => rfl
    have h2 : greatK (S.K i) (S.T i) = false := by cases e : greatK (S.K i) (S.T i) with | true => exact absurd (.inr e) h | false => rfl
    rw [h1, h2]
    by_cases k2 : S.K i = 2
    · rw [if_pos k2]
      rcases baseT_range (S.T i).data.toList with e | e | e | e | e <;> simp [hi, k2, e]
    · rw [if_neg k2]
      by_cases k4 : S.K i = 4
      · rw [if_pos k4]
        unfold signK
        repeat' split
        all_goals simp_all
      · rw [if_neg k4]
        simp [k2, k4]

theorem rest_kind (S : Toks) {f d i c : Nat} (hi : i < S.n) (hb : S.begins i = true) : restR S f d i c = kindR S f d i c (begunK (S.K i) (S.T i)) := by
  have hs : S.small i = smallK (S.K i) (S.T i) := by rw [← small_k]; simp [hi]
  have hg : S.great i = greatK (S.K i) (S.T i) := by rw [← great_k]; simp [hi]
  rw [begins_iff S hi] at hb
  unfold restR
  by_cases h1 : smallK (S.K i) (S.T i) = true
  · have e : begunK (S.K i) (S.T i) = 8 := if_pos (.inl h1)
    have k1 : S.K i = 1 := by unfold smallK at h1; simp at h1; exact h1.1
    rw [e, if_pos k1]
    unfold kindR
    rw [hs, h1]
    rfl
  by_cases h2 : greatK (S.K i) (S.T i) = true
  · have e : begunK (S.K i) (S.T i) = 8 := if_pos (.inr h2)
    have k2 : S.K i = 2 ∧ greatB (S.T i).data.toList = true := by unfold greatK at h2; simpa using h2
    have hz := great_base k2.2
    rw [e, if_neg (by rw [k2.1]; decide), if_pos k2.1, hz]
    unfold kindR
    rw [hs, hg, h2, show smallK (S.K i) (S.T i) = false by simpa using h1]
    rfl
  have e : begunK (S.K i) (S.T i) = if S.K i = 2 then baseT (S.T i).data.toList else if S.K i = 4 then signK (S.T i).data.toList else 0 := if_neg (fun x => x.elim h1 h2)
  rw [e] at hb ⊢
  by_cases k2 : S.K i = 2
  · rw [if_pos k2] at hb ⊢
    rw [if_neg (by rw [k2]; decide), if_pos k2]
    rcases baseT_range (S.T i).data.toList with q | q | q | q | q
    · rw [q] at hb; simp at hb
    all_goals rw [q]; rfl
  · rw [if_neg k2] at hb ⊢
    by_cases k4 : S.K i = 4
    · rw [if_pos k4] at hb ⊢
      rw [if_neg (by rw [k4]; decide), if_neg k2]
      by_cases a1 : (S.T i).data.toList = [123]
      · rw [if_pos a1, a1]; rfl
      rw [if_neg a1]
      by_cases a2 : (S.T i).data.toList = [91]
      · rw [if_pos a2, a2]; rfl
      rw [if_neg a2]
      by_cases a3 : (S.T i).data.toList = [60]
      · rw [if_pos a3, a3]; rfl
      rw [if_neg a3]
      by_cases a4 : (S.T i).data.toList = [40]
      · rw [a4]; rfl
      · have : signK (S.T i).data.toList = 0 := by unfold signK; rw [if_neg a1, if_neg a2, if_neg a4, if_neg a3]
        rw [this] at hb; simp at hb
    · rw [if_neg k4] at hb; simp at hb

end Go.Proofs.YtpfoclpgcbjjoaaGreatDoor

/- A region that draws its order and only reads, but for its last operation, a call for which all others are waited: one walk of the text's order serves every order. Nothing of any program. -/
namespace Go.Proofs.YtpfoclpgcbjjoaaGreatDoor
open Go Go.Sort Go.RowKit

/-- Each operation but the last is waited for by a later one. -/
def feeds (ops : Array Oper) : Bool := (List.range (ops.size - 1)).all fun i => (List.range ops.size).any fun j => decide (i < j) && ((ops[j]?).map fun o => o.after.any fun e => Region.binds .any e && (e.on == i)).getD false
/-- None waits for a later one. -/
def backward (ops : Array Oper) : Bool := (List.range ops.size).all fun i => ((ops[i]?).map fun o => o.after.all fun e => !Region.binds .any e || decide (e.on < i)).getD true
/-- What has come up has come up behind what it waits for. -/
def Closed (ops : Array Oper) (listed : Array Bool) : Prop := ∀ i o, ops[i]? = some o → listed.getD i false = true → ∀ e ∈ o.after, Region.binds .any e = true → listed.getD e.on false = true

section
variable {P : Program} {ops ops' : Array Oper} {C : World → Prop}

theorem Closed.step {listed : Array Bool} {i : Nat} (h : Closed ops listed) (hi : i ∈ Region.ready .any ops listed) : Closed ops (listed.setIfInBounds i true) := by
  obtain ⟨-, o, ho, hall⟩ := mem_ready.1 hi
  intro j oj hj hl e he hb
  by_cases hij : i = j
  · subst hij
    rw [ho] at hj; obtain rfl := Option.some.inj hj
    exact getD_set_true (hall e he hb)
  · rw [getD_set_ne false hij] at hl
    exact getD_set_true (h j oj hj hl e he hb)

theorem inBounds {listed : Array Bool} {i : Nat} (h : i < listed.size) (b : Bool) : listed.getD i b = listed.getD i false := by
  simp [h]

theorem ready_some {listed : Array Bool} (hsz : listed.size = ops.size) (hb : backward ops = true) : ∀ (m i : Nat), i < m → i < ops.size → listed.getD i false = false → ∃ j, j ∈ Region.ready .any ops listed
  | 0, i, hm, _, _ => by omega
  | m + 1, i, hm, hi, hu => by
    obtain ⟨o, ho⟩ : ∃ o, ops[i]? = some o := ⟨_, Array.getElem?_eq_getElem hi⟩
    by_cases hall : ∀ e ∈ o.after, Region.binds .any e = true → listed.getD e.on false = true
    · exact ⟨i, mem_ready.2 ⟨by rw [inBounds (by omega)]; exact hu, o, ho, hall⟩⟩
    · simp only [Classical.not_forall] at hall
      obtain ⟨e, he, hbe, hne⟩ := hall
      have h1 := (List.all_eq_true.1 hb) i (List.mem_range.2 hi)
      rw [ho] at h1
      simp only [Option.map_some, Option.getD_some] at h1
      have h2 := (Array.all_eq_true_iff_forall_mem.1 h1) e he
      rw [hbe] at h2
      simp only [Bool.not_true, Bool.false_or, decide_eq_true_eq] at h2
      exact ready_some hsz hb m e.on (by omega) (by omega) (by simpa using hne)

theorem last_ready {listed : Array Bool} {s : Nat} (hs : s + 1 = ops.size) (hf : feeds ops = true) (hc : Closed ops listed) (hr : s ∈ Region.ready .any ops listed) : ∀ (m i : Nat), s - i < m → i < s → listed.getD i false = true
  | 0, i, hm, _ => by omega
  | m + 1, i, hm, hi => by
    have h1 := (List.all_eq_true.1 hf) i (List.mem_range.2 (by omega))
    obtain ⟨j, hj, h2⟩ := List.any_eq_true.1 h1
    simp only [Bool.and_eq_true, decide_eq_true_eq] at h2
    have hjs := List.mem_range.1 hj
    obtain ⟨o, ho⟩ : ∃ o, ops[j]? = some o := ⟨_, Array.getElem?_eq_getElem hjs⟩
    obtain ⟨hij, h3⟩ := h2
    rw [ho] at h3
    simp only [Option.map_some, Option.getD_some] at h3
    obtain ⟨e, he, h4⟩ := Array.any_eq_true'.1 h3
    simp only [Bool.and_eq_true, beq_iff_eq] at h4
    obtain ⟨hb, rfl⟩ := h4
    by_cases hjs' : j = s
    · subst hjs'
      obtain ⟨-, o', ho', hall⟩ := mem_ready.1 hr
      rw [ho] at ho'; obtain rfl := Option.some.inj ho'
      exact hall e he hb
    · exact hc j o ho (last_ready hs hf hc hr m j (by omega) (by omega)) e he hb

theorem put_put (a : Act) (d : Option Tmp) (u v : Value) : (a.put d u).put d v = a.put d v := by
  cases d with
  | none => rfl
  | some d => simp [Act.put]

/-- What is asked of the last operation, in the frame that the others have left. -/
def LastAt (P : Program) (o : Oper) (Q : Exit → Act → World → Prop) (a : Act) (w : World) : Prop :=
  ∃ f args, (execOp a.eval o).run P w = .ok (.enter f args) w ∧ Calls P f args w (fun e w'' => ∃ v, e = .returned v ∧ Q .normal (a.put o.dst v) w'')

theorem wpAny_of_last {s : Nat} {o o' : Oper} (hsz : ops'.size = ops.size) (hs : s + 1 = ops.size) (heq : ∀ i, i ≠ s → ops'[i]? = ops[i]?) (ho : ops[s]? = some o) (ho' : ops'[s]? = some o')
    (haf : o'.after = o.after) (hdst : o'.dst = o.dst) (hg : o.guard = none) (hg' : o'.guard = none) (hlook : ∀ d, o.dst = some d → d ∉ o.looksAt ops) (hsel : ∀ cs b, o.op ≠ .select cs b)
    (hf : feeds ops = true) (hb : backward ops = true) {Q : Exit → Act → World → Prop} :
    ∀ (fuel : Nat) (listed : Array Bool) (a : Act) (w : World), listed.size = ops.size → Closed ops listed → listed.getD s false = false → C w →
      wpAnyQ P .any ops' C (fun a' => ∀ w', C w' → LastAt P o Q a' w') fuel listed a → wpAny P .any ops Q fuel listed a w := by
  have hy : ∀ t, yielded ops' t = yielded ops t := by
    intro t; funext j
    unfold yielded
    by_cases hj : j = s
    · subst hj; rw [ho, ho']; simp [hdst]
    · rw [heq j hj]
  have hready : ∀ listed, Region.ready .any ops' listed = Region.ready .any ops listed := by
    intro listed
    unfold Region.ready
    rw [hsz]
    congr 1; funext i
    by_cases hi : i = s
    · subst hi; rw [ho, ho']; simp [haf]
    · rw [heq i hi]
  intro fuel
  induction fuel with
  | zero =>
    intro listed a w hl hc hu hw h
    obtain ⟨j, hj⟩ := ready_some hl hb (s + 1) s (by omega) (by omega) hu
    rw [← hready, h.1] at hj; cases hj
  | succ fuel ih =>
    intro listed a w hl hc hu hw h
    obtain ⟨j, hj⟩ := ready_some hl hb (s + 1) s (by omega) (by omega) hu
    refine ⟨fun h0 => absurd hj (by rw [h0]; exact List.not_mem_nil), fun i hi => ?_⟩
    have hq := h.2 i (by rw [hready]; exact hi)
    by_cases his : i = s
    · subst his
      have hall := last_ready hs hf hc hi
      have hnone : Region.ready .any ops (listed.setIfInBounds i true) = [] := by
        rw [List.eq_nil_iff_forall_not_mem]
        intro k hk
        obtain ⟨h1, ok, hok, -⟩ := mem_ready.1 hk
        have hks := (Array.getElem?_eq_some_iff.1 hok).1
        by_cases hki : k = i
        · subst hki
          simp [hl, hks] at h1
        · rw [getD_set_ne true (Ne.symm hki), inBounds (by omega), hall (i + 1) k (by omega) (by omega)] at h1
          cases h1
      unfold qOp at hq
      simp only [ho', Region.wanted, hg', if_true] at hq
      obtain ⟨u, -, hn⟩ := hq
      have hQ : ∀ w', C w' → LastAt P o Q (a.put o'.dst u) w' := by
        cases fuel with
        | zero => exact hn.2
        | succ fuel => exact hn.1 (by rw [hready]; exact hnone)
      obtain ⟨f, args, hrun, hcall⟩ := hQ w hw
      rw [hdst, execOp_put (ops := ops) o hsel a o.dst u hlook] at hrun
      unfold wpOp
      simp only [ho, Region.wanted, hg, if_true]
      refine .inl ?_
      unfold Oper.wp
      rw [hrun]
      simp only [Oper.upon]
      refine hcall.mono ?_
      rintro e w'' ⟨v, rfl, hv⟩
      rw [hdst, put_put] at hv
      cases fuel with
      | zero => exact ⟨hnone, hv⟩
      | succ fuel => exact ⟨fun _ => hv, fun k hk => by rw [hnone] at hk; cases hk⟩
    · have h1 := wpOp_of_qOp (K' := wpAny P .any ops Q fuel (listed.setIfInBounds i true)) (Q' := Q) hw (fun a' w' hw' hh => ih _ a' w' (by simp [hl]) (hc.step hi) (by rw [getD_set_ne false his]; exact hu) hw' hh) hq
      unfold wpOp at h1 ⊢
      rw [heq i his, hy] at h1
      exact h1

/-- The region with its last operation made a plain move. -/
def tameLast (l : List Oper) (o : Oper) : List Oper := l.dropLast ++ [{ o with op := .move (.const undef) }]
theorem wp_region_last {id : Nat} {Q : Exit → Act → World → Prop} {a : Act} {w : World} {l : List Oper} {o : Oper} (hm : P.follows .mixedOrders = true) (hlast : l.getLast? = some o)
    (hg : o.guard = none) (hlook : (match o.dst with | some d => !(o.looksAt l.toArray).contains d | none => true) = true) (hsel : ∀ cs b, o.op ≠ .select cs b)
    (hB : Region.lexB .any (tameLast l o).toArray = true) (hf : feeds l.toArray = true) (hb : backward l.toArray = true) (hC : C { w with drawn := w.drawn + 1 })
    (h : wpQuiet P (tameLast l o).toArray C (fun a' => ∀ w', C w' → LastAt P o Q a' w') (tameLast l o) a) : (Code.region id l.toArray true).wp P Q a w := by
  obtain ⟨l0, hl0⟩ : ∃ l0, l = l0 ++ [o] := by
    rcases List.eq_nil_or_concat l with rfl | ⟨l0, x, rfl⟩
    · simp at hlast
    · simp at hlast; subst hlast; exact ⟨l0, by simp⟩
  have ht : tameLast l o = l0 ++ [{ o with op := .move (.const undef) }] := by unfold tameLast; rw [hl0]; simp
  rw [ht] at h hB
  simp only [Region.lexB, Bool.and_eq_true] at hB
  have hq := wpAnyQ_lex (C := C) (md := .any) (P := P) hB.1 _ 0 (Array.replicate (l0 ++ [{ o with op := .move (.const undef) }]).toArray.size false) a (by simp) (by simpa using hB.2) h
  refine wp_region_any hm (wpAny_of_last (ops' := (l0 ++ [{ o with op := .move (.const undef) }]).toArray) (s := l0.length) (o := o) (o' := { o with op := .move (.const undef) }) (C := C) ?_ ?_ ?_ ?_ ?_ rfl rfl hg hg ?_ hsel hf hb _ _ _ _ ?_ ?_ ?_ hC ?_)
  · rw [hl0]; simp
  · rw [hl0]; simp
  · intro i hi
    rw [hl0]
    simp only [List.getElem?_toArray]
    rcases Nat.lt_or_ge i l0.length with h1 | h1
    · rw [List.getElem?_append_left h1, List.getElem?_append_left h1]
    · rw [List.getElem?_eq_none (by simp; omega), List.getElem?_eq_none (by simp; omega)]
  · rw [hl0]; simp
  · simp
  · intro d hd
    rw [hd] at hlook
    simpa using hlook
  · simp
  · intro i oi _ hl
    exfalso
    rcases Nat.lt_or_ge i l.toArray.size with hi | hi
    · simp at hi; simp [hi] at hl
    · simp at hi; simp [Nat.not_lt.2 hi] at hl
  · have : l0.length < l.length := by rw [hl0]; simp
    simp [this]
  · have e : l.toArray.size = (l0 ++ [{ o with op := .move (.const undef) }]).length := by rw [hl0]; simp
    have e2 : (l0 ++ [{ o with op := Op.move (.const undef) }]).toArray.size = l.toArray.size := by rw [e]; simp
    rw [e2] at hq
    rw [e, ← e]
    rw [← e] at hq
    exact hq
end
end Go.Proofs.YtpfoclpgcbjjoaaGreatDoor
