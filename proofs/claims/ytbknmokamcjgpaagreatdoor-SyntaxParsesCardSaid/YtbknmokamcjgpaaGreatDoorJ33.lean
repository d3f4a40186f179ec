/-
  Several texts in one: The reference's reader of modules: what it asks of a token, and takes. · The reference's Major, of modules.
-/
import Derived.Test.YtbknmokamcjgpaaGreatDoorJ32
import Derived.Test.YtbknmokamcjgpaaGreatDoorJ02
import Derived.LoopTactic
import Derived.Test.YtbknmokamcjgpaaGreatDoorJ07
/- The reference's reader of modules: what it asks of a token, and takes. -/
namespace Go.Proofs.YtbknmokamcjgpaaGreatDoor
open Go.RowKit
open Go.Sort
open M

/-- The reader at block r: at which token, what is amiss. -/
def Rm (r : Nat) (A : Option Addr) (n cn : Nat) (i b : Nat) (w : World) : Prop := w.heap[r]? = some (.cells #[.slice A n cn, .int .i64 i, .int .i64 b] 106 (0, 0))
theorem Rm.lt {r : Nat} {A : Option Addr} {n cn i b : Nat} {w : World} (h : Rm r A n cn i b w) : r < w.heap.size := (Array.getElem?_eq_some_iff.1 h).1
theorem Rm.on {r : Nat} {A : Option Addr} {n cn i b : Nat} {w w' : World} (h : Rm r A n cn i b w) (hb : Below w.heap.size w w') : Rm r A n cn i b w' := (hb.block r h.lt).trans h
theorem Rm.c0 {r : Nat} {A : Option Addr} {n cn i b : Nat} {w : World} (h : Rm r A n cn i b w) : w.cell? ⟨r, 0, none⟩ = some (.slice A n cn) := Lib.cell_of_heap h 0
theorem Rm.c1 {r : Nat} {A : Option Addr} {n cn i b : Nat} {w : World} (h : Rm r A n cn i b w) : w.cell? ⟨r, 1, none⟩ = some (.int .i64 i) := Lib.cell_of_heap h 1
theorem Rm.c2 {r : Nat} {A : Option Addr} {n cn i b : Nat} {w : World} (h : Rm r A n cn i b w) : w.cell? ⟨r, 2, none⟩ = some (.int .i64 b) := Lib.cell_of_heap h 2
theorem Rm.f {r : Nat} {A : Option Addr} {n cn i b : Nat} {w : World} (h : Rm r A n cn i b w) (j : Nat) : w.frozen? ⟨r, j, none⟩ = false := Lib.frozen_of_heap h j
theorem Rm.at {r : Nat} {A : Option Addr} {n cn i b : Nat} {w : World} (h : Rm r A n cn i b w) (j : Nat) : Rm r A n cn j b (w.setCell ⟨r, 1, none⟩ (.int .i64 j)) := by
  have := Joins.block_setCell (i := 1) h (.int .i64 j); unfold Rm; simpa using this
theorem Rm.bad {r : Nat} {A : Option Addr} {n cn i b : Nat} {w : World} (h : Rm r A n cn i b w) (j : Nat) : Rm r A n cn i j (w.setCell ⟨r, 2, none⟩ (.int .i64 j)) := by
  have := Joins.block_setCell (i := 2) h (.int .i64 j); unfold Rm; simpa using this

/-- What Word asks. -/
def okW (S : Toks) (i : Nat) (kd : Int) (q : ByteArray → Bool) : Bool := decide (i < S.n) && ((S.K i == kd) && q (S.T i))
/-- What Word leaves. -/
def RwOut (w : World) (r : Nat) (A : Option Addr) (S : Toks) (cn i b : Nat) (ok : Bool) (e : Ending) (w' : World) : Prop :=
  ∃ s i' b', e = .returned (.string s) ∧ s.size ≤ 9223372036854775807 ∧ Rm r A S.n cn i' b' w' ∧ Kp r w w' ∧ NameOut S ok i b s i' b'

set_option maxRecDepth 100000 in
set_option maxHeartbeats 4000000 in
theorem rwK_any {W : World} {r : Nat} {A : Option Addr} {S : Toks} {cn i b : Nat} {w : World} (hc : RdCtx W r A S w) (h : Rm r A S.n cn i b w) (kd : Int) (t : ByteArray) :
    Calls Tryz.prog 51 #[.pointer (some ⟨r, 0, none⟩), .int .i64 kd, .int .i64 0, .string t] w (RwOut w r A S cn i b (okW S i kd (fun s => (s.data.toList == t.data.toList)))) := by
  have hbig := hc.big
  have c0 := h.c0
  have c1 := h.c1
  have c2 := h.c2
  have HR := Lib.hid h
  by_cases hb : b = 0
  rotate_left
  · have b1 : (((b : Nat) : Int) == 0) = false := by simp; omega
    have b2 : (((b : Nat) : Int) != 0) = true := by simp; omega
    have OUT : Hid (RwOut w r A S cn i b (okW S i kd (fun s => (s.data.toList == t.data.toList))) (.returned (.string ⟨#[]⟩)) w) := Lib.hid ⟨⟨#[]⟩, i, b, rfl, by decide, h, Kp.refl _ _, .inr (.inr ⟨hb, rfl, rfl⟩)⟩
    clear hb hc h
    as_aux_lemma =>
    go_enter Tryz.func51, Tryz.ntmps51
    go_wp2_with fail
    go_ret
    exact OUT.out
  subst hb
  simp at c2
  have f2 := h.f 2
  have NO : okW S i kd (fun s => (s.data.toList == t.data.toList)) = false → Hid (∀ w1, Below w.heap.size w w1 → RwOut w r A S cn i 0 (okW S i kd (fun s => (s.data.toList == t.data.toList))) (.returned (.string ⟨#[]⟩)) (w1.setCell ⟨r, 2, none⟩ (.int .i64 2))) := fun e => Lib.hid (fun w1 hb =>
    ⟨⟨#[]⟩, i, 2, rfl, by decide, (h.on hb).bad 2, ((Kp.of_below hb)).put 2 _, .inr (.inl ⟨rfl, e, rfl, rfl⟩)⟩)
  by_cases hlt : i < S.n
  rotate_left
  · have R := NO (by unfold okW; simp [hlt])
    have hle : S.n ≤ i := by omega
    clear NO hc h
    as_aux_lemma =>
    go_enter Tryz.func51, Tryz.ntmps51
    go_wp2_with fail
    go_quiet (fail)
    go_wp2_with fail
    go_ret
    exact R.out _ (below_drewN (Below.refl _ _) _)
  obtain ⟨g, o, y, rfl, hg, k0w, k1w, k2w, hz⟩ := hc.toks i hlt
  have hgr : g < r := Nat.lt_of_lt_of_le hg hc.le
  have hrw := h.lt
  have k0 : w.cell? ⟨g, o + i * 3, none⟩ = some (.int .i64 (S.K i)) := (hc.below.cell (p := ⟨g, _, none⟩) hg).trans k0w
  have k2 : w.cell? ⟨g, o + i * 3 + 2, none⟩ = some (.string (S.T i)) := (hc.below.cell (p := ⟨g, _, none⟩) hg).trans k2w
  clear k0w k1w k2w
  rcases hid_or (S.K i == kd) with hk | hk
  · have R := NO (by unfold okW; rw [hk.out]; simp)
    have hk1 := hk.out
    clear NO hc h
    as_aux_lemma =>
    go_enter Tryz.func51, Tryz.ntmps51
    go_wp2_with fail
    go_quiet (fail)
    go_wp2_with fail
    go_ret
    exact R.out _ (below_drewN (Below.refl _ _) _)
  have hk1 := hk.out
  have SM := Lib.hid (fun w => refSmall_any (S.T i) w hz)
  have GT := Lib.hid (fun w => refGreat_any (S.T i) w hz)
  have HK2 := Lib.hid k2
  have HQ : ∀ v, ((S.T i).data.toList == t.data.toList) = v → Hid (((S.T i).toList == t.toList) = v) := fun v e => Lib.hid (by rw [Lib.toList_data, Lib.toList_data]; exact e)
  have OKV : Hid (∀ v, ((S.T i).data.toList == t.data.toList) = v → okW S i kd (fun s => (s.data.toList == t.data.toList)) = v) := Lib.hid (fun v e => by unfold okW; rw [hk1, decide_eq_true hlt]; simp only [Bool.true_and]; exact e)
  clear hc h
  rcases hid_or (((S.T i).data.toList == t.data.toList)) with hq | hq
  · have hq1 := (HQ _ hq.out).out
    have R := NO (OKV.out _ hq.out)
    clear NO HQ OKV
    as_aux_lemma =>
    go_enter Tryz.func51, Tryz.ntmps51
    go_wp2_with fail
    go_quiet (fail)
    generalize nq = n0
    go_wp2_with fail
    go_quiet (fail)
    go_wp2_with fail
    obtain ⟨w1, hw1⟩ : ∃ w1, w1 = w.drewN (n0 + nq) := ⟨_, rfl⟩
    rw [← hw1]
    have hb1 : Below w.heap.size w w1 := by rw [hw1]; exact below_drewN (Below.refl _ _) _
    clear hw1 c0 c1 c2 k0 k2 f2
    refine (SM.out w1).mono ?_; rintro e w2 ⟨rfl, hb2⟩
    go_wp2_with fail
    refine (GT.out w2).mono ?_; rintro e w3 ⟨rfl, rfl⟩
    have B3 := below_over hb1 hb2
    have OUT := Lib.hid (R.out _ B3)
    have H3 := HR.out.on B3
    have f2 := H3.f 2
    have c2 := H3.c2
    simp at c2
    clear hb1 hb2 B3 H3
    go_wp2_with fail
    go_ret
    exact OUT.out
  · have hq1 := (HQ _ hq.out).out
    have OK := Lib.hid (OKV.out _ hq.out)
    clear NO HQ OKV
    go_enter Tryz.func51, Tryz.ntmps51
    go_wp2_with fail
    go_quiet (fail)
    generalize nq = n0
    go_wp2_with fail
    go_quiet (fail)
    go_wp2_with fail
    obtain ⟨w1, hw1⟩ : ∃ w1, w1 = w.drewN (n0 + nq) := ⟨_, rfl⟩
    rw [← hw1]
    have hb1 : Below w.heap.size w w1 := by rw [hw1]; exact below_drewN (Below.refl _ _) _
    clear hw1 c0 c1 c2 k0 k2 f2
    refine (SM.out w1).mono ?_; rintro e w2 ⟨rfl, hb2⟩
    go_wp2_with fail
    refine (GT.out w2).mono ?_; rintro e w3 ⟨rfl, rfl⟩
    have B3 := below_over hb1 hb2
    have H3 := HR.out.on B3
    obtain ⟨w4, hw4⟩ : ∃ w4, w4 = w2.setCell ⟨r, 1, none⟩ (.int .i64 ((i : Int) + 1)) := ⟨_, rfl⟩
    have H4 : Rm r (some ⟨g, o, none⟩) S.n cn (i + 1) 0 w4 := by rw [hw4]; have := H3.at (i + 1); simpa using this
    have K4 : Kp r w w4 := by rw [hw4]; exact (Kp.of_below B3).put 1 _
    have q2 : w4.cell? ⟨g, o + i * 3 + 2, none⟩ = some (.string (S.T i)) := by
      have hgw : g < w.heap.size := Nat.lt_trans hgr hrw
      rw [hw4, World.cell?_setCell_other _ _ _ _ (fun e => by simp only [Addr.mk.injEq] at e; omega)]
      exact (B3.cell (p := ⟨g, _, none⟩) hgw).trans HK2.out
    have d0 := H4.c0
    have d1 : w4.cell? ⟨r, 1, none⟩ = some (.int .i64 ((i : Int) + 1)) := by have := H4.c1; simpa using this
    have c1 := H3.c1
    have f1 := H3.f 1
    have HW4 := Lib.hid hw4
    have HH4 := Lib.hid H4
    have HK4 := Lib.hid K4
    clear hb1 hb2 B3 H3 hw4 H4 K4
    go_upto_region 13 with fail
    rw [← HW4.out]
    clear c1 f1
    go_quiet (fail)
    obtain ⟨w5, hw5⟩ : ∃ w5, w5 = w4.drewN nq := ⟨_, rfl⟩
    go_wp2_with fail
    go_ret
    have hb5 : Below w4.heap.size w4 w5 := by rw [hw5]; exact below_drewN (Below.refl _ _) _
    rw [← hw5]
    exact ⟨S.T i, i + 1, 0, rfl, hz, HH4.out.on hb5, HK4.out.trans (Kp.of_below hb5), .inl ⟨rfl, OK.out, rfl, rfl, rfl⟩⟩

set_option maxRecDepth 100000 in
set_option maxHeartbeats 4000000 in
theorem rwS_any {W : World} {r : Nat} {A : Option Addr} {S : Toks} {cn i b : Nat} {w : World} (hc : RdCtx W r A S w) (h : Rm r A S.n cn i b w) (kd : Int) :
    Calls Tryz.prog 51 #[.pointer (some ⟨r, 0, none⟩), .int .i64 kd, .int .i64 1, .string ⟨#[]⟩] w (RwOut w r A S cn i b (okW S i kd (fun s => smallB s.data.toList))) := by
  have hbig := hc.big
  have c0 := h.c0
  have c1 := h.c1
  have c2 := h.c2
  have HR := Lib.hid h
  by_cases hb : b = 0
  rotate_left
  · have b1 : (((b : Nat) : Int) == 0) = false := by simp; omega
    have b2 : (((b : Nat) : Int) != 0) = true := by simp; omega
    have OUT : Hid (RwOut w r A S cn i b (okW S i kd (fun s => smallB s.data.toList)) (.returned (.string ⟨#[]⟩)) w) := Lib.hid ⟨⟨#[]⟩, i, b, rfl, by decide, h, Kp.refl _ _, .inr (.inr ⟨hb, rfl, rfl⟩)⟩
    clear hb hc h
    as_aux_lemma =>
    go_enter Tryz.func51, Tryz.ntmps51
    go_wp2_with fail
    go_ret
    exact OUT.out
  subst hb
  simp at c2
  have f2 := h.f 2
  have NO : okW S i kd (fun s => smallB s.data.toList) = false → Hid (∀ w1, Below w.heap.size w w1 → RwOut w r A S cn i 0 (okW S i kd (fun s => smallB s.data.toList)) (.returned (.string ⟨#[]⟩)) (w1.setCell ⟨r, 2, none⟩ (.int .i64 2))) := fun e => Lib.hid (fun w1 hb =>
    ⟨⟨#[]⟩, i, 2, rfl, by decide, (h.on hb).bad 2, ((Kp.of_below hb)).put 2 _, .inr (.inl ⟨rfl, e, rfl, rfl⟩)⟩)
  by_cases hlt : i < S.n
  rotate_left
  · have R := NO (by unfold okW; simp [hlt])
    have hle : S.n ≤ i := by omega
    clear NO hc h
    as_aux_lemma =>
    go_enter Tryz.func51, Tryz.ntmps51
    go_wp2_with fail
    go_quiet (fail)
    go_wp2_with fail
    go_ret
    exact R.out _ (below_drewN (Below.refl _ _) _)
  obtain ⟨g, o, y, rfl, hg, k0w, k1w, k2w, hz⟩ := hc.toks i hlt
  have hgr : g < r := Nat.lt_of_lt_of_le hg hc.le
  have hrw := h.lt
  have k0 : w.cell? ⟨g, o + i * 3, none⟩ = some (.int .i64 (S.K i)) := (hc.below.cell (p := ⟨g, _, none⟩) hg).trans k0w
  have k2 : w.cell? ⟨g, o + i * 3 + 2, none⟩ = some (.string (S.T i)) := (hc.below.cell (p := ⟨g, _, none⟩) hg).trans k2w
  clear k0w k1w k2w
  rcases hid_or (S.K i == kd) with hk | hk
  · have R := NO (by unfold okW; rw [hk.out]; simp)
    have hk1 := hk.out
    clear NO hc h
    as_aux_lemma =>
    go_enter Tryz.func51, Tryz.ntmps51
    go_wp2_with fail
    go_quiet (fail)
    go_wp2_with fail
    go_ret
    exact R.out _ (below_drewN (Below.refl _ _) _)
  have hk1 := hk.out
  have SM := Lib.hid (fun w => refSmall_any (S.T i) w hz)
  have GT := Lib.hid (fun w => refGreat_any (S.T i) w hz)
  have HK2 := Lib.hid k2
  have HQ : ∀ v, smallB (S.T i).data.toList = v → Hid (smallB (S.T i).data.toList = v) := fun v e => Lib.hid (by exact e)
  have OKV : Hid (∀ v, smallB (S.T i).data.toList = v → okW S i kd (fun s => smallB s.data.toList) = v) := Lib.hid (fun v e => by unfold okW; rw [hk1, decide_eq_true hlt]; simp only [Bool.true_and]; exact e)
  clear hc h
  rcases hid_or (smallB (S.T i).data.toList) with hq | hq
  · have hq1 := (HQ _ hq.out).out
    have R := NO (OKV.out _ hq.out)
    clear NO HQ OKV
    as_aux_lemma =>
    go_enter Tryz.func51, Tryz.ntmps51
    go_wp2_with fail
    go_quiet (fail)
    generalize nq = n0
    go_wp2_with fail
    go_quiet (fail)
    go_wp2_with fail
    obtain ⟨w1, hw1⟩ : ∃ w1, w1 = w.drewN (n0 + nq) := ⟨_, rfl⟩
    rw [← hw1]
    have hb1 : Below w.heap.size w w1 := by rw [hw1]; exact below_drewN (Below.refl _ _) _
    clear hw1 c0 c1 c2 k0 k2 f2
    refine (SM.out w1).mono ?_; rintro e w2 ⟨rfl, hb2⟩
    go_wp2_with fail
    refine (GT.out w2).mono ?_; rintro e w3 ⟨rfl, rfl⟩
    have B3 := below_over hb1 hb2
    have OUT := Lib.hid (R.out _ B3)
    have H3 := HR.out.on B3
    have f2 := H3.f 2
    have c2 := H3.c2
    simp at c2
    clear hb1 hb2 B3 H3
    go_wp2_with fail
    go_ret
    exact OUT.out
  · have hq1 := (HQ _ hq.out).out
    have OK := Lib.hid (OKV.out _ hq.out)
    clear NO HQ OKV
    go_enter Tryz.func51, Tryz.ntmps51
    go_wp2_with fail
    go_quiet (fail)
    generalize nq = n0
    go_wp2_with fail
    go_quiet (fail)
    go_wp2_with fail
    obtain ⟨w1, hw1⟩ : ∃ w1, w1 = w.drewN (n0 + nq) := ⟨_, rfl⟩
    rw [← hw1]
    have hb1 : Below w.heap.size w w1 := by rw [hw1]; exact below_drewN (Below.refl _ _) _
    clear hw1 c0 c1 c2 k0 k2 f2
    refine (SM.out w1).mono ?_; rintro e w2 ⟨rfl, hb2⟩
    go_wp2_with fail
    refine (GT.out w2).mono ?_; rintro e w3 ⟨rfl, rfl⟩
    have B3 := below_over hb1 hb2
    have H3 := HR.out.on B3
    obtain ⟨w4, hw4⟩ : ∃ w4, w4 = w2.setCell ⟨r, 1, none⟩ (.int .i64 ((i : Int) + 1)) := ⟨_, rfl⟩
    have H4 : Rm r (some ⟨g, o, none⟩) S.n cn (i + 1) 0 w4 := by rw [hw4]; have := H3.at (i + 1); simpa using this
    have K4 : Kp r w w4 := by rw [hw4]; exact (Kp.of_below B3).put 1 _
    have q2 : w4.cell? ⟨g, o + i * 3 + 2, none⟩ = some (.string (S.T i)) := by
      have hgw : g < w.heap.size := Nat.lt_trans hgr hrw
      rw [hw4, World.cell?_setCell_other _ _ _ _ (fun e => by simp only [Addr.mk.injEq] at e; omega)]
      exact (B3.cell (p := ⟨g, _, none⟩) hgw).trans HK2.out
    have d0 := H4.c0
    have d1 : w4.cell? ⟨r, 1, none⟩ = some (.int .i64 ((i : Int) + 1)) := by have := H4.c1; simpa using this
    have c1 := H3.c1
    have f1 := H3.f 1
    have HW4 := Lib.hid hw4
    have HH4 := Lib.hid H4
    have HK4 := Lib.hid K4
    clear hb1 hb2 B3 H3 hw4 H4 K4
    go_upto_region 13 with fail
    rw [← HW4.out]
    clear c1 f1
    go_quiet (fail)
    obtain ⟨w5, hw5⟩ : ∃ w5, w5 = w4.drewN nq := ⟨_, rfl⟩
    go_wp2_with fail
    go_ret
    have hb5 : Below w4.heap.size w4 w5 := by rw [hw5]; exact below_drewN (Below.refl _ _) _
    rw [← hw5]
    exact ⟨S.T i, i + 1, 0, rfl, hz, HH4.out.on hb5, HK4.out.trans (Kp.of_below hb5), .inl ⟨rfl, OK.out, rfl, rfl, rfl⟩⟩

set_option maxRecDepth 100000 in
set_option maxHeartbeats 4000000 in
theorem rwG_any {W : World} {r : Nat} {A : Option Addr} {S : Toks} {cn i b : Nat} {w : World} (hc : RdCtx W r A S w) (h : Rm r A S.n cn i b w) (kd : Int) :
    Calls Tryz.prog 51 #[.pointer (some ⟨r, 0, none⟩), .int .i64 kd, .int .i64 2, .string ⟨#[]⟩] w (RwOut w r A S cn i b (okW S i kd (fun s => greatB s.data.toList))) := by
  have hbig := hc.big
  have c0 := h.c0
  have c1 := h.c1
  have c2 := h.c2
  have HR := Lib.hid h
  by_cases hb : b = 0
  rotate_left
  · have b1 : (((b : Nat) : Int) == 0) = false := by simp; omega
    have b2 : (((b : Nat) : Int) != 0) = true := by simp; omega
    have OUT : Hid (RwOut w r A S cn i b (okW S i kd (fun s => greatB s.data.toList)) (.returned (.string ⟨#[]⟩)) w) := Lib.hid ⟨⟨#[]⟩, i, b, rfl, by decide, h, Kp.refl _ _, .inr (.inr ⟨hb, rfl, rfl⟩)⟩
    clear hb hc h
    as_aux_lemma =>
    go_enter Tryz.func51, Tryz.ntmps51
    go_wp2_with fail
    go_ret
    exact OUT.out
  subst hb
  simp at c2
  have f2 := h.f 2
  have NO : okW S i kd (fun s => greatB s.data.toList) = false → Hid (∀ w1, Below w.heap.size w w1 → RwOut w r A S cn i 0 (okW S i kd (fun s => greatB s.data.toList)) (.returned (.string ⟨#[]⟩)) (w1.setCell ⟨r, 2, none⟩ (.int .i64 2))) := fun e => Lib.hid (fun w1 hb =>
    ⟨⟨#[]⟩, i, 2, rfl, by decide, (h.on hb).bad 2, ((Kp.of_below hb)).put 2 _, .inr (.inl ⟨rfl, e, rfl, rfl⟩)⟩)
  by_cases hlt : i < S.n
  rotate_left
  · have R := NO (by unfold okW; simp [hlt])
    have hle : S.n ≤ i := by omega
    clear NO hc h
    as_aux_lemma =>
    go_enter Tryz.func51, Tryz.ntmps51
    go_wp2_with fail
    go_quiet (fail)
    go_wp2_with fail
    go_ret
    exact R.out _ (below_drewN (Below.refl _ _) _)
  obtain ⟨g, o, y, rfl, hg, k0w, k1w, k2w, hz⟩ := hc.toks i hlt
  have hgr : g < r := Nat.lt_of_lt_of_le hg hc.le
  have hrw := h.lt
  have k0 : w.cell? ⟨g, o + i * 3, none⟩ = some (.int .i64 (S.K i)) := (hc.below.cell (p := ⟨g, _, none⟩) hg).trans k0w
  have k2 : w.cell? ⟨g, o + i * 3 + 2, none⟩ = some (.string (S.T i)) := (hc.below.cell (p := ⟨g, _, none⟩) hg).trans k2w
  clear k0w k1w k2w
  rcases hid_or (S.K i == kd) with hk | hk
  · have R := NO (by unfold okW; rw [hk.out]; simp)
    have hk1 := hk.out
    clear NO hc h
    as_aux_lemma =>
    go_enter Tryz.func51, Tryz.ntmps51
    go_wp2_with fail
    go_quiet (fail)
    go_wp2_with fail
    go_ret
    exact R.out _ (below_drewN (Below.refl _ _) _)
  have hk1 := hk.out
  have SM := Lib.hid (fun w => refSmall_any (S.T i) w hz)
  have GT := Lib.hid (fun w => refGreat_any (S.T i) w hz)
  have HK2 := Lib.hid k2
  have HQ : ∀ v, greatB (S.T i).data.toList = v → Hid (greatB (S.T i).data.toList = v) := fun v e => Lib.hid (by exact e)
  have OKV : Hid (∀ v, greatB (S.T i).data.toList = v → okW S i kd (fun s => greatB s.data.toList) = v) := Lib.hid (fun v e => by unfold okW; rw [hk1, decide_eq_true hlt]; simp only [Bool.true_and]; exact e)
  clear hc h
  rcases hid_or (greatB (S.T i).data.toList) with hq | hq
  · have hq1 := (HQ _ hq.out).out
    have R := NO (OKV.out _ hq.out)
    clear NO HQ OKV
    as_aux_lemma =>
    go_enter Tryz.func51, Tryz.ntmps51
    go_wp2_with fail
    go_quiet (fail)
    generalize nq = n0
    go_wp2_with fail
    go_quiet (fail)
    go_wp2_with fail
    obtain ⟨w1, hw1⟩ : ∃ w1, w1 = w.drewN (n0 + nq) := ⟨_, rfl⟩
    rw [← hw1]
    have hb1 : Below w.heap.size w w1 := by rw [hw1]; exact below_drewN (Below.refl _ _) _
    clear hw1 c0 c1 c2 k0 k2 f2
    refine (SM.out w1).mono ?_; rintro e w2 ⟨rfl, hb2⟩
    go_wp2_with fail
    refine (GT.out w2).mono ?_; rintro e w3 ⟨rfl, rfl⟩
    have B3 := below_over hb1 hb2
    have OUT := Lib.hid (R.out _ B3)
    have H3 := HR.out.on B3
    have f2 := H3.f 2
    have c2 := H3.c2
    simp at c2
    clear hb1 hb2 B3 H3
    go_wp2_with fail
    go_ret
    exact OUT.out
  · have hq1 := (HQ _ hq.out).out
    have OK := Lib.hid (OKV.out _ hq.out)
    clear NO HQ OKV
    go_enter Tryz.func51, Tryz.ntmps51
    go_wp2_with fail
    go_quiet (fail)
    generalize nq = n0
    go_wp2_with fail
    go_quiet (fail)
    go_wp2_with fail
    obtain ⟨w1, hw1⟩ : ∃ w1, w1 = w.drewN (n0 + nq) := ⟨_, rfl⟩
    rw [← hw1]
    have hb1 : Below w.heap.size w w1 := by rw [hw1]; exact below_drewN (Below.refl _ _) _
    clear hw1 c0 c1 c2 k0 k2 f2
    refine (SM.out w1).mono ?_; rintro e w2 ⟨rfl, hb2⟩
    go_wp2_with fail
    refine (GT.out w2).mono ?_; rintro e w3 ⟨rfl, rfl⟩
    have B3 := below_over hb1 hb2
    have H3 := HR.out.on B3
    obtain ⟨w4, hw4⟩ : ∃ w4, w4 = w2.setCell ⟨r, 1, none⟩ (.int .i64 ((i : Int) + 1)) := ⟨_, rfl⟩
    have H4 : Rm r (some ⟨g, o, none⟩) S.n cn (i + 1) 0 w4 := by rw [hw4]; have := H3.at (i + 1); simpa using this
    have K4 : Kp r w w4 := by rw [hw4]; exact (Kp.of_below B3).put 1 _
    have q2 : w4.cell? ⟨g, o + i * 3 + 2, none⟩ = some (.string (S.T i)) := by
      have hgw : g < w.heap.size := Nat.lt_trans hgr hrw
      rw [hw4, World.cell?_setCell_other _ _ _ _ (fun e => by simp only [Addr.mk.injEq] at e; omega)]
      exact (B3.cell (p := ⟨g, _, none⟩) hgw).trans HK2.out
    have d0 := H4.c0
    have d1 : w4.cell? ⟨r, 1, none⟩ = some (.int .i64 ((i : Int) + 1)) := by have := H4.c1; simpa using this
    have c1 := H3.c1
    have f1 := H3.f 1
    have HW4 := Lib.hid hw4
    have HH4 := Lib.hid H4
    have HK4 := Lib.hid K4
    clear hb1 hb2 B3 H3 hw4 H4 K4
    go_upto_region 13 with fail
    rw [← HW4.out]
    clear c1 f1
    go_quiet (fail)
    obtain ⟨w5, hw5⟩ : ∃ w5, w5 = w4.drewN nq := ⟨_, rfl⟩
    go_wp2_with fail
    go_ret
    have hb5 : Below w4.heap.size w4 w5 := by rw [hw5]; exact below_drewN (Below.refl _ _) _
    rw [← hw5]
    exact ⟨S.T i, i + 1, 0, rfl, hz, HH4.out.on hb5, HK4.out.trans (Kp.of_below hb5), .inl ⟨rfl, OK.out, rfl, rfl, rfl⟩⟩

set_option maxRecDepth 100000 in
set_option maxHeartbeats 4000000 in
theorem ris6_any {W : World} {r : Nat} {A : Option Addr} {S : Toks} {cn i b : Nat} {w : World} (hc : RdCtx W r A S w) (h : Rm r A S.n cn i b w) (t : ByteArray) :
    Calls Tryz.prog 52 #[.pointer (some ⟨r, 0, none⟩), .string t] w fun e w' => e = .returned (.bool (decide (b = 0) && keyS S i t.data.toList)) ∧ Below w.heap.size w w' := by
  have hbig := hc.big
  have c0 := h.c0
  have c1 := h.c1
  have c2 := h.c2
  have HT := Lib.hid hc.toksAt
  clear hc h
  by_cases hb : b = 0
  rotate_left
  · have R : Hid ((decide (b = 0) && keyS S i t.data.toList) = false) := Lib.hid (by simp [hb])
    rw [R.out]
    have b1 : (((b : Nat) : Int) == 0) = false := by simp; omega
    clear hb R HT
    as_aux_lemma =>
    go_enter Tryz.func52, Tryz.ntmps52
    go_wp2_with fail
    go_quiet (fail)
    go_wp2_with fail
    go_ret
    exact ⟨rfl, below_drewN (Below.refl _ _) _⟩
  subst hb
  simp at c2
  by_cases hlt : i < S.n
  rotate_left
  · have R : Hid ((decide (0 = 0) && keyS S i t.data.toList) = false) := Lib.hid (by unfold keyS; simp [hlt])
    rw [R.out]
    clear R HT
    as_aux_lemma =>
    go_enter Tryz.func52, Tryz.ntmps52
    go_wp2_with fail
    go_quiet (fail)
    go_wp2_with fail
    go_ret
    exact ⟨rfl, below_drewN (Below.refl _ _) _⟩
  obtain ⟨g, o, y, rfl, hg, k0, k1, k2, hz⟩ := HT.out i hlt
  rcases hid_or (S.K i == 1) with hk | hk
  · have R : Hid ((decide (0 = 0) && keyS S i t.data.toList) = false) := Lib.hid (by unfold keyS; rw [hk.out]; simp)
    have hk1 := hk.out
    rw [R.out]
    clear R HT
    as_aux_lemma =>
    go_enter Tryz.func52, Tryz.ntmps52
    go_wp2_with fail
    go_quiet (fail)
    go_wp2_with fail
    go_ret
    exact ⟨rfl, below_drewN (Below.refl _ _) _⟩
  have hk1 := hk.out
  have R : Hid ((decide (0 = 0) && keyS S i t.data.toList) = ((S.T i).toList == t.toList)) := Lib.hid (by unfold keyS; rw [hk1, Lib.toList_data, Lib.toList_data]; simp [hlt])
  rw [R.out]
  clear R HT
  go_enter Tryz.func52, Tryz.ntmps52
  go_wp2_with fail
  go_quiet (fail)
  go_wp2_with fail
  go_ret
  exact ⟨rfl, below_drewN (Below.refl _ _) _⟩

/-- Does a declaration begin? -/
def decAt (S : Toks) (i : Nat) : Bool := keyS S i [111, 112, 97, 113, 117, 101] || (keyS S i [104, 105, 100, 100, 101, 110] || (keyS S i [97, 108, 105, 97, 115] || keyS S i [118, 97, 108]))
set_option maxRecDepth 100000 in
set_option maxHeartbeats 4000000 in
theorem rkey6_any {W : World} {r : Nat} {A : Option Addr} {S : Toks} {cn i b : Nat} {w : World} (hc : RdCtx W r A S w) (h : Rm r A S.n cn i b w) :
    Calls Tryz.prog 54 #[.pointer (some ⟨r, 0, none⟩)] w fun e w' => e = .returned (.bool (decide (b = 0) && decAt S i)) ∧ Below w.heap.size w w' := by
  have IS : Hid (∀ w' t, Below w.heap.size w w' → Calls Tryz.prog 52 #[.pointer (some ⟨r, 0, none⟩), .string t] w' fun e w'' => e = .returned (.bool (decide (b = 0) && keyS S i t.data.toList)) ∧ Below w'.heap.size w' w'') := Lib.hid (fun w' t hb => ris6_any (hc.on (Kp.of_below hb) h.lt) (h.on hb) t)
  have VAL : Hid ((decide (b = 0) && decAt S i) = ((decide (b = 0) && keyS S i [111, 112, 97, 113, 117, 101]) || ((decide (b = 0) && keyS S i [104, 105, 100, 100, 101, 110]) || ((decide (b = 0) && keyS S i [97, 108, 105, 97, 115]) || (decide (b = 0) && keyS S i [118, 97, 108]))))) := Lib.hid (by unfold decAt; cases decide (b = 0) <;> simp)
  rw [VAL.out]
  clear VAL hc h
  generalize hx1 : (decide (b = 0) && keyS S i [111, 112, 97, 113, 117, 101]) = x1
  generalize hx2 : (decide (b = 0) && keyS S i [104, 105, 100, 100, 101, 110]) = x2
  generalize hx3 : (decide (b = 0) && keyS S i [97, 108, 105, 97, 115]) = x3
  generalize hx4 : (decide (b = 0) && keyS S i [118, 97, 108]) = x4
  have X1 := Lib.hid hx1
  have X2 := Lib.hid hx2
  have X3 := Lib.hid hx3
  have X4 := Lib.hid hx4
  clear hx1 hx2 hx3 hx4
  go_enter Tryz.func54, Tryz.ntmps54
  go_wp2_with fail
  refine (IS.out _ _ (Below.refl _ _)).mono ?_; rintro e w1 ⟨rfl, hb1⟩
  rw [show (decide (b = 0) && keyS S i (ByteArray.mk #[111, 112, 97, 113, 117, 101]).data.toList) = x1 from X1.out]
  go_wp2_with fail
  refine (IS.out _ _ hb1).mono ?_; rintro e w2 ⟨rfl, hb2⟩
  rw [show (decide (b = 0) && keyS S i (ByteArray.mk #[104, 105, 100, 100, 101, 110]).data.toList) = x2 from X2.out]
  have B2 := below_over hb1 hb2
  go_wp2_with fail
  refine (IS.out _ _ B2).mono ?_; rintro e w3 ⟨rfl, hb3⟩
  rw [show (decide (b = 0) && keyS S i (ByteArray.mk #[97, 108, 105, 97, 115]).data.toList) = x3 from X3.out]
  have B3 := below_over B2 hb3
  go_wp2_with fail
  refine (IS.out _ _ B3).mono ?_; rintro e w4 ⟨rfl, hb4⟩
  rw [show (decide (b = 0) && keyS S i (ByteArray.mk #[118, 97, 108]).data.toList) = x4 from X4.out]
  have B4 := Lib.hid (below_over B3 hb4)
  clear hb1 hb2 hb3 hb4 B2 B3 IS
  cases x1 <;> cases x2 <;> cases x3 <;> cases x4
  all_goals (go_wp2_with fail; go_ret; exact ⟨rfl, B4.out⟩)

end Go.Proofs.YtbknmokamcjgpaaGreatDoor

/- The reference's Major, of modules. -/
namespace Go.Proofs.YtbknmokamcjgpaaGreatDoor
open Go.RowKit
open Go.Sort
open M

/-- What Major leaves. -/
def RjOut (w : World) (r : Nat) (A : Option Addr) (S : Toks) (cn i b : Nat) (e : Ending) (w' : World) : Prop :=
  ∃ (v : Int) (i' b' : Nat), e = .returned (.int .i64 v) ∧ Rm r A S.n cn i' b' w' ∧ Kp r w w' ∧ NumOut S i b v i' b'
theorem major_nought {l : List UInt8} (h : bt l 0 = 48) : majorOk l = false := by
  rw [Bool.eq_false_iff]; intro e
  have := ((majorOk_iff l).1 e).2.2.2
  omega

set_option maxRecDepth 100000 in
set_option maxHeartbeats 4000000 in
theorem rmaj6_three {W : World} {r : Nat} {S : Toks} {cn i g o : Nat} {w : World} (hc : RdCtx W r (some ⟨g, o, none⟩) S w) (h : Rm r (some ⟨g, o, none⟩) S.n cn i 0 w) (hlt : i < S.n) (hk : Hid ((S.K i == 3) = true)) (hz : (S.T i).size ≤ 9223372036854775807)
    (k0 : w.cell? ⟨g, o + i * 3, none⟩ = some (.int .i64 (S.K i))) (k2 : w.cell? ⟨g, o + i * 3 + 2, none⟩ = some (.string (S.T i))) :
    Calls Tryz.prog 113 #[.pointer (some ⟨r, 0, none⟩)] w (RjOut w r (some ⟨g, o, none⟩) S cn i 0) := by
  have hbig := hc.big
  have c0 := h.c0
  have c1 := h.c1
  have c2 := h.c2
  have HR := Lib.hid h
  simp at c2
  have hk1 := hk.out
  have MQ : Hid (S.major i = majorOk (S.T i).data.toList) := Lib.hid (by unfold Toks.major; rw [hk.out, decide_eq_true hlt]; rfl)
  have ESZ : Hid ((S.T i).data.toList.length = (S.T i).size) := Lib.hid (by rw [Array.length_toList]; rfl)
  have NO : Hid (majorOk (S.T i).data.toList = false → ∀ w1, Below w.heap.size w w1 → RjOut w r (some ⟨g, o, none⟩) S cn i 0 (.returned (.int .i64 0)) (w1.setCell ⟨r, 2, none⟩ (.int .i64 2))) := Lib.hid (fun e w1 hb =>
    ⟨0, i, 2, rfl, (h.on hb).bad 2, ((Kp.of_below hb)).put 2 _, .inr (.inl ⟨rfl, by rw [MQ.out]; exact e, rfl, rfl⟩)⟩)
  have YES : Hid (majorOk (S.T i).data.toList = true → ∀ w1, Below w.heap.size w w1 → RjOut w r (some ⟨g, o, none⟩) S cn i 0 (.returned (.int .i64 (digs (S.T i).data.toList 0))) (w1.setCell ⟨r, 1, none⟩ (.int .i64 ((i : Int) + 1)))) := Lib.hid (fun e w1 hb =>
    ⟨_, i + 1, 0, rfl, by have := (h.on hb).at (i + 1); simpa using this, ((Kp.of_below hb)).put 1 _, .inl ⟨rfl, by rw [MQ.out]; exact e, rfl, rfl, rfl⟩⟩)
  clear hc h hk MQ
  generalize hT : S.T i = T at k2 hz ESZ NO YES
  obtain ⟨l, hL⟩ : ∃ l, l = T.data.toList := ⟨_, rfl⟩
  have BT : Hid (∀ k (hk : k < T.size), (T[k].toNat : Int) = bt l k) := Lib.hid (fun k hk => by rw [hL]; exact bt_eq T k hk)
  rw [← hL] at ESZ NO YES
  clear hT hL
  have CASES : (T.size = 0 ∨ 9 < T.size) ∨ (1 ≤ T.size ∧ T.size ≤ 9) := by omega
  rcases CASES with hl | hl
  · have R := Lib.hid (NO.out (major_len _ (by rw [ESZ.out]; omega)))
    clear NO YES ESZ BT
    rcases hl with h0 | h0
    · have h1 : (T.size : Int) < 1 := by omega
      have h2 : ¬ 9 < (T.size : Int) := by omega
      have h3 : (T.size : Int) ≤ 9 := by omega
      have h4 : ¬ 1 ≤ (T.size : Int) := by omega
      clear h0
      as_aux_lemma =>
      go_enter Tryz.func113, Tryz.ntmps113
      go_wp2_with fail
      go_quiet (fail)
      generalize nq = n0
      go_wp2_with fail
      go_quiet (fail)
      go_wp2_with fail
      obtain ⟨w1, hw1⟩ : ∃ w1, w1 = w.drewN (n0 + nq) := ⟨_, rfl⟩
      rw [← hw1]
      have hb1 : Below w.heap.size w w1 := by rw [hw1]; exact below_drewN (Below.refl _ _) _
      have H1 := HR.out.on hb1
      have f2 := H1.f 2
      have d2 := H1.c2
      simp at d2
      have OUT := Lib.hid (R.out _ hb1)
      clear hb1 hw1 H1 c0 c1 c2 k0 k2
      go_loop [3, 4, 6] (fun qv nv iv => nv = .int .i64 0 ∧ qv = .bool false ∧ iv = .int .i64 0) (fun _ _ iv => (intOf iv).toNat)
      case atStart => exact ⟨rfl, by first | rfl | rw [decide_eq_false (by omega)], rfl⟩
      case round =>
        obtain ⟨rfl, rfl, rfl⟩ := hrel
        go_wp2_with fail
        go_ret
        exact OUT.out
    · have h1 : ¬ (T.size : Int) < 1 := by omega
      have h2 : 9 < (T.size : Int) := by omega
      have h3 : ¬ (T.size : Int) ≤ 9 := by omega
      have h4 : 1 ≤ (T.size : Int) := by omega
      clear h0
      as_aux_lemma =>
      go_enter Tryz.func113, Tryz.ntmps113
      go_wp2_with fail
      go_quiet (fail)
      generalize nq = n0
      go_wp2_with fail
      go_quiet (fail)
      go_wp2_with fail
      obtain ⟨w1, hw1⟩ : ∃ w1, w1 = w.drewN (n0 + nq) := ⟨_, rfl⟩
      rw [← hw1]
      have hb1 : Below w.heap.size w w1 := by rw [hw1]; exact below_drewN (Below.refl _ _) _
      have H1 := HR.out.on hb1
      have f2 := H1.f 2
      have d2 := H1.c2
      simp at d2
      have OUT := Lib.hid (R.out _ hb1)
      clear hb1 hw1 H1 c0 c1 c2 k0 k2
      go_loop [3, 4, 6] (fun qv nv iv => nv = .int .i64 0 ∧ qv = .bool false ∧ iv = .int .i64 0) (fun _ _ iv => (intOf iv).toNat)
      case atStart => exact ⟨rfl, by first | rfl | rw [decide_eq_false (by omega)], rfl⟩
      case round =>
        obtain ⟨rfl, rfl, rfl⟩ := hrel
        go_wp2_with fail
        go_ret
        exact OUT.out
  obtain ⟨hl1, hl2⟩ := hl
  have h1 : ¬ (T.size : Int) < 1 := by omega
  have h2 : 1 ≤ (T.size : Int) := by omega
  have h3 : ¬ 9 < (T.size : Int) := by omega
  have h4 : (T.size : Int) ≤ 9 := by omega
  have h00 : 0 < T.size := by omega
  have HLL : Hid (1 ≤ l.length ∧ l.length ≤ 9) := Lib.hid (by rw [ESZ.out]; exact ⟨hl1, hl2⟩)
  by_cases hx : (T[0].toNat : Int) = 48
  · have R := Lib.hid (NO.out (major_nought (by rw [← BT.out 0 h00]; exact hx)))
    have e1 : ((T[0].toNat : Int) == 48) = true := by simp [hx]
    have e2 : ((T[0].toNat : Int) != 48) = false := by simp [hx]
    clear NO YES ESZ BT hx HLL
    as_aux_lemma =>
    go_enter Tryz.func113, Tryz.ntmps113
    go_wp2_with fail
    go_quiet (fail)
    generalize nq = n0
    go_wp2_with fail
    go_quiet (fail)
    go_wp2_with fail
    obtain ⟨w1, hw1⟩ : ∃ w1, w1 = w.drewN (n0 + nq) := ⟨_, rfl⟩
    rw [← hw1]
    have hb1 : Below w.heap.size w w1 := by rw [hw1]; exact below_drewN (Below.refl _ _) _
    have H1 := HR.out.on hb1
    have f2 := H1.f 2
    have d2 := H1.c2
    simp at d2
    have OUT := Lib.hid (R.out _ hb1)
    clear hb1 hw1 H1 c0 c1 c2 k0 k2
    go_loop [3, 4, 6] (fun qv nv iv => nv = .int .i64 0 ∧ qv = .bool false ∧ iv = .int .i64 0) (fun _ _ iv => (intOf iv).toNat)
    case atStart => exact ⟨rfl, by first | rfl | rw [decide_eq_false (by omega)], rfl⟩
    case round =>
      obtain ⟨rfl, rfl, rfl⟩ := hrel
      go_wp2_with fail
      go_ret
      exact OUT.out
  have e1 : ((T[0].toNat : Int) == 48) = false := by simp [hx]
  have e2 : ((T[0].toNat : Int) != 48) = true := by simp [hx]
  have HX0 := Lib.hid hx
  clear hx
  go_enter Tryz.func113, Tryz.ntmps113
  go_wp2_with fail
  go_quiet (fail)
  generalize nq = n0
  go_wp2_with fail
  go_quiet (fail)
  go_wp2_with fail
  obtain ⟨w1, hw1⟩ : ∃ w1, w1 = w.drewN (n0 + nq) := ⟨_, rfl⟩
  rw [← hw1]
  have hb1 : Below w.heap.size w w1 := by rw [hw1]; exact below_drewN (Below.refl _ _) _
  have H1 := HR.out.on hb1
  have f2 := H1.f 2
  have d2 := H1.c2
  simp at d2
  have d1 := H1.c1
  have f1 := H1.f 1
  have NO1 : Hid (majorOk l = false → RjOut w r (some ⟨g, o, none⟩) S cn i 0 (.returned (.int .i64 0)) (w1.setCell ⟨r, 2, none⟩ (.int .i64 2))) := Lib.hid (fun e => NO.out e w1 hb1)
  have YES1 : Hid (majorOk l = true → RjOut w r (some ⟨g, o, none⟩) S cn i 0 (.returned (.int .i64 (digs l 0))) (w1.setCell ⟨r, 1, none⟩ (.int .i64 ((i : Int) + 1)))) := Lib.hid (fun e => YES.out e w1 hb1)
  clear H1 hb1 hw1 c0 c1 c2 k0 k2 HR NO YES e1 e2
  go_loop [3, 4, 6] (fun qv nv iv => ∃ (k : Nat) (m : Int) (q : Bool), k ≤ T.size ∧ iv = .int .i64 k ∧ nv = .int .i64 m ∧ qv = .bool q ∧ Hid (Maj l k m q)) (fun _ _ iv => T.size - (intOf iv).toNat)
  case atStart => exact ⟨0, 0, true, by omega, rfl, rfl, rfl, Lib.hid (.start HLL.out)⟩
  case round =>
    obtain ⟨k, m, q, hk, rfl, rfl, rfl, HM⟩ := hrel
    cases HM.out with
    | no _ hno =>
      have OUT := Lib.hid (NO1.out hno)
      clear hno HM
      by_cases hlt1 : k < T.size
      all_goals
        go_wp2_with fail
        go_ret
        exact OUT.out
    | yes _ ha h0 hbd =>
      have HA := Lib.hid ha
      have H0 := Lib.hid h0
      have HB := Lib.hid hbd
      clear ha h0 hbd HM
      by_cases hlt1 : k < T.size
      · have BK := Lib.hid (BT.out k hlt1)
        have HP : (10 ^ k : Nat) ≤ 100000000 := Nat.le_trans (Nat.pow_le_pow_right (by omega) (show k ≤ 8 by omega)) (by decide)
        have m0 : 0 ≤ digs (l.take k) 0 := HB.out.1
        have m1 : digs (l.take k) 0 < 100000000 := by have := HB.out.2; omega
        clear HP
        obtain ⟨m, hm⟩ : ∃ m, m = digs (l.take k) 0 := ⟨_, rfl⟩
        rw [← hm] at m0 m1 ⊢
        have HMM := Lib.hid hm
        clear hm
        by_cases x1 : (T[k].toNat : Int) < 48
        · have x2 : ¬ 48 ≤ (T[k].toNat : Int) := by omega
          go_wp2_with fail
          go_round
          case rel =>
            refine ⟨k + 1, _, _, by omega, (by first | rfl | go_num), rfl, rfl, Lib.hid ?_⟩
            exact .no _ (major_byte (by rw [ESZ.out]; exact hlt1) BK.out (by omega))
          case measure => simp [intOf] <;> omega
        by_cases x3 : 57 < (T[k].toNat : Int)
        · have x2 : 48 ≤ (T[k].toNat : Int) := by omega
          have x4 : ¬ (T[k].toNat : Int) ≤ 57 := by omega
          go_wp2_with fail
          go_round
          case rel =>
            refine ⟨k + 1, _, _, by omega, (by first | rfl | go_num), rfl, rfl, Lib.hid ?_⟩
            exact .no _ (major_byte (by rw [ESZ.out]; exact hlt1) BK.out (by omega))
          case measure => simp [intOf] <;> omega
        have y1 : 48 ≤ (T[k].toNat : Int) := by omega
        have y2 : (T[k].toNat : Int) ≤ 57 := by omega
        have y3 : 0 < k ∨ 48 < (T[k].toNat : Int) := by
          by_cases hk0 : k = 0
          · subst hk0
            have := HX0.out
            exact .inr (by omega)
          · exact .inl (by omega)
        have Y3 := Lib.hid y3
        clear y3
        go_wp2_with fail
        go_round
        case rel =>
          refine ⟨k + 1, _, _, by omega, (by first | rfl | go_num), rfl, rfl, Lib.hid ?_⟩
          exact .step_yes HLL.out HA.out H0.out HB.out (by rw [ESZ.out]; exact hlt1) BK.out (by omega) (by omega) Y3.out (by rw [← HMM.out])
        case measure => simp [intOf] <;> omega
      · have q := Maj.all HLL.out HA.out H0.out (by rw [ESZ.out]; omega)
        have OUT := YES1.out q
        have e : l.take k = l := List.take_of_length_le (by rw [ESZ.out]; omega)
        rw [e]
        have HO := Lib.hid OUT
        clear OUT q e HA H0 HB
        go_wp2_with fail
        go_ret
        exact HO.out

set_option maxRecDepth 100000 in
set_option maxHeartbeats 4000000 in
theorem rmaj6_any {W : World} {r : Nat} {A : Option Addr} {S : Toks} {cn i b : Nat} {w : World} (hc : RdCtx W r A S w) (h : Rm r A S.n cn i b w) :
    Calls Tryz.prog 113 #[.pointer (some ⟨r, 0, none⟩)] w (RjOut w r A S cn i b) := by
  have hbig := hc.big
  have c0 := h.c0
  have c1 := h.c1
  have c2 := h.c2
  have HR := Lib.hid h
  by_cases hb : b = 0
  rotate_left
  · have b1 : (((b : Nat) : Int) == 0) = false := by simp; omega
    have b2 : (((b : Nat) : Int) != 0) = true := by simp; omega
    have OUT : Hid (RjOut w r A S cn i b (.returned (.int .i64 0)) w) := Lib.hid ⟨0, i, b, rfl, h, Kp.refl _ _, .inr (.inr ⟨hb, rfl, rfl⟩)⟩
    clear hb hc h
    as_aux_lemma =>
    go_enter Tryz.func113, Tryz.ntmps113
    go_wp2_with fail
    go_ret
    exact OUT.out
  subst hb
  simp at c2
  have f2 := h.f 2
  have NO : S.major i = false → Hid (∀ w1, Below w.heap.size w w1 → RjOut w r A S cn i 0 (.returned (.int .i64 0)) (w1.setCell ⟨r, 2, none⟩ (.int .i64 2))) := fun e => Lib.hid (fun w1 hb =>
    ⟨0, i, 2, rfl, (h.on hb).bad 2, ((Kp.of_below hb)).put 2 _, .inr (.inl ⟨rfl, e, rfl, rfl⟩)⟩)
  by_cases hlt : i < S.n
  rotate_left
  · have R := NO (by unfold Toks.major; simp [hlt])
    have hle : S.n ≤ i := by omega
    clear NO hc h
    as_aux_lemma =>
    go_enter Tryz.func113, Tryz.ntmps113
    go_wp2_with fail
    go_quiet (fail)
    go_wp2_with fail
    go_ret
    exact R.out _ (below_drewN (Below.refl _ _) _)
  obtain ⟨g, o, y, rfl, hg, k0, k1, k2, hz⟩ := hc.toksAt i hlt
  rcases hid_or (S.K i == 3) with hk | hk
  · have R := NO (by unfold Toks.major; rw [hk.out]; simp)
    have hk1 := hk.out
    clear NO hc h
    as_aux_lemma =>
    go_enter Tryz.func113, Tryz.ntmps113
    go_wp2_with fail
    go_quiet (fail)
    go_wp2_with fail
    go_ret
    exact R.out _ (below_drewN (Below.refl _ _) _)
  exact rmaj6_three hc h hlt hk hz k0 k2

end Go.Proofs.YtbknmokamcjgpaaGreatDoor
