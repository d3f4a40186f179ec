/-
  The walk of ParseRange.
-/
import Derived.Test.YtihaggghmanamaaDoorSvW
import Derived.Test.YtihaggghmanamaaDoorSvX
import Derived.Test.YtihaggghmanamaaDoorRet
namespace Go.Proofs.YtihaggghmanamaaDoor
open Go.RowKit

theorem rngSize : (Tryd.prog.info? 38).map (·.size) = some 6 := by kernel_rfl
/-- The library's variable MaxLen holds some int. -/
def MaxL (w : World) : Prop := ∃ m, w.cell? ⟨0, 0, none⟩ = some (.int .i64 m)
theorem MaxL.on {w w' : World} (h : MaxL w) (hb : Below w.heap.size w w') : MaxL w' := by
  obtain ⟨m, hm⟩ := h
  exact ⟨m, (hb.cell (p := ⟨0, 0, none⟩) (World.block_lt_of_cell? w _ hm)).trans hm⟩

theorem cut2_is (s : ByteArray) (w : World) (hs : s.size < 4294967281) (hm : MaxL w) :
    Calls Tryd.prog 24 #[.string s, .string ⟨#[46, 46]⟩] w fun e w' => ∃ (A B : ByteArray) (f : Bool) (n : Nat), A.data.toList = (Lib.cut s.data.toList [46, 46]).1 ∧ B.data.toList = (Lib.cut s.data.toList [46, 46]).2.1 ∧ A.size ≤ s.size ∧ B.size ≤ s.size ∧ e = .returned (.tuple #[.string A, .string B, .bool f]) ∧ w' = w.drewN n := by
  obtain ⟨m, hm⟩ := hm
  exact (Tryd.strings_Cut s ⟨#[46, 46]⟩ m w hs hm).mono fun e w' ⟨h, n, hn⟩ => ⟨_, _, _, n, List.toList_toArray, List.toList_toArray, by rw [Lib.size_eq, Lib.size_eq]; exact (M.cut_le _ _).1, by rw [Lib.size_eq, Lib.size_eq]; exact (M.cut_le _ _).2, h, hn⟩

/-- A text that is a version's, and which. -/
def RV (l : List UInt8) (a b c : Int) : Prop := isVer l = true ∧ M.pV (M.t1 l) = a ∧ M.pV (M.t2 l) = b ∧ M.pV (M.t3 l) = c
/-- A text that is none's. -/
def NV (l : List UInt8) : Prop := isVer l = false
theorem rv_or (l : List UInt8) : NV l ∨ ∃ a b c, RV l a b c := by
  cases h : isVer l
  · exact .inl h
  · exact .inr ⟨_, _, _, h, rfl, rfl, rfl⟩
theorem rv_vt {l : List UInt8} {a b c : Int} (h : RV l a b c) : l = M.vt a b c ∧ okVer a b c = true := by
  obtain ⟨e, rfl, rfl, rfl⟩ := h
  exact ⟨(vt_isVer e).2, (vt_isVer e).1⟩
theorem vt_rv {a b c : Int} (h : okVer a b c = true) : RV (M.vt a b c) a b c := isVer_vt h rfl

theorem parse_rv (s : ByteArray) (l : List UInt8) (a b c : Int) (w : World) (hs : s.size ≤ 9223372036854775807) (hl : Hid (s.data.toList = l)) (h : RV l a b c) :
    Calls Tryd.prog 11 #[.string s] w fun e w' => e = .returned (.tuple #[.agg #[.int .i64 a, .int .i64 b, .int .i64 c], .nilIface]) ∧ Below w.heap.size w w' := by
  have e := hl.out; subst e
  obtain ⟨h, rfl, rfl, rfl⟩ := h
  exact parse_yes s w hs h
theorem parse_nv (s : ByteArray) (l : List UInt8) (w : World) (hs : s.size ≤ 9223372036854775807) (hl : Hid (s.data.toList = l)) (h : NV l) :
    Calls Tryd.prog 11 #[.string s] w fun e w' => e = .returned (.tuple #[.agg #[.int .i64 0, .int .i64 0, .int .i64 0], .iface 31 (.int .i64 2)]) ∧ Below w.heap.size w w' := by
  have e := hl.out; subst e
  exact parse_no s w hs h
theorem ref_rv (s : ByteArray) (l : List UInt8) (a b c : Int) (w : World) (hs : s.size ≤ 9223372036854775807) (hp : Pow w) (hl : Hid (s.data.toList = l)) (h : RV l a b c) :
    Calls Tryd.prog 12 #[.string s] w fun e w' => e = .returned (.tuple #[.agg #[.int .i64 a, .int .i64 b, .int .i64 c], .bool true]) ∧ Below w.heap.size w w' := by
  have e := hl.out; subst e
  obtain ⟨h, rfl, rfl, rfl⟩ := h
  exact ref_yes s w hs hp h
theorem ref_nv (s : ByteArray) (l : List UInt8) (w : World) (hs : s.size ≤ 9223372036854775807) (hp : Pow w) (hl : Hid (s.data.toList = l)) (h : NV l) :
    Calls Tryd.prog 12 #[.string s] w fun e w' => e = .returned (.tuple #[.agg #[.int .i64 0, .int .i64 0, .int .i64 0], .bool false]) ∧ Below w.heap.size w w' := by
  have e := hl.out; subst e
  exact ref_no s w hs hp h

set_option maxHeartbeats 4000000 in
theorem parseRange_yes (s : ByteArray) (l1 l2 : List UInt8) (a b c x y z : Int) (w : World) (hs : s.size < 4294967281) (hm : MaxL w) (hl1 : Hid (l1 = (Lib.cut s.data.toList [46, 46]).1)) (hl2 : Hid (l2 = (Lib.cut s.data.toList [46, 46]).2.1)) (RA : RV l1 a b c) (RB : RV l2 x y z) (H3 : Hid (okRng a b c x y z = true)) :
    Calls Tryd.prog 18 #[.string s] w fun e w' => e = .returned (.tuple #[.agg #[.int .i64 a, .int .i64 b, .int .i64 c, .int .i64 x, .int .i64 y, .int .i64 z], .nilIface]) ∧ Below w.heap.size w w' := by
  go_enter Tryd.func18, Tryd.ntmps18
  go_wp2_with fail
  refine (cut2_is _ _ hs (hm.on (by repeat (first | (with_reducible exact Below.refl _ _) | (with_reducible refine Below.drew ?_) | (with_reducible refine below_drewN ?_ _) | (with_reducible refine below_new ?_ _) | ((with_reducible refine below_put ?_ ?_ _); rotate_left; focus (first | (simp; done) | (simp; omega) | omega)) | (with_reducible refine below_over ?_ (by assumption)))))).mono ?_; rintro e w' ⟨A, B, f, n, hA, hB, hA2, hB2, rfl, rfl⟩
  have HA : Hid (A.data.toList = l1) := hA.trans hl1.out.symm
  have HB : Hid (B.data.toList = l2) := hB.trans hl2.out.symm
  clear hA hB
  go_wp2_with fail
  refine (parse_rv _ _ _ _ _ _ (by omega) HA RA).mono ?_; rintro e w1 ⟨rfl, hb1⟩
  obtain ⟨hc1, hf1⟩ := bcell hb1
  have g1_0 : w.heap.size < w1.heap.size := by have := hb1.size; (try simp at this); omega
  go_wp2_with fail
  refine (parse_rv _ _ _ _ _ _ (by omega) HB RB).mono ?_; rintro e w2 ⟨rfl, hb2⟩
  obtain ⟨hc2, hf2⟩ := bcell hb2
  have g2_0 : w.heap.size < w2.heap.size := by have := hb2.size; (try simp at this); omega
  have g2_1 : w1.heap.size < w2.heap.size := by have := hb2.size; (try simp at this); omega
  go_wp2_with fail
  refine (mayRange_any _ _ _ _ _ _ _).mono ?_; rintro e w3 ⟨rfl, hb3⟩; rw [H3.out]
  obtain ⟨hc3, hf3⟩ := bcell hb3
  have g3_0 : w.heap.size < w3.heap.size := by have := hb3.size; (try simp at this); omega
  have g3_1 : w1.heap.size < w3.heap.size := by have := hb3.size; (try simp at this); omega
  have g3_2 : w2.heap.size < w3.heap.size := by have := hb3.size; (try simp at this); omega
  have hx : Below (w.alloc (.cells #[.int .i64 0, .int .i64 0, .int .i64 0, .int .i64 0, .int .i64 0, .int .i64 0] 38)).heap.size (w.alloc (.cells #[.int .i64 0, .int .i64 0, .int .i64 0, .int .i64 0, .int .i64 0, .int .i64 0] 38)) w3 := by repeat (first | (with_reducible exact Below.refl _ _) | (with_reducible refine Below.drew ?_) | (with_reducible refine below_drewN ?_ _) | (with_reducible refine below_new ?_ _) | ((with_reducible refine below_put ?_ ?_ _); rotate_left; focus (first | (simp; done) | (simp; omega) | omega)) | (with_reducible refine below_over ?_ (by assumption)))
  have k0 : w3.cell? ⟨w.heap.size, 0, none⟩ = some (.int .i64 0) := (hx.cell (p := ⟨w.heap.size, 0, none⟩) (by simp)).trans (by go_simp)
  have m0 : w3.frozen? ⟨w.heap.size, 0, none⟩ = false := (hx.frozen (p := ⟨w.heap.size, 0, none⟩) (by simp)).trans (by go_simp)
  have k1 : w3.cell? ⟨w.heap.size, 1, none⟩ = some (.int .i64 0) := (hx.cell (p := ⟨w.heap.size, 1, none⟩) (by simp)).trans (by go_simp)
  have m1 : w3.frozen? ⟨w.heap.size, 1, none⟩ = false := (hx.frozen (p := ⟨w.heap.size, 1, none⟩) (by simp)).trans (by go_simp)
  have k2 : w3.cell? ⟨w.heap.size, 2, none⟩ = some (.int .i64 0) := (hx.cell (p := ⟨w.heap.size, 2, none⟩) (by simp)).trans (by go_simp)
  have m2 : w3.frozen? ⟨w.heap.size, 2, none⟩ = false := (hx.frozen (p := ⟨w.heap.size, 2, none⟩) (by simp)).trans (by go_simp)
  have k3 : w3.cell? ⟨w.heap.size, 3, none⟩ = some (.int .i64 0) := (hx.cell (p := ⟨w.heap.size, 3, none⟩) (by simp)).trans (by go_simp)
  have m3 : w3.frozen? ⟨w.heap.size, 3, none⟩ = false := (hx.frozen (p := ⟨w.heap.size, 3, none⟩) (by simp)).trans (by go_simp)
  have k4 : w3.cell? ⟨w.heap.size, 4, none⟩ = some (.int .i64 0) := (hx.cell (p := ⟨w.heap.size, 4, none⟩) (by simp)).trans (by go_simp)
  have m4 : w3.frozen? ⟨w.heap.size, 4, none⟩ = false := (hx.frozen (p := ⟨w.heap.size, 4, none⟩) (by simp)).trans (by go_simp)
  have k5 : w3.cell? ⟨w.heap.size, 5, none⟩ = some (.int .i64 0) := (hx.cell (p := ⟨w.heap.size, 5, none⟩) (by simp)).trans (by go_simp)
  have m5 : w3.frozen? ⟨w.heap.size, 5, none⟩ = false := (hx.frozen (p := ⟨w.heap.size, 5, none⟩) (by simp)).trans (by go_simp)
  go_wp2
  refine ret_agg (vs := [.int .i64 a, .int .i64 b, .int .i64 c, .int .i64 x, .int .i64 y, .int .i64 z]) (x := .nilIface) Tryd.results18 rfl rfl Tryd.underlying38 rngSize (six_cells ?_ ?_ ?_ ?_ ?_ ?_) rfl ⟨rfl, ?_⟩
  iterate 6 (go_simp)
  repeat (first | (with_reducible exact Below.refl _ _) | (with_reducible refine Below.drew ?_) | (with_reducible refine below_drewN ?_ _) | (with_reducible refine below_new ?_ _) | ((with_reducible refine below_put ?_ ?_ _); rotate_left; focus (first | (simp; done) | (simp; omega) | omega)) | (with_reducible refine below_over ?_ (by assumption)))

set_option maxHeartbeats 4000000 in
theorem parseRange_no1 (s : ByteArray) (l1 l2 : List UInt8) (w : World) (hs : s.size < 4294967281) (hm : MaxL w) (hl1 : Hid (l1 = (Lib.cut s.data.toList [46, 46]).1)) (hl2 : Hid (l2 = (Lib.cut s.data.toList [46, 46]).2.1)) (RA : NV l1) :
    Calls Tryd.prog 18 #[.string s] w fun e w' => e = .returned (.tuple #[.agg #[.int .i64 0, .int .i64 0, .int .i64 0, .int .i64 0, .int .i64 0, .int .i64 0], .iface 31 (.int .i64 2)]) ∧ Below w.heap.size w w' := by
  go_enter Tryd.func18, Tryd.ntmps18
  go_wp2_with fail
  refine (cut2_is _ _ hs (hm.on (by repeat (first | (with_reducible exact Below.refl _ _) | (with_reducible refine Below.drew ?_) | (with_reducible refine below_drewN ?_ _) | (with_reducible refine below_new ?_ _) | ((with_reducible refine below_put ?_ ?_ _); rotate_left; focus (first | (simp; done) | (simp; omega) | omega)) | (with_reducible refine below_over ?_ (by assumption)))))).mono ?_; rintro e w' ⟨A, B, f, n, hA, hB, hA2, hB2, rfl, rfl⟩
  have HA : Hid (A.data.toList = l1) := hA.trans hl1.out.symm
  have HB : Hid (B.data.toList = l2) := hB.trans hl2.out.symm
  clear hA hB
  go_wp2_with fail
  refine (parse_nv _ _ _ (by omega) HA RA).mono ?_; rintro e w1 ⟨rfl, hb1⟩
  obtain ⟨hc1, hf1⟩ := bcell hb1
  have g1_0 : w.heap.size < w1.heap.size := by have := hb1.size; (try simp at this); omega
  have hx : Below (w.alloc (.cells #[.int .i64 0, .int .i64 0, .int .i64 0, .int .i64 0, .int .i64 0, .int .i64 0] 38)).heap.size (w.alloc (.cells #[.int .i64 0, .int .i64 0, .int .i64 0, .int .i64 0, .int .i64 0, .int .i64 0] 38)) w1 := by repeat (first | (with_reducible exact Below.refl _ _) | (with_reducible refine Below.drew ?_) | (with_reducible refine below_drewN ?_ _) | (with_reducible refine below_new ?_ _) | ((with_reducible refine below_put ?_ ?_ _); rotate_left; focus (first | (simp; done) | (simp; omega) | omega)) | (with_reducible refine below_over ?_ (by assumption)))
  have k0 : w1.cell? ⟨w.heap.size, 0, none⟩ = some (.int .i64 0) := (hx.cell (p := ⟨w.heap.size, 0, none⟩) (by simp)).trans (by go_simp)
  have m0 : w1.frozen? ⟨w.heap.size, 0, none⟩ = false := (hx.frozen (p := ⟨w.heap.size, 0, none⟩) (by simp)).trans (by go_simp)
  have k1 : w1.cell? ⟨w.heap.size, 1, none⟩ = some (.int .i64 0) := (hx.cell (p := ⟨w.heap.size, 1, none⟩) (by simp)).trans (by go_simp)
  have m1 : w1.frozen? ⟨w.heap.size, 1, none⟩ = false := (hx.frozen (p := ⟨w.heap.size, 1, none⟩) (by simp)).trans (by go_simp)
  have k2 : w1.cell? ⟨w.heap.size, 2, none⟩ = some (.int .i64 0) := (hx.cell (p := ⟨w.heap.size, 2, none⟩) (by simp)).trans (by go_simp)
  have m2 : w1.frozen? ⟨w.heap.size, 2, none⟩ = false := (hx.frozen (p := ⟨w.heap.size, 2, none⟩) (by simp)).trans (by go_simp)
  have k3 : w1.cell? ⟨w.heap.size, 3, none⟩ = some (.int .i64 0) := (hx.cell (p := ⟨w.heap.size, 3, none⟩) (by simp)).trans (by go_simp)
  have m3 : w1.frozen? ⟨w.heap.size, 3, none⟩ = false := (hx.frozen (p := ⟨w.heap.size, 3, none⟩) (by simp)).trans (by go_simp)
  have k4 : w1.cell? ⟨w.heap.size, 4, none⟩ = some (.int .i64 0) := (hx.cell (p := ⟨w.heap.size, 4, none⟩) (by simp)).trans (by go_simp)
  have m4 : w1.frozen? ⟨w.heap.size, 4, none⟩ = false := (hx.frozen (p := ⟨w.heap.size, 4, none⟩) (by simp)).trans (by go_simp)
  have k5 : w1.cell? ⟨w.heap.size, 5, none⟩ = some (.int .i64 0) := (hx.cell (p := ⟨w.heap.size, 5, none⟩) (by simp)).trans (by go_simp)
  have m5 : w1.frozen? ⟨w.heap.size, 5, none⟩ = false := (hx.frozen (p := ⟨w.heap.size, 5, none⟩) (by simp)).trans (by go_simp)
  go_wp2
  refine ret_agg (vs := [.int .i64 0, .int .i64 0, .int .i64 0, .int .i64 0, .int .i64 0, .int .i64 0]) (x := .iface 31 (.int .i64 2)) Tryd.results18 rfl rfl Tryd.underlying38 rngSize (six_cells ?_ ?_ ?_ ?_ ?_ ?_) rfl ⟨rfl, ?_⟩
  iterate 6 (go_simp)
  repeat (first | (with_reducible exact Below.refl _ _) | (with_reducible refine Below.drew ?_) | (with_reducible refine below_drewN ?_ _) | (with_reducible refine below_new ?_ _) | ((with_reducible refine below_put ?_ ?_ _); rotate_left; focus (first | (simp; done) | (simp; omega) | omega)) | (with_reducible refine below_over ?_ (by assumption)))

set_option maxHeartbeats 4000000 in
theorem parseRange_no2 (s : ByteArray) (l1 l2 : List UInt8) (a b c : Int) (w : World) (hs : s.size < 4294967281) (hm : MaxL w) (hl1 : Hid (l1 = (Lib.cut s.data.toList [46, 46]).1)) (hl2 : Hid (l2 = (Lib.cut s.data.toList [46, 46]).2.1)) (RA : RV l1 a b c) (RB : NV l2) :
    Calls Tryd.prog 18 #[.string s] w fun e w' => e = .returned (.tuple #[.agg #[.int .i64 0, .int .i64 0, .int .i64 0, .int .i64 0, .int .i64 0, .int .i64 0], .iface 31 (.int .i64 2)]) ∧ Below w.heap.size w w' := by
  go_enter Tryd.func18, Tryd.ntmps18
  go_wp2_with fail
  refine (cut2_is _ _ hs (hm.on (by repeat (first | (with_reducible exact Below.refl _ _) | (with_reducible refine Below.drew ?_) | (with_reducible refine below_drewN ?_ _) | (with_reducible refine below_new ?_ _) | ((with_reducible refine below_put ?_ ?_ _); rotate_left; focus (first | (simp; done) | (simp; omega) | omega)) | (with_reducible refine below_over ?_ (by assumption)))))).mono ?_; rintro e w' ⟨A, B, f, n, hA, hB, hA2, hB2, rfl, rfl⟩
  have HA : Hid (A.data.toList = l1) := hA.trans hl1.out.symm
  have HB : Hid (B.data.toList = l2) := hB.trans hl2.out.symm
  clear hA hB
  go_wp2_with fail
  refine (parse_rv _ _ _ _ _ _ (by omega) HA RA).mono ?_; rintro e w1 ⟨rfl, hb1⟩
  obtain ⟨hc1, hf1⟩ := bcell hb1
  have g1_0 : w.heap.size < w1.heap.size := by have := hb1.size; (try simp at this); omega
  go_wp2_with fail
  refine (parse_nv _ _ _ (by omega) HB RB).mono ?_; rintro e w2 ⟨rfl, hb2⟩
  obtain ⟨hc2, hf2⟩ := bcell hb2
  have g2_0 : w.heap.size < w2.heap.size := by have := hb2.size; (try simp at this); omega
  have g2_1 : w1.heap.size < w2.heap.size := by have := hb2.size; (try simp at this); omega
  have hx : Below (w.alloc (.cells #[.int .i64 0, .int .i64 0, .int .i64 0, .int .i64 0, .int .i64 0, .int .i64 0] 38)).heap.size (w.alloc (.cells #[.int .i64 0, .int .i64 0, .int .i64 0, .int .i64 0, .int .i64 0, .int .i64 0] 38)) w2 := by repeat (first | (with_reducible exact Below.refl _ _) | (with_reducible refine Below.drew ?_) | (with_reducible refine below_drewN ?_ _) | (with_reducible refine below_new ?_ _) | ((with_reducible refine below_put ?_ ?_ _); rotate_left; focus (first | (simp; done) | (simp; omega) | omega)) | (with_reducible refine below_over ?_ (by assumption)))
  have k0 : w2.cell? ⟨w.heap.size, 0, none⟩ = some (.int .i64 0) := (hx.cell (p := ⟨w.heap.size, 0, none⟩) (by simp)).trans (by go_simp)
  have m0 : w2.frozen? ⟨w.heap.size, 0, none⟩ = false := (hx.frozen (p := ⟨w.heap.size, 0, none⟩) (by simp)).trans (by go_simp)
  have k1 : w2.cell? ⟨w.heap.size, 1, none⟩ = some (.int .i64 0) := (hx.cell (p := ⟨w.heap.size, 1, none⟩) (by simp)).trans (by go_simp)
  have m1 : w2.frozen? ⟨w.heap.size, 1, none⟩ = false := (hx.frozen (p := ⟨w.heap.size, 1, none⟩) (by simp)).trans (by go_simp)
  have k2 : w2.cell? ⟨w.heap.size, 2, none⟩ = some (.int .i64 0) := (hx.cell (p := ⟨w.heap.size, 2, none⟩) (by simp)).trans (by go_simp)
  have m2 : w2.frozen? ⟨w.heap.size, 2, none⟩ = false := (hx.frozen (p := ⟨w.heap.size, 2, none⟩) (by simp)).trans (by go_simp)
  have k3 : w2.cell? ⟨w.heap.size, 3, none⟩ = some (.int .i64 0) := (hx.cell (p := ⟨w.heap.size, 3, none⟩) (by simp)).trans (by go_simp)
  have m3 : w2.frozen? ⟨w.heap.size, 3, none⟩ = false := (hx.frozen (p := ⟨w.heap.size, 3, none⟩) (by simp)).trans (by go_simp)
  have k4 : w2.cell? ⟨w.heap.size, 4, none⟩ = some (.int .i64 0) := (hx.cell (p := ⟨w.heap.size, 4, none⟩) (by simp)).trans (by go_simp)
  have m4 : w2.frozen? ⟨w.heap.size, 4, none⟩ = false := (hx.frozen (p := ⟨w.heap.size, 4, none⟩) (by simp)).trans (by go_simp)
  have k5 : w2.cell? ⟨w.heap.size, 5, none⟩ = some (.int .i64 0) := (hx.cell (p := ⟨w.heap.size, 5, none⟩) (by simp)).trans (by go_simp)
  have m5 : w2.frozen? ⟨w.heap.size, 5, none⟩ = false := (hx.frozen (p := ⟨w.heap.size, 5, none⟩) (by simp)).trans (by go_simp)
  go_wp2
  refine ret_agg (vs := [.int .i64 0, .int .i64 0, .int .i64 0, .int .i64 0, .int .i64 0, .int .i64 0]) (x := .iface 31 (.int .i64 2)) Tryd.results18 rfl rfl Tryd.underlying38 rngSize (six_cells ?_ ?_ ?_ ?_ ?_ ?_) rfl ⟨rfl, ?_⟩
  iterate 6 (go_simp)
  repeat (first | (with_reducible exact Below.refl _ _) | (with_reducible refine Below.drew ?_) | (with_reducible refine below_drewN ?_ _) | (with_reducible refine below_new ?_ _) | ((with_reducible refine below_put ?_ ?_ _); rotate_left; focus (first | (simp; done) | (simp; omega) | omega)) | (with_reducible refine below_over ?_ (by assumption)))

set_option maxHeartbeats 4000000 in
theorem parseRange_no3 (s : ByteArray) (l1 l2 : List UInt8) (a b c x y z : Int) (w : World) (hs : s.size < 4294967281) (hm : MaxL w) (hl1 : Hid (l1 = (Lib.cut s.data.toList [46, 46]).1)) (hl2 : Hid (l2 = (Lib.cut s.data.toList [46, 46]).2.1)) (RA : RV l1 a b c) (RB : RV l2 x y z) (H3 : Hid (okRng a b c x y z = false)) :
    Calls Tryd.prog 18 #[.string s] w fun e w' => e = .returned (.tuple #[.agg #[.int .i64 0, .int .i64 0, .int .i64 0, .int .i64 0, .int .i64 0, .int .i64 0], .iface 31 (.int .i64 2)]) ∧ Below w.heap.size w w' := by
  go_enter Tryd.func18, Tryd.ntmps18
  go_wp2_with fail
  refine (cut2_is _ _ hs (hm.on (by repeat (first | (with_reducible exact Below.refl _ _) | (with_reducible refine Below.drew ?_) | (with_reducible refine below_drewN ?_ _) | (with_reducible refine below_new ?_ _) | ((with_reducible refine below_put ?_ ?_ _); rotate_left; focus (first | (simp; done) | (simp; omega) | omega)) | (with_reducible refine below_over ?_ (by assumption)))))).mono ?_; rintro e w' ⟨A, B, f, n, hA, hB, hA2, hB2, rfl, rfl⟩
  have HA : Hid (A.data.toList = l1) := hA.trans hl1.out.symm
  have HB : Hid (B.data.toList = l2) := hB.trans hl2.out.symm
  clear hA hB
  go_wp2_with fail
  refine (parse_rv _ _ _ _ _ _ (by omega) HA RA).mono ?_; rintro e w1 ⟨rfl, hb1⟩
  obtain ⟨hc1, hf1⟩ := bcell hb1
  have g1_0 : w.heap.size < w1.heap.size := by have := hb1.size; (try simp at this); omega
  go_wp2_with fail
  refine (parse_rv _ _ _ _ _ _ (by omega) HB RB).mono ?_; rintro e w2 ⟨rfl, hb2⟩
  obtain ⟨hc2, hf2⟩ := bcell hb2
  have g2_0 : w.heap.size < w2.heap.size := by have := hb2.size; (try simp at this); omega
  have g2_1 : w1.heap.size < w2.heap.size := by have := hb2.size; (try simp at this); omega
  go_wp2_with fail
  refine (mayRange_any _ _ _ _ _ _ _).mono ?_; rintro e w3 ⟨rfl, hb3⟩; rw [H3.out]
  obtain ⟨hc3, hf3⟩ := bcell hb3
  have g3_0 : w.heap.size < w3.heap.size := by have := hb3.size; (try simp at this); omega
  have g3_1 : w1.heap.size < w3.heap.size := by have := hb3.size; (try simp at this); omega
  have g3_2 : w2.heap.size < w3.heap.size := by have := hb3.size; (try simp at this); omega
  have hx : Below (w.alloc (.cells #[.int .i64 0, .int .i64 0, .int .i64 0, .int .i64 0, .int .i64 0, .int .i64 0] 38)).heap.size (w.alloc (.cells #[.int .i64 0, .int .i64 0, .int .i64 0, .int .i64 0, .int .i64 0, .int .i64 0] 38)) w3 := by repeat (first | (with_reducible exact Below.refl _ _) | (with_reducible refine Below.drew ?_) | (with_reducible refine below_drewN ?_ _) | (with_reducible refine below_new ?_ _) | ((with_reducible refine below_put ?_ ?_ _); rotate_left; focus (first | (simp; done) | (simp; omega) | omega)) | (with_reducible refine below_over ?_ (by assumption)))
  have k0 : w3.cell? ⟨w.heap.size, 0, none⟩ = some (.int .i64 0) := (hx.cell (p := ⟨w.heap.size, 0, none⟩) (by simp)).trans (by go_simp)
  have m0 : w3.frozen? ⟨w.heap.size, 0, none⟩ = false := (hx.frozen (p := ⟨w.heap.size, 0, none⟩) (by simp)).trans (by go_simp)
  have k1 : w3.cell? ⟨w.heap.size, 1, none⟩ = some (.int .i64 0) := (hx.cell (p := ⟨w.heap.size, 1, none⟩) (by simp)).trans (by go_simp)
  have m1 : w3.frozen? ⟨w.heap.size, 1, none⟩ = false := (hx.frozen (p := ⟨w.heap.size, 1, none⟩) (by simp)).trans (by go_simp)
  have k2 : w3.cell? ⟨w.heap.size, 2, none⟩ = some (.int .i64 0) := (hx.cell (p := ⟨w.heap.size, 2, none⟩) (by simp)).trans (by go_simp)
  have m2 : w3.frozen? ⟨w.heap.size, 2, none⟩ = false := (hx.frozen (p := ⟨w.heap.size, 2, none⟩) (by simp)).trans (by go_simp)
  have k3 : w3.cell? ⟨w.heap.size, 3, none⟩ = some (.int .i64 0) := (hx.cell (p := ⟨w.heap.size, 3, none⟩) (by simp)).trans (by go_simp)
  have m3 : w3.frozen? ⟨w.heap.size, 3, none⟩ = false := (hx.frozen (p := ⟨w.heap.size, 3, none⟩) (by simp)).trans (by go_simp)
  have k4 : w3.cell? ⟨w.heap.size, 4, none⟩ = some (.int .i64 0) := (hx.cell (p := ⟨w.heap.size, 4, none⟩) (by simp)).trans (by go_simp)
  have m4 : w3.frozen? ⟨w.heap.size, 4, none⟩ = false := (hx.frozen (p := ⟨w.heap.size, 4, none⟩) (by simp)).trans (by go_simp)
  have k5 : w3.cell? ⟨w.heap.size, 5, none⟩ = some (.int .i64 0) := (hx.cell (p := ⟨w.heap.size, 5, none⟩) (by simp)).trans (by go_simp)
  have m5 : w3.frozen? ⟨w.heap.size, 5, none⟩ = false := (hx.frozen (p := ⟨w.heap.size, 5, none⟩) (by simp)).trans (by go_simp)
  go_wp2
  refine ret_agg (vs := [.int .i64 0, .int .i64 0, .int .i64 0, .int .i64 0, .int .i64 0, .int .i64 0]) (x := .iface 31 (.int .i64 2)) Tryd.results18 rfl rfl Tryd.underlying38 rngSize (six_cells ?_ ?_ ?_ ?_ ?_ ?_) rfl ⟨rfl, ?_⟩
  iterate 6 (go_simp)
  repeat (first | (with_reducible exact Below.refl _ _) | (with_reducible refine Below.drew ?_) | (with_reducible refine below_drewN ?_ _) | (with_reducible refine below_new ?_ _) | ((with_reducible refine below_put ?_ ?_ _); rotate_left; focus (first | (simp; done) | (simp; omega) | omega)) | (with_reducible refine below_over ?_ (by assumption)))

end Go.Proofs.YtihaggghmanamaaDoor
