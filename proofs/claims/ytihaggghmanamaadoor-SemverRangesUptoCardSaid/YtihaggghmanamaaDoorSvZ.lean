/-
  ParseRange at two texts with two points between; the version's and the range's boxes.
-/
import Derived.Test.YtihaggghmanamaaDoorSvY
import Derived.Deep.DeepCutAuto
import Derived.Lib.QuietBelow
import Derived.BigQuiet
namespace Go.Proofs.YtihaggghmanamaaDoor
open Go.RowKit

theorem join_list (s1 s2 : ByteArray) : (s1 ++ ⟨#[46, 46]⟩ ++ s2).data.toList = s1.data.toList ++ 46 :: 46 :: s2.data.toList := by
  simp [ByteArray.data_append]
theorem join_size (s1 s2 : ByteArray) : (s1 ++ ⟨#[46, 46]⟩ ++ s2).size = s1.size + 2 + s2.size := by
  simp [ByteArray.size_append]; rfl

theorem pr_good (s1 s2 : ByteArray) (a b c x y z : Int) (w : World) (hs : s1.size + s2.size ≤ 1048576) (hm : MaxL w) (RA : RV s1.data.toList a b c) (RB : RV s2.data.toList x y z) (H3 : Hid (okRng a b c x y z = true)) :
    Calls Tryd.prog 18 #[.string (s1 ++ ⟨#[46, 46]⟩ ++ s2)] w fun e w' => e = .returned (.tuple #[.agg #[.int .i64 a, .int .i64 b, .int .i64 c, .int .i64 x, .int .i64 y, .int .i64 z], .nilIface]) ∧ Below w.heap.size w w' := by
  have e1 := (rv_vt RA).1
  have hc := M.cut_vt a b c s2.data.toList
  rw [← e1, ← join_list] at hc
  exact parseRange_yes _ _ _ a b c x y z w (by rw [join_size]; omega) hm hc.1.symm hc.2.symm RA RB H3
theorem pr_bad (s1 s2 : ByteArray) (w : World) (hs : s1.size + s2.size ≤ 1048576) (hm : MaxL w) (h : NV s1.data.toList ∨ NV s2.data.toList ∨ ∃ a b c x y z, RV s1.data.toList a b c ∧ RV s2.data.toList x y z ∧ okRng a b c x y z = false) :
    Calls Tryd.prog 18 #[.string (s1 ++ ⟨#[46, 46]⟩ ++ s2)] w fun e w' => e = .returned (.tuple #[.agg #[.int .i64 0, .int .i64 0, .int .i64 0, .int .i64 0, .int .i64 0, .int .i64 0], .iface 31 (.int .i64 2)]) ∧ Below w.heap.size w w' := by
  have hz : (s1 ++ ⟨#[46, 46]⟩ ++ s2).size < 4294967281 := by rw [join_size]; omega
  rcases rv_or (Lib.cut (s1 ++ ⟨#[46, 46]⟩ ++ s2).data.toList [46, 46]).1 with n1 | ⟨a, b, c, r1⟩
  · exact parseRange_no1 _ _ _ w hz hm rfl rfl n1
  · rcases rv_or (Lib.cut (s1 ++ ⟨#[46, 46]⟩ ++ s2).data.toList [46, 46]).2.1 with n2 | ⟨x, y, z, r2⟩
    · exact parseRange_no2 _ _ _ a b c w hz hm rfl rfl r1 n2
    · obtain ⟨e1, e2⟩ := M.cut_back s1.data.toList s2.data.toList a b c x y z (by rw [← join_list]; exact (rv_vt r1).1) (by rw [← join_list]; exact (rv_vt r2).1)
      have k1 := vt_rv (rv_vt r1).2
      have k2 := vt_rv (rv_vt r2).2
      rw [← e1] at k1
      rw [← e2] at k2
      refine parseRange_no3 _ _ _ a b c x y z w hz hm rfl rfl r1 r2 ?_
      rcases h with h | h | ⟨a', b', c', x', y', z', h1, h2, h3⟩
      · unfold NV at h; rw [k1.1] at h; cases h
      · unfold NV at h; rw [k2.1] at h; cases h
      · obtain ⟨_, rfl, rfl, rfl⟩ := h1
        obtain ⟨_, rfl, rfl, rfl⟩ := h2
        obtain ⟨_, rfl, rfl, rfl⟩ := k1
        obtain ⟨_, rfl, rfl, rfl⟩ := k2
        exact h3

/-- What the law's regions stand on: the range's box at block k, the version's at the next, and the table. -/
structure T9 (k : Nat) (a b c x y z p q r : Int) (W0 w' : World) : Prop where
  below : Below W0.heap.size W0 w'
  lt : k + 1 < W0.heap.size
  c0 : W0.cell? ⟨k, 0, none⟩ = some (.int .i64 a)
  c1 : W0.cell? ⟨k, 1, none⟩ = some (.int .i64 b)
  c2 : W0.cell? ⟨k, 2, none⟩ = some (.int .i64 c)
  c3 : W0.cell? ⟨k, 3, none⟩ = some (.int .i64 x)
  c4 : W0.cell? ⟨k, 4, none⟩ = some (.int .i64 y)
  c5 : W0.cell? ⟨k, 5, none⟩ = some (.int .i64 z)
  d0 : W0.cell? ⟨k + 1, 0, none⟩ = some (.int .i64 p)
  d1 : W0.cell? ⟨k + 1, 1, none⟩ = some (.int .i64 q)
  d2 : W0.cell? ⟨k + 1, 2, none⟩ = some (.int .i64 r)
  pow : Pow W0
section
variable {k : Nat} {a b c x y z p q r : Int} {W0 w' w'' : World}
theorem T9.all (h : T9 k a b c x y z p q r W0 w') :
    w'.cell? ⟨k, 0, none⟩ = some (.int .i64 a) ∧ w'.cell? ⟨k, 1, none⟩ = some (.int .i64 b) ∧ w'.cell? ⟨k, 2, none⟩ = some (.int .i64 c) ∧ w'.cell? ⟨k, 3, none⟩ = some (.int .i64 x) ∧ w'.cell? ⟨k, 4, none⟩ = some (.int .i64 y) ∧ w'.cell? ⟨k, 5, none⟩ = some (.int .i64 z) ∧ w'.cell? ⟨k + 1, 0, none⟩ = some (.int .i64 p) ∧ w'.cell? ⟨k + 1, 1, none⟩ = some (.int .i64 q) ∧ w'.cell? ⟨k + 1, 2, none⟩ = some (.int .i64 r) ∧ T9 k a b c x y z p q r W0 w' := by
  have l0 : k < W0.heap.size := Nat.lt_of_succ_lt h.lt
  exact ⟨(h.below.cell (p := ⟨k, 0, none⟩) l0).trans h.c0, (h.below.cell (p := ⟨k, 1, none⟩) l0).trans h.c1, (h.below.cell (p := ⟨k, 2, none⟩) l0).trans h.c2, (h.below.cell (p := ⟨k, 3, none⟩) l0).trans h.c3, (h.below.cell (p := ⟨k, 4, none⟩) l0).trans h.c4, (h.below.cell (p := ⟨k, 5, none⟩) l0).trans h.c5,
    (h.below.cell (p := ⟨k + 1, 0, none⟩) h.lt).trans h.d0, (h.below.cell (p := ⟨k + 1, 1, none⟩) h.lt).trans h.d1, (h.below.cell (p := ⟨k + 1, 2, none⟩) h.lt).trans h.d2, h⟩
theorem T9.drew (h : T9 k a b c x y z p q r W0 w') : T9 k a b c x y z p q r W0 w'.drew := { h with below := h.below.drew }
theorem T9.on (h : T9 k a b c x y z p q r W0 w') (hb : Below w'.heap.size w' w'') : T9 k a b c x y z p q r W0 w'' := { h with below := below_over h.below hb }
theorem T9.powAt (h : T9 k a b c x y z p q r W0 w') : Pow w' := h.pow.on h.below
end
theorem mayRange_is (a b c x y z : Int) (v : Bool) (w : World) (h : Hid (okRng a b c x y z = v)) :
    Calls Tryd.prog 15 #[.agg #[.int .i64 a, .int .i64 b, .int .i64 c, .int .i64 x, .int .i64 y, .int .i64 z]] w fun e w' => e = .returned (.bool v) ∧ Below w.heap.size w w' := by
  have e := h.out; subst e; exact mayRange_any _ _ _ _ _ _ _
theorem in_is (a b c x y z p q r : Int) (v : Bool) (w : World) (h : Hid (inRng a b c x y z p q r = v)) :
    Calls Tryd.prog 16 #[.agg #[.int .i64 a, .int .i64 b, .int .i64 c, .int .i64 x, .int .i64 y, .int .i64 z], .agg #[.int .i64 p, .int .i64 q, .int .i64 r]] w fun e w' => e = .returned (.bool v) ∧ Below w.heap.size w w' := by
  have e := h.out; subst e; exact in_any _ _ _ _ _ _ _ _ _ _
theorem refIn_is (a b c x y z p q r : Int) (v : Bool) (w : World) (h : Hid (inRng a b c x y z p q r = v)) :
    Calls Tryd.prog 17 #[.agg #[.int .i64 a, .int .i64 b, .int .i64 c, .int .i64 x, .int .i64 y, .int .i64 z], .agg #[.int .i64 p, .int .i64 q, .int .i64 r]] w fun e w' => e = .returned (.bool v) ∧ Below w.heap.size w w' := by
  have e := h.out; subst e; exact refIn_any _ _ _ _ _ _ _ _ _ _
theorem printRange_is (a b c x y z : Int) (w : World) (h : okRng a b c x y z = true) (hp : Pow w) :
    Calls Tryd.prog 13 #[.agg #[.int .i64 a, .int .i64 b, .int .i64 c, .int .i64 x, .int .i64 y, .int .i64 z]] w fun e w' => e = .returned (.tuple #[.string (verText a b c ++ ⟨#[46, 46]⟩ ++ verText x y z), .nilIface]) ∧ Below w.heap.size w w' :=
  printRange_yes a b c x y z w h hp

end Go.Proofs.YtihaggghmanamaaDoor
