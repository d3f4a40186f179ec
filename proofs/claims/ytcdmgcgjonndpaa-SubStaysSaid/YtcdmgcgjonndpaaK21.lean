/-
  Several texts in one:  ·  ·  ·  · 
-/
import Derived.Test.YtcdmgcgjonndpaaK19
import Derived.Test.YtcdmgcgjonndpaaK05
import Derived.Test.YtcdmgcgjonndpaaK04
import Derived.Test.YtcdmgcgjonndpaaK20
import Derived.Test.YtcdmgcgjonndpaaK07
import Derived.Below
import Derived.Carry
import Derived.ChangeSame
import Derived.WideKeyArgs
import Derived.ProofKit
import Derived.Test.YtcdmgcgjonndpaaRows
import Derived.Lib.SmallJoins
import Derived.OpenShut
/-  -/
namespace Go.Proofs.Ytcdmgcgjonndpaa
open Go Go.RowKit Go.Shelf
open Go.Sort
open M
def lfT (k : Int) : Ty := .mk k ⟨#[]⟩ 0 ⟨#[]⟩ ⟨#[]⟩ [] []
def upA9 : Ty := .mk 5 ⟨#[]⟩ 0 ⟨#[]⟩ ⟨#[]⟩ [⟨#[97]⟩, ⟨#[98]⟩] [lfT 1, lfT 2]
def upB9 : Ty := .mk 5 ⟨#[]⟩ 0 ⟨#[]⟩ ⟨#[]⟩ [⟨#[97]⟩] [lfT 1]
theorem lf_at (w : World) (k : Int) : TyAt w [.int .i64 k, .string ⟨#[]⟩, .int .i64 0, .string ⟨#[]⟩, .string ⟨#[]⟩, .slice none 0 0, .slice none 0 0] (lfT k) := ty_made (t := lfT k) (by show (0 : Nat) ≤ _; decide) (by show (0 : Nat) ≤ _; decide) (by show (0 : Nat) ≤ _; decide) (by show (0 : Nat) ≤ _; decide) (by show (0 : Nat) ≤ _; decide) (by show (0 : Nat) ≤ _; decide) (fun i s h => by simp [lfT, Ty.names] at h) (fun i s h => by simp [lfT, Ty.subs] at h)
theorem upA9_ok : okT upA9 = true := by decide +kernel
theorem upB9_ok : okT upB9 = true := by decide +kernel
theorem upB9_may : mayT upB9 = true := by decide +kernel
theorem zTy_not : okT zTy = false := by decide +kernel
theorem up9_le : SubR upA9 upB9 := (le_loses (up := true) (a := upA9) (b := upB9) (.inl ⟨rfl, rfl⟩)).2 ⟨rfl, fun s y hy => by
  obtain ⟨i, h1, h2⟩ := hy
  have hi : i = 0 := by have := (List.getElem?_eq_some_iff.1 h1).1; simp [upB9, Ty.names] at this; exact this
  subst hi
  exact ⟨y, ⟨0, h1, h2⟩, le_refl true y⟩⟩
theorem up9_not : ¬ SubR upB9 upA9 := fun h => by
  obtain ⟨x, hx, -⟩ := ((le_loses (up := true) (a := upB9) (b := upA9) (.inl ⟨rfl, rfl⟩)).1 h).2 ⟨#[98]⟩ (lfT 2) ⟨1, rfl, rfl⟩
  have := hx.name
  simp [upB9, Ty.names] at this
theorem up9_bnd : IsBnd true upA9 upB9 upB9 := bnd_le (okT_good upB9_ok) up9_le
theorem subP_ok {a b : Ty} : subP a b = (okT a && okT b && subB a b) := rfl
theorem two_names {w : World} {g : Nat} {x y : ByteArray} {T : TypeId} (h : w.heap[g]? = some (.cells #[.string x, .string y] T (0, 0))) (hx : x.size ≤ 9223372036854775807) (hy : y.size ≤ 9223372036854775807) : NamesAt w (some ⟨g, 0, none⟩) [x, y] := fun i s hs => by
  have hg := (Array.getElem?_eq_some_iff.1 h).1
  match i, hs with
  | 0, hs => simp at hs; subst hs; exact ⟨g, 0, rfl, hg, Lib.cell_of_heap h 0, hx⟩
  | 1, hs => simp at hs; subst hs; exact ⟨g, 0, rfl, hg, Lib.cell_of_heap h 1, hy⟩
  | (i + 2), hs => simp at hs
theorem one_name {w : World} {g : Nat} {x : ByteArray} {T : TypeId} (h : w.heap[g]? = some (.cells #[.string x] T (0, 0))) (hx : x.size ≤ 9223372036854775807) : NamesAt w (some ⟨g, 0, none⟩) [x] := fun i s hs => by
  have hg := (Array.getElem?_eq_some_iff.1 h).1
  match i, hs with
  | 0, hs => simp at hs; subst hs; exact ⟨g, 0, rfl, hg, Lib.cell_of_heap h 0, hx⟩
  | (i + 1), hs => simp at hs
theorem row_flat {α : Type} {R : Reads α} {w : World} {g : Nat} {xs : List α} {C : List (List Value)} {T : TypeId} (h : w.heap[g]? = some (.cells C.flatten.toArray T (0, 0))) (hl : ∀ l ∈ C, l.length = R.k) (hC : C.length = xs.length) (hE : ∀ (i : Nat) (l : List Value) (x : α), C[i]? = some l → xs[i]? = some x → R.E w l x) : RowIn R w (some ⟨g, 0, none⟩) xs := fun i x hx => by
  have hi := (List.getElem?_eq_some_iff.1 hx).1
  have hl' : C[i]? = some (C[i]'(by omega)) := List.getElem?_eq_getElem (by omega)
  refine ⟨g, 0, _, rfl, (Array.getElem?_eq_some_iff.1 h).1, fun j v hv => ?_, hE i _ x hl' hx⟩
  have hj := (List.getElem?_eq_some_iff.1 hv).1
  rw [hl _ (List.getElem_mem (by omega))] at hj
  rw [Lib.cell_of_heap h, List.getElem?_toArray, show 0 + i * R.k + j = i * R.k + j by omega, flatk_at C hl i j _ hl' hj]
  exact hv
set_option maxRecDepth 100000 in
set_option maxHeartbeats 16000000 in
theorem up9_any (w : World) : Calls Try.prog 8 #[] w fun e w' => e = .returned (.bool true) ∧ Below w.heap.size w w' := by
  obtain ⟨w1, hw1⟩ : ∃ w1, w1 = w.alloc (.cells #[.string ⟨#[97]⟩, .string ⟨#[98]⟩] 9) := ⟨_, rfl⟩
  obtain ⟨w2, hw2⟩ : ∃ w2, w2 = w1.alloc (.cells #[.int .i64 1, .string ⟨#[]⟩, .int .i64 0, .string ⟨#[]⟩, .string ⟨#[]⟩, .slice none 0 0, .slice none 0 0, .int .i64 2, .string ⟨#[]⟩, .int .i64 0, .string ⟨#[]⟩, .string ⟨#[]⟩, .slice none 0 0, .slice none 0 0] 25) := ⟨_, rfl⟩
  obtain ⟨w3, hw3⟩ : ∃ w3, w3 = w2.alloc (.cells #[.int .i64 5, .string ⟨#[]⟩, .int .i64 0, .string ⟨#[]⟩, .string ⟨#[]⟩, .slice (some ⟨w.heap.size, 0, none⟩) 2 2, .slice (some ⟨w.heap.size + 1, 0, none⟩) 2 2] 25) := ⟨_, rfl⟩
  obtain ⟨w4, hw4⟩ : ∃ w4, w4 = w3.alloc (.cells #[.string ⟨#[97]⟩] 9) := ⟨_, rfl⟩
  obtain ⟨w5, hw5⟩ : ∃ w5, w5 = w4.alloc (.cells #[.int .i64 1, .string ⟨#[]⟩, .int .i64 0, .string ⟨#[]⟩, .string ⟨#[]⟩, .slice none 0 0, .slice none 0 0] 25) := ⟨_, rfl⟩
  obtain ⟨w6, hw6⟩ : ∃ w6, w6 = w5.alloc (.cells #[.int .i64 5, .string ⟨#[]⟩, .int .i64 0, .string ⟨#[]⟩, .string ⟨#[]⟩, .slice (some ⟨w.heap.size + 1 + 1 + 1, 0, none⟩) 1 1, .slice (some ⟨w.heap.size + 1 + 1 + 1 + 1, 0, none⟩) 1 1] 25) := ⟨_, rfl⟩
  have s1 : w1.heap.size = w.heap.size + 1 := by rw [hw1]; simp
  have B1 : Below w.heap.size w w1 := by rw [hw1]; exact below_new (Below.refl _ _) _
  have X1 : w1.heap[w.heap.size]? = some (.cells #[.string ⟨#[97]⟩, .string ⟨#[98]⟩] 9 (0, 0)) := by rw [hw1]; exact heap_alloc_new w _
  have s2 : w2.heap.size = w.heap.size + 1 + 1 := by rw [hw2]; simp [s1]
  have B2 : Below w1.heap.size w1 w2 := by rw [hw2]; exact below_new (Below.refl _ _) _
  have X2 : w2.heap[w.heap.size + 1]? = some (.cells #[.int .i64 1, .string ⟨#[]⟩, .int .i64 0, .string ⟨#[]⟩, .string ⟨#[]⟩, .slice none 0 0, .slice none 0 0, .int .i64 2, .string ⟨#[]⟩, .int .i64 0, .string ⟨#[]⟩, .string ⟨#[]⟩, .slice none 0 0, .slice none 0 0] 25 (0, 0)) := by rw [hw2, ← s1]; exact heap_alloc_new w1 _
  have s3 : w3.heap.size = w.heap.size + 1 + 1 + 1 := by rw [hw3]; simp [s2]
  have B3 : Below w2.heap.size w2 w3 := by rw [hw3]; exact below_new (Below.refl _ _) _
  have X3 : w3.heap[w.heap.size + 1 + 1]? = some (.cells #[.int .i64 5, .string ⟨#[]⟩, .int .i64 0, .string ⟨#[]⟩, .string ⟨#[]⟩, .slice (some ⟨w.heap.size, 0, none⟩) 2 2, .slice (some ⟨w.heap.size + 1, 0, none⟩) 2 2] 25 (0, 0)) := by rw [hw3, ← s2]; exact heap_alloc_new w2 _
  have s4 : w4.heap.size = w.heap.size + 1 + 1 + 1 + 1 := by rw [hw4]; simp [s3]
  have B4 : Below w3.heap.size w3 w4 := by rw [hw4]; exact below_new (Below.refl _ _) _
  have X4 : w4.heap[w.heap.size + 1 + 1 + 1]? = some (.cells #[.string ⟨#[97]⟩] 9 (0, 0)) := by rw [hw4, ← s3]; exact heap_alloc_new w3 _
  have s5 : w5.heap.size = w.heap.size + 1 + 1 + 1 + 1 + 1 := by rw [hw5]; simp [s4]
  have B5 : Below w4.heap.size w4 w5 := by rw [hw5]; exact below_new (Below.refl _ _) _
  have X5 : w5.heap[w.heap.size + 1 + 1 + 1 + 1]? = some (.cells #[.int .i64 1, .string ⟨#[]⟩, .int .i64 0, .string ⟨#[]⟩, .string ⟨#[]⟩, .slice none 0 0, .slice none 0 0] 25 (0, 0)) := by rw [hw5, ← s4]; exact heap_alloc_new w4 _
  have s6 : w6.heap.size = w.heap.size + 1 + 1 + 1 + 1 + 1 + 1 := by rw [hw6]; simp [s5]
  have B6 : Below w5.heap.size w5 w6 := by rw [hw6]; exact below_new (Below.refl _ _) _
  have X6 : w6.heap[w.heap.size + 1 + 1 + 1 + 1 + 1]? = some (.cells #[.int .i64 5, .string ⟨#[]⟩, .int .i64 0, .string ⟨#[]⟩, .string ⟨#[]⟩, .slice (some ⟨w.heap.size + 1 + 1 + 1, 0, none⟩) 1 1, .slice (some ⟨w.heap.size + 1 + 1 + 1 + 1, 0, none⟩) 1 1] 25 (0, 0)) := by rw [hw6, ← s5]; exact heap_alloc_new w5 _
  have E5 : Below w5.heap.size w5 w6 := B6
  have E4 := below_over B5 E5
  have E3 := below_over B4 E4
  have E2 := below_over B3 E3
  have E1 := below_over B2 E2
  have HB6 : Hid (Below w.heap.size w w6) := Lib.hid (below_over B1 E1)
  have Y1 := (E1.block _ (by omega)).trans X1
  have Y2 := (E2.block _ (by omega)).trans X2
  have Y3 := (E3.block _ (by omega)).trans X3
  have Y4 := (E4.block _ (by omega)).trans X4
  have Y5 := (E5.block _ (by omega)).trans X5
  have TA : TyAt w6 [.int .i64 5, .string ⟨#[]⟩, .int .i64 0, .string ⟨#[]⟩, .string ⟨#[]⟩, .slice (some ⟨w.heap.size, 0, none⟩) 2 2, .slice (some ⟨w.heap.size + 1, 0, none⟩) 2 2] upA9 := ty_made (t := upA9) (by show (0 : Nat) ≤ _; decide) (by show (0 : Nat) ≤ _; decide) (by show (0 : Nat) ≤ _; decide) (by show (2 : Nat) ≤ _; decide) (by show (2 : Nat) ≤ _; decide) (by show (2 : Nat) ≤ 2; decide) (two_names Y1 (by decide) (by decide)) (row_flat (R := tR) (C := [[.int .i64 1, .string ⟨#[]⟩, .int .i64 0, .string ⟨#[]⟩, .string ⟨#[]⟩, .slice none 0 0, .slice none 0 0], [.int .i64 2, .string ⟨#[]⟩, .int .i64 0, .string ⟨#[]⟩, .string ⟨#[]⟩, .slice none 0 0, .slice none 0 0]]) Y2 (fun l hl => by simp at hl; rcases hl with rfl | rfl <;> rfl) rfl (fun i l x hl hx => by
    match i, hl, hx with
    | 0, hl, hx => simp [upA9, Ty.subs] at hl hx; subst hl; subst hx; exact lf_at w6 1
    | 1, hl, hx => simp [upA9, Ty.subs] at hl hx; subst hl; subst hx; exact lf_at w6 2
    | (i + 2), hl, hx => simp at hl))
  have TB : TyAt w6 [.int .i64 5, .string ⟨#[]⟩, .int .i64 0, .string ⟨#[]⟩, .string ⟨#[]⟩, .slice (some ⟨w.heap.size + 1 + 1 + 1, 0, none⟩) 1 1, .slice (some ⟨w.heap.size + 1 + 1 + 1 + 1, 0, none⟩) 1 1] upB9 := ty_made (t := upB9) (by show (0 : Nat) ≤ _; decide) (by show (0 : Nat) ≤ _; decide) (by show (0 : Nat) ≤ _; decide) (by show (1 : Nat) ≤ _; decide) (by show (1 : Nat) ≤ _; decide) (by show (1 : Nat) ≤ 1; decide) (one_name Y4 (by decide)) (row_flat (R := tR) (C := [[.int .i64 1, .string ⟨#[]⟩, .int .i64 0, .string ⟨#[]⟩, .string ⟨#[]⟩, .slice none 0 0, .slice none 0 0]]) Y5 (fun l hl => by simp at hl; subst hl; rfl) rfl (fun i l x hl hx => by
    match i, hl, hx with
    | 0, hl, hx => simp [upB9, Ty.subs] at hl hx; subst hl; subst hx; exact lf_at w6 1
    | (i + 1), hl, hx => simp at hl))
  have HTA := Lib.hid TA
  have HTB := Lib.hid TB
  have HA : Hid (∀ wx, Below w6.heap.size w6 wx → wx.heap[w.heap.size + 1 + 1]? = some (.cells #[.int .i64 5, .string ⟨#[]⟩, .int .i64 0, .string ⟨#[]⟩, .string ⟨#[]⟩, .slice (some ⟨w.heap.size, 0, none⟩) 2 2, .slice (some ⟨w.heap.size + 1, 0, none⟩) 2 2] 25 (0, 0))) := Lib.hid (fun wx hb => (hb.block _ (by omega)).trans Y3)
  have HB : Hid (∀ wx, Below w6.heap.size w6 wx → wx.heap[w.heap.size + 1 + 1 + 1 + 1 + 1]? = some (.cells #[.int .i64 5, .string ⟨#[]⟩, .int .i64 0, .string ⟨#[]⟩, .string ⟨#[]⟩, .slice (some ⟨w.heap.size + 1 + 1 + 1, 0, none⟩) 1 1, .slice (some ⟨w.heap.size + 1 + 1 + 1 + 1, 0, none⟩) 1 1] 25 (0, 0))) := Lib.hid (fun wx hb => (hb.block _ (by omega)).trans X6)
  have CJ := Lib.hid (Join_any9 upA9 upB9 [.int .i64 5, .string ⟨#[]⟩, .int .i64 0, .string ⟨#[]⟩, .string ⟨#[]⟩, .slice (some ⟨w.heap.size, 0, none⟩) 2 2, .slice (some ⟨w.heap.size + 1, 0, none⟩) 2 2] [.int .i64 5, .string ⟨#[]⟩, .int .i64 0, .string ⟨#[]⟩, .string ⟨#[]⟩, .slice (some ⟨w.heap.size + 1 + 1 + 1, 0, none⟩) 1 1, .slice (some ⟨w.heap.size + 1 + 1 + 1 + 1, 0, none⟩) 1 1] w6 TA TB)
  have HW : Hid ((((((w.alloc (.cells #[.string ⟨#[97]⟩, .string ⟨#[98]⟩] 9)).alloc (.cells #[.int .i64 1, .string ⟨#[]⟩, .int .i64 0, .string ⟨#[]⟩, .string ⟨#[]⟩, .slice none 0 0, .slice none 0 0, .int .i64 2, .string ⟨#[]⟩, .int .i64 0, .string ⟨#[]⟩, .string ⟨#[]⟩, .slice none 0 0, .slice none 0 0] 25)).alloc (.cells #[.int .i64 5, .string ⟨#[]⟩, .int .i64 0, .string ⟨#[]⟩, .string ⟨#[]⟩, .slice (some ⟨w.heap.size, 0, none⟩) 2 2, .slice (some ⟨w.heap.size + 1, 0, none⟩) 2 2] 25)).alloc (.cells #[.string ⟨#[97]⟩] 9)).alloc (.cells #[.int .i64 1, .string ⟨#[]⟩, .int .i64 0, .string ⟨#[]⟩, .string ⟨#[]⟩, .slice none 0 0, .slice none 0 0] 25)).alloc (.cells #[.int .i64 5, .string ⟨#[]⟩, .int .i64 0, .string ⟨#[]⟩, .string ⟨#[]⟩, .slice (some ⟨w.heap.size + 1 + 1 + 1, 0, none⟩) 1 1, .slice (some ⟨w.heap.size + 1 + 1 + 1 + 1, 0, none⟩) 1 1] 25) = w6) := Lib.hid (by rw [hw6, hw5, hw4, hw3, hw2, hw1])
  have m0 := Lib.cell_of_heap Y3 0
  have m1 := Lib.cell_of_heap Y3 1
  have m2 := Lib.cell_of_heap Y3 2
  have m3 := Lib.cell_of_heap Y3 3
  have m4 := Lib.cell_of_heap Y3 4
  have m5 := Lib.cell_of_heap Y3 5
  have m6 := Lib.cell_of_heap Y3 6
  have n0 := Lib.cell_of_heap X6 0
  have n1 := Lib.cell_of_heap X6 1
  have n2 := Lib.cell_of_heap X6 2
  have n3 := Lib.cell_of_heap X6 3
  have n4 := Lib.cell_of_heap X6 4
  have n5 := Lib.cell_of_heap X6 5
  have n6 := Lib.cell_of_heap X6 6
  simp at m0 m1 m2 m3 m4 m5 m6 n0 n1 n2 n3 n4 n5 n6
  clear hw1 hw2 hw3 hw4 hw5 hw6 s1 s2 s3 s4 s5 s6 B1 B2 B3 B4 B5 B6 E1 E2 E3 E4 E5 X1 X2 X3 X4 X5 X6 Y1 Y2 Y3 Y4 Y5 TA TB
  go_enter Try.func8, Try.ntmps8
  go_upto_region 3 with fail
  rw [HW.out]
  clear HW
  go_wp2_with fail
  refine CJ.out.mono ?_; rintro e w7 ⟨l, q, rfl, hb7, hcase⟩
  obtain ⟨rfl, hT7⟩ : q = true ∧ TyAt w7 l upB9 := by
    rcases hcase with ⟨h, -, -, t, ht, -, hT⟩ | ⟨-, -, h⟩
    · exact ⟨h, by rw [up9_bnd.one ht]; exact hT.full⟩
    · have := h upA9_ok upB9_ok upB9 up9_bnd
      rw [upB9_may] at this
      cases this
  obtain ⟨Fn, cF, Fs, dF, rfl, -⟩ := hT7.parts
  clear CJ m0 m1 m2 m3 m4 m5 m6 n0 n1 n2 n3 n4 n5 n6 hcase hT7
  obtain ⟨w8, hw8⟩ : ∃ w8, w8 = w7.alloc (.cells #[.int .i64 upB9.kind, .string upB9.pkg, .int .i64 upB9.major, .string upB9.mod, .string upB9.name, .slice Fn upB9.names.length cF, .slice Fs upB9.subs.length dF] 25) := ⟨_, rfl⟩
  have B8 : Below w6.heap.size w6 w8 := by rw [hw8]; exact below_new hb7 _
  have s8 : w7.heap.size < w8.heap.size := by rw [hw8]; simp
  have Y8 : w8.heap[w7.heap.size]? = some (.cells #[.int .i64 upB9.kind, .string upB9.pkg, .int .i64 upB9.major, .string upB9.mod, .string upB9.name, .slice Fn upB9.names.length cF, .slice Fs upB9.subs.length dF] 25 (0, 0)) := by rw [hw8]; exact heap_alloc_new w7 _
  have H8 : Hid (∀ wx, Below w8.heap.size w8 wx → wx.cell? ⟨w7.heap.size, 5, none⟩ = some (.slice Fn 1 cF)) := Lib.hid (fun wx hb => Lib.cell_of_heap ((hb.block _ s8).trans Y8) 5)
  have HB8 := Lib.hid B8
  have HW8 := Lib.hid hw8
  have c1 := Lib.hid (subC_any9 upA9 upB9 [.int .i64 5, .string ⟨#[]⟩, .int .i64 0, .string ⟨#[]⟩, .string ⟨#[]⟩, .slice (some ⟨w.heap.size, 0, none⟩) 2 2, .slice (some ⟨w.heap.size + 1, 0, none⟩) 2 2] [.int .i64 5, .string ⟨#[]⟩, .int .i64 0, .string ⟨#[]⟩, .string ⟨#[]⟩, .slice (some ⟨w.heap.size + 1 + 1 + 1, 0, none⟩) 1 1, .slice (some ⟨w.heap.size + 1 + 1 + 1 + 1, 0, none⟩) 1 1] w8 (fun _ => by decide +kernel) (fun _ => by decide +kernel) (HTA.out.keep B8) (HTB.out.keep B8))
  have r1 : subP upA9 upB9 = true := by rw [subP_ok, upA9_ok, upB9_ok, subB_iff.2 up9_le]; rfl
  have r2 : subP upB9 upA9 = false := by rw [subP_ok, upA9_ok, upB9_ok, subB_no.2 up9_not]; rfl
  have r3 : subP zTy zTy = false := by rw [subP_ok, zTy_not]; rfl
  rw [r1] at c1
  have HR := Lib.hid (And.intro r2 r3)
  have XA := HA.out w8 B8
  have XB := HB.out w8 B8
  have m0 := Lib.cell_of_heap XA 0
  have m1 := Lib.cell_of_heap XA 1
  have m2 := Lib.cell_of_heap XA 2
  have m3 := Lib.cell_of_heap XA 3
  have m4 := Lib.cell_of_heap XA 4
  have m5 := Lib.cell_of_heap XA 5
  have m6 := Lib.cell_of_heap XA 6
  have n0 := Lib.cell_of_heap XB 0
  have n1 := Lib.cell_of_heap XB 1
  have n2 := Lib.cell_of_heap XB 2
  have n3 := Lib.cell_of_heap XB 3
  have n4 := Lib.cell_of_heap XB 4
  have n5 := Lib.cell_of_heap XB 5
  have n6 := Lib.cell_of_heap XB 6
  simp at m0 m1 m2 m3 m4 m5 m6 n0 n1 n2 n3 n4 n5 n6
  clear hw8 B8 s8 Y8 hb7 r1 r2 r3 XA XB
  go_upto_region 4 with fail
  rw [← HW8.out]
  clear HW8
  go_wp2_with fail
  refine c1.out.mono ?_; rintro e w9 ⟨rfl, hb9⟩
  have HB9 := Lib.hid hb9
  have c2 := Lib.hid (subC_any9 upB9 upA9 [.int .i64 5, .string ⟨#[]⟩, .int .i64 0, .string ⟨#[]⟩, .string ⟨#[]⟩, .slice (some ⟨w.heap.size + 1 + 1 + 1, 0, none⟩) 1 1, .slice (some ⟨w.heap.size + 1 + 1 + 1 + 1, 0, none⟩) 1 1] [.int .i64 5, .string ⟨#[]⟩, .int .i64 0, .string ⟨#[]⟩, .string ⟨#[]⟩, .slice (some ⟨w.heap.size, 0, none⟩) 2 2, .slice (some ⟨w.heap.size + 1, 0, none⟩) 2 2] w9 (fun _ => by decide +kernel) (fun _ => by decide +kernel) (HTB.out.keep (below_over HB8.out hb9)) (HTA.out.keep (below_over HB8.out hb9)))
  rw [HR.out.1] at c2
  have XA := HA.out w9 (below_over HB8.out hb9)
  have XB := HB.out w9 (below_over HB8.out hb9)
  clear m0 m1 m2 m3 m4 m5 m6 n0 n1 n2 n3 n4 n5 n6 hb9 c1
  have m0 := Lib.cell_of_heap XA 0
  have m1 := Lib.cell_of_heap XA 1
  have m2 := Lib.cell_of_heap XA 2
  have m3 := Lib.cell_of_heap XA 3
  have m4 := Lib.cell_of_heap XA 4
  have m5 := Lib.cell_of_heap XA 5
  have m6 := Lib.cell_of_heap XA 6
  have n0 := Lib.cell_of_heap XB 0
  have n1 := Lib.cell_of_heap XB 1
  have n2 := Lib.cell_of_heap XB 2
  have n3 := Lib.cell_of_heap XB 3
  have n4 := Lib.cell_of_heap XB 4
  have n5 := Lib.cell_of_heap XB 5
  have n6 := Lib.cell_of_heap XB 6
  simp at m0 m1 m2 m3 m4 m5 m6 n0 n1 n2 n3 n4 n5 n6
  clear XA XB
  go_wp2_with fail
  refine c2.out.mono ?_; rintro e w10 ⟨rfl, hb10⟩
  have HB10 := Lib.hid (below_over HB9.out hb10)
  have c3 := Lib.hid (subC_any9 zTy zTy [.int .i64 0, .string ⟨#[]⟩, .int .i64 0, .string ⟨#[]⟩, .string ⟨#[]⟩, .slice none 0 0, .slice none 0 0] [.int .i64 0, .string ⟨#[]⟩, .int .i64 0, .string ⟨#[]⟩, .string ⟨#[]⟩, .slice none 0 0, .slice none 0 0] w10 (fun _ => by decide +kernel) (fun _ => by decide +kernel) (zeroT_at w10) (zeroT_at w10))
  rw [HR.out.2] at c3
  clear m0 m1 m2 m3 m4 m5 m6 n0 n1 n2 n3 n4 n5 n6 hb10 c2
  go_wp2_with fail
  refine c3.out.mono ?_; rintro e w11 ⟨rfl, hb11⟩
  have HB11 := Lib.hid (below_over HB10.out hb11)
  have z5 := H8.out w11 HB11.out
  have FIN := Lib.hid (below_over HB6.out (below_over HB8.out HB11.out))
  clear hb11 c3
  go_wp2_with fail
  go_ret
  exact ⟨rfl, FIN.out⟩
end Go.Proofs.Ytcdmgcgjonndpaa

/-  -/
namespace Go.Proofs.Ytcdmgcgjonndpaa
open Go Go.RowKit Go.Shelf
open Go.Sort
open M
def okL (t : Ty) : Bool := fewB t && okT t
theorem okL_ok {t : Ty} (h : okL t = true) : okT t = true := by
  unfold okL at h
  rw [Bool.and_eq_true] at h
  exact h.2
theorem may9 {t : Ty} (h : mayT t = true) : many t ≤ 9000 := by have := mayT_many h; omega
theorem box_step {w w' : World} {b : Nat} {c : Obj} (h : b < w.heap.size ∧ w.heap[b]? = some c) (hb : Below w.heap.size w w') : b < w'.heap.size ∧ w'.heap[b]? = some c := ⟨Nat.lt_of_lt_of_le h.1 hb.size, (hb.block _ h.1).trans h.2⟩
set_option maxRecDepth 100000 in
set_option maxHeartbeats 8000000 in
theorem lplain9_any (a : Ty) (la : List Value) (w : World) (hTa : TyAt w la a) :
    Calls Try.prog 10 #[.agg la.toArray] w fun e w' => e = .returned (.bool (okL a)) ∧ Below w.heap.size w w' := by
  have RES : Hid (okL a = (fewB a && (mayT a && plainT a))) := Lib.hid rfl
  obtain ⟨p, hp⟩ : ∃ p, p = fewB a := ⟨_, rfl⟩
  obtain ⟨q, hq⟩ : ∃ q, q = mayT a := ⟨_, rfl⟩
  obtain ⟨r, hr⟩ : ∃ r, r = plainT a := ⟨_, rfl⟩
  have HP := Lib.hid hp
  have HQ := Lib.hid hq
  have HR := Lib.hid hr
  rw [← hp, ← hq, ← hr] at RES
  clear hp hq hr
  have HTa := Lib.hid hTa
  obtain ⟨An, Ac, As, Ad, rfl, -⟩ := hTa.parts
  obtain ⟨U0, hU0⟩ : ∃ U0, U0 = w.alloc (.cells #[.int .i64 a.kind, .string a.pkg, .int .i64 a.major, .string a.mod, .string a.name, .slice An a.names.length Ac, .slice As a.subs.length Ad] 25) := ⟨_, rfl⟩
  have s0 : U0.heap.size = w.heap.size + 1 := by rw [hU0]; simp
  have B0 : Below w.heap.size w U0 := by rw [hU0]; exact below_new (Below.refl _ _) _
  have O0 : U0.heap[w.heap.size]? = some (.cells #[.int .i64 a.kind, .string a.pkg, .int .i64 a.major, .string a.mod, .string a.name, .slice An a.names.length Ac, .slice As a.subs.length Ad] 25 (0, 0)) := by rw [hU0]; exact heap_alloc_new w _
  have BW : Below w.heap.size w U0 := B0
  have BXa : Hid (w.heap.size < U0.heap.size ∧ U0.heap[w.heap.size]? = some (.cells #[.int .i64 a.kind, .string a.pkg, .int .i64 a.major, .string a.mod, .string a.name, .slice An a.names.length Ac, .slice As a.subs.length Ad] 25 (0, 0))) := Lib.hid ⟨by omega, O0⟩
  have KTa := Lib.hid (HTa.out.keep BW)
  have HW : Hid (w.alloc (.cells #[.int .i64 a.kind, .string a.pkg, .int .i64 a.major, .string a.mod, .string a.name, .slice An a.names.length Ac, .slice As a.subs.length Ad] 25) = U0) := Lib.hid (by rw [hU0])
  have HB := Lib.hid BW
  clear hU0 s0 B0 O0 BW hTa
  go_enter Try.func10, Try.ntmps10
  go_upto_region 1 with fail
  rw [HW.out]
  clear HW
  have CT := Lib.hid (fewB_any a (.agg #[.int .i64 a.kind, .string a.pkg, .int .i64 a.major, .string a.mod, .string a.name, .slice An a.names.length Ac, .slice As a.subs.length Ad]) U0 ⟨_, rfl, KTa.out⟩)
  rw [← HP.out] at CT
  obtain ⟨-, Xa⟩ := BXa.out
  have xa0 := Lib.cell_of_heap Xa 0
  have xa1 := Lib.cell_of_heap Xa 1
  have xa2 := Lib.cell_of_heap Xa 2
  have xa3 := Lib.cell_of_heap Xa 3
  have xa4 := Lib.cell_of_heap Xa 4
  have xa5 := Lib.cell_of_heap Xa 5
  have xa6 := Lib.cell_of_heap Xa 6
  simp at xa0 xa1 xa2 xa3 xa4 xa5 xa6
  clear Xa
  go_wp2_with fail
  refine CT.out.mono ?_; rintro e w1 ⟨rfl, hb⟩
  clear xa0 xa1 xa2 xa3 xa4 xa5 xa6
  clear CT
  replace BXa := Lib.hid (box_step BXa.out hb)
  replace KTa := Lib.hid (KTa.out.keep hb)
  replace HB := Lib.hid (below_over HB.out hb)
  clear hb
  cases p with
  | false =>
    go_wp2_with fail
    go_ret
    exact ⟨by rw [RES.out]; rfl, HB.out⟩
  | true =>
    have CT := Lib.hid (may_any a (.agg #[.int .i64 a.kind, .string a.pkg, .int .i64 a.major, .string a.mod, .string a.name, .slice An a.names.length Ac, .slice As a.subs.length Ad]) w1 (by have := few_small HP.out.symm; omega) ⟨_, rfl, KTa.out⟩)
    rw [← HQ.out] at CT
    obtain ⟨-, Xa⟩ := BXa.out
    have xa0 := Lib.cell_of_heap Xa 0
    have xa1 := Lib.cell_of_heap Xa 1
    have xa2 := Lib.cell_of_heap Xa 2
    have xa3 := Lib.cell_of_heap Xa 3
    have xa4 := Lib.cell_of_heap Xa 4
    have xa5 := Lib.cell_of_heap Xa 5
    have xa6 := Lib.cell_of_heap Xa 6
    simp at xa0 xa1 xa2 xa3 xa4 xa5 xa6
    clear Xa
    go_wp2_with fail
    refine CT.out.mono ?_; rintro e w2 ⟨rfl, hb⟩
    clear xa0 xa1 xa2 xa3 xa4 xa5 xa6
    clear CT
    replace BXa := Lib.hid (box_step BXa.out hb)
    replace KTa := Lib.hid (KTa.out.keep hb)
    replace HB := Lib.hid (below_over HB.out hb)
    clear hb
    cases q with
    | false =>
      go_wp2_with fail
      go_ret
      exact ⟨by rw [RES.out]; rfl, HB.out⟩
    | true =>
      have CT := Lib.hid (plain_any _ a (Nat.le_refl _) (.agg #[.int .i64 a.kind, .string a.pkg, .int .i64 a.major, .string a.mod, .string a.name, .slice An a.names.length Ac, .slice As a.subs.length Ad]) w2 ⟨_, rfl, KTa.out⟩)
      rw [← HR.out] at CT
      obtain ⟨-, Xa⟩ := BXa.out
      have xa0 := Lib.cell_of_heap Xa 0
      have xa1 := Lib.cell_of_heap Xa 1
      have xa2 := Lib.cell_of_heap Xa 2
      have xa3 := Lib.cell_of_heap Xa 3
      have xa4 := Lib.cell_of_heap Xa 4
      have xa5 := Lib.cell_of_heap Xa 5
      have xa6 := Lib.cell_of_heap Xa 6
      simp at xa0 xa1 xa2 xa3 xa4 xa5 xa6
      clear Xa
      go_wp2_with fail
      refine CT.out.mono ?_; rintro e w3 ⟨rfl, hb⟩
      clear xa0 xa1 xa2 xa3 xa4 xa5 xa6
      clear CT
      replace BXa := Lib.hid (box_step BXa.out hb)
      replace KTa := Lib.hid (KTa.out.keep hb)
      replace HB := Lib.hid (below_over HB.out hb)
      clear hb
      go_wp2_with fail
      go_ret
      exact ⟨by rw [RES.out]; rfl, HB.out⟩
end Go.Proofs.Ytcdmgcgjonndpaa

/-  -/
namespace Go.Proofs.Ytcdmgcgjonndpaa
open Go Go.RowKit Go.Shelf
open Go.Sort
open M
theorem td_typH {up q : Bool} {a b : Ty} {B : Nat} {w : World} {l : List Value} (h : (q = true ∧ okT a = true ∧ okT b = true ∧ ∃ t, IsBnd up a b t ∧ mayT t = true ∧ TyAt (strikeH (· < B) w) l t) ∨ (q = false ∧ l = [.int .i64 0, .string ⟨#[]⟩, .int .i64 0, .string ⟨#[]⟩, .string ⟨#[]⟩, .slice none 0 0, .slice none 0 0] ∧ (okT a = true → okT b = true → ∀ t, IsBnd up a b t → mayT t = false))) :
  ∃ t An cn As cs, l = [.int .i64 t.kind, .string t.pkg, .int .i64 t.major, .string t.mod, .string t.name, .slice An t.names.length cn, .slice As t.subs.length cs] ∧ TyAt (strikeH (· < B) w) [.int .i64 t.kind, .string t.pkg, .int .i64 t.major, .string t.mod, .string t.name, .slice An t.names.length cn, .slice As t.subs.length cs] t := by
 rcases h with ⟨-, -, -, t, -, -, hT⟩ | ⟨-, rfl, -⟩
 ·obtain ⟨An, cn, As, cs, rfl, -⟩ := hT.parts
  exact ⟨t, An, cn, As, cs, rfl, hT⟩
 ·exact ⟨zTy, none, 0, none, 0, rfl, zeroT_at _⟩
theorem spo_box {B : Nat} {w w' : World} (hs : Spo B w w') {b : Nat} {t : Ty} {An As : Option Addr} {cn cs : Nat} {T : TypeId} (hb : w.heap[b]? = some (.cells #[.int .i64 t.kind, .string t.pkg, .int .i64 t.major, .string t.mod, .string t.name, .slice An t.names.length cn, .slice As t.subs.length cs] T (0, 0))) (h : TyAt (strikeH (· < B) w) [.int .i64 t.kind, .string t.pkg, .int .i64 t.major, .string t.mod, .string t.name, .slice An t.names.length cn, .slice As t.subs.length cs] t) :
  ∃ (t' : Ty), ∃ c' : Array Value, w'.heap[b]? = some (.cells c' T (0, 0)) ∧ c'[0]? = some (.int .i64 t'.kind) ∧ c'[1]? = some (.string t'.pkg) ∧ c'[2]? = some (.int .i64 t'.major) ∧ c'[3]? = some (.string t'.mod) ∧ c'[4]? = some (.string t'.name) ∧ c'[5]? = some (.slice An t'.names.length cn) ∧ c'[6]? = some (.slice As t'.subs.length cs) ∧ TyAt (strikeH (· < B) w') [.int .i64 t'.kind, .string t'.pkg, .int .i64 t'.major, .string t'.mod, .string t'.name, .slice An t'.names.length cn, .slice As t'.subs.length cs] t' := by
 obtain ⟨c', hb', hl⟩ := hs.rows b _ T hb
 obtain ⟨t1, -, hn, hm, hT⟩ := spo_ty hs h
 obtain ⟨v0, e0, k0⟩ := hl 0 _ rfl
 obtain ⟨v1, e1, k1⟩ := hl 1 _ rfl
 obtain ⟨v2, e2, k2⟩ := hl 2 _ rfl
 obtain ⟨v3, e3, k3⟩ := hl 3 _ rfl
 obtain ⟨v4, e4, k4⟩ := hl 4 _ rfl
 obtain ⟨v5, e5, k5⟩ := hl 5 _ rfl
 obtain ⟨v6, e6, k6⟩ := hl 6 _ rfl
 obtain ⟨x0, rfl⟩ := like_int k0
 obtain ⟨x1, rfl, z1⟩ := like_str k1
 obtain ⟨x2, rfl⟩ := like_int k2
 obtain ⟨x3, rfl, z3⟩ := like_str k3
 obtain ⟨x4, rfl, z4⟩ := like_str k4
 obtain rfl := like_slice k5
 obtain rfl := like_slice k6
 obtain ⟨_, _, _, _, -, p1, p3, p4, -⟩ := h.parts
 obtain ⟨An', cn', As', cs', he, -⟩ := hT.parts
 rw [he] at hT
 simp only [List.cons.injEq, Value.slice.injEq, and_true] at he
 obtain ⟨-, -, -, -, -, ⟨rfl, -, rfl⟩, rfl, -, rfl⟩ := he
 have hR := relabel hT (k := x0) (j := x2) (p := x1) (d := x3) (n := x4) (by rcases z1 with rfl | z; exact p1; exact z) (by rcases z3 with rfl | z; exact p3; exact z) (by rcases z4 with rfl | z; exact p4; exact z)
 refine ⟨.mk x0 x1 x2 x3 x4 t1.names t1.subs, c', hb', e0, e1, e2, e3, e4, ?_, ?_, hR⟩
 ·rw [e5, ← hn]; rfl
 ·rw [e6, ← hm]; rfl
set_option maxRecDepth 100000 in
set_option maxHeartbeats 32000000 in
theorem subStays_any (a b : Ty) (la lb : List Value) (w : World) (hTa : TyAt w la a) (hTb : TyAt w lb b) :
  Calls Try.prog 7 #[.agg la.toArray, .agg lb.toArray] w fun e w' => e = .returned (.bool true) ∧ Below w.heap.size w w' := by
 obtain ⟨r, hr⟩ : ∃ r, r = okL a := ⟨_, rfl⟩
 have Hr := Lib.hid hr
 clear hr
 obtain ⟨s, hs⟩ : ∃ s, s = okL b := ⟨_, rfl⟩
 have Hs := Lib.hid hs
 clear hs
 have HTa := Lib.hid hTa
 have HTb := Lib.hid hTb
 obtain ⟨An, Ac, As, Ad, rfl, -⟩ := hTa.parts
 obtain ⟨Bn, Bc, Bs, Bd, rfl, -⟩ := hTb.parts
 obtain ⟨U0, hU0⟩ : ∃ U0, U0 = w.alloc (.cells #[.int .i64 a.kind, .string a.pkg, .int .i64 a.major, .string a.mod, .string a.name, .slice An a.names.length Ac, .slice As a.subs.length Ad] 25) := ⟨_, rfl⟩
 obtain ⟨U1, hU1⟩ : ∃ U1, U1 = U0.alloc (.cells #[.int .i64 b.kind, .string b.pkg, .int .i64 b.major, .string b.mod, .string b.name, .slice Bn b.names.length Bc, .slice Bs b.subs.length Bd] 25) := ⟨_, rfl⟩
 have s0 : U0.heap.size = w.heap.size + 1 := by rw [hU0]; simp
 have B0 : Below w.heap.size w U0 := by rw [hU0]; exact below_new (Below.refl _ _) _
 have O0 : U0.heap[w.heap.size]? = some (.cells #[.int .i64 a.kind, .string a.pkg, .int .i64 a.major, .string a.mod, .string a.name, .slice An a.names.length Ac, .slice As a.subs.length Ad] 25 (0, 0)) := by rw [hU0]; exact heap_alloc_new w _
 have s1 : U1.heap.size = w.heap.size + 1 + 1 := by rw [hU1]; simp [s0]
 have B1 : Below U0.heap.size U0 U1 := by rw [hU1]; exact below_new (Below.refl _ _) _
 have O1 : U1.heap[w.heap.size + 1]? = some (.cells #[.int .i64 b.kind, .string b.pkg, .int .i64 b.major, .string b.mod, .string b.name, .slice Bn b.names.length Bc, .slice Bs b.subs.length Bd] 25 (0, 0)) := by rw [hU1, ← s0]; exact heap_alloc_new U0 _
 have BW : Below w.heap.size w U1 := below_over B0 B1
 have BXa : Hid (w.heap.size < U1.heap.size ∧ U1.heap[w.heap.size]? = some (.cells #[.int .i64 a.kind, .string a.pkg, .int .i64 a.major, .string a.mod, .string a.name, .slice An a.names.length Ac, .slice As a.subs.length Ad] 25 (0, 0))) := Lib.hid ⟨by omega, (B1.block _ (by omega)).trans (O0)⟩
 have KTa := Lib.hid (HTa.out.keep BW)
 have BXb : Hid (w.heap.size + 1 < U1.heap.size ∧ U1.heap[w.heap.size + 1]? = some (.cells #[.int .i64 b.kind, .string b.pkg, .int .i64 b.major, .string b.mod, .string b.name, .slice Bn b.names.length Bc, .slice Bs b.subs.length Bd] 25 (0, 0))) := Lib.hid ⟨by omega, O1⟩
 have KTb := Lib.hid (HTb.out.keep BW)
 have HW : Hid ((w.alloc (.cells #[.int .i64 a.kind, .string a.pkg, .int .i64 a.major, .string a.mod, .string a.name, .slice An a.names.length Ac, .slice As a.subs.length Ad] 25)).alloc (.cells #[.int .i64 b.kind, .string b.pkg, .int .i64 b.major, .string b.mod, .string b.name, .slice Bn b.names.length Bc, .slice Bs b.subs.length Bd] 25) = U1) := Lib.hid (by rw [hU1, hU0])
 have HB := Lib.hid BW
 clear hU0 s0 B0 O0 hU1 s1 B1 O1 BW hTa hTb
 go_enter Try.func7, Try.ntmps7
 go_upto_region 1 with fail
 rw [HW.out]
 clear HW
 have CT := Lib.hid (up9_any U1)
 go_wp2_with fail
 refine CT.out.mono ?_; rintro e w1 ⟨rfl, hb⟩
 clear CT
 replace BXa := Lib.hid (box_step BXa.out hb)
 replace BXb := Lib.hid (box_step BXb.out hb)
 replace KTa := Lib.hid (KTa.out.keep hb)
 replace KTb := Lib.hid (KTb.out.keep hb)
 replace HB := Lib.hid (below_over HB.out hb)
 clear hb
 have CT := Lib.hid (lplain9_any a [.int .i64 a.kind, .string a.pkg, .int .i64 a.major, .string a.mod, .string a.name, .slice An a.names.length Ac, .slice As a.subs.length Ad] w1 KTa.out)
 rw [← Hr.out] at CT
 obtain ⟨-, Xa⟩ := BXa.out
 have xa0 := Lib.cell_of_heap Xa 0
 have xa1 := Lib.cell_of_heap Xa 1
 have xa2 := Lib.cell_of_heap Xa 2
 have xa3 := Lib.cell_of_heap Xa 3
 have xa4 := Lib.cell_of_heap Xa 4
 have xa5 := Lib.cell_of_heap Xa 5
 have xa6 := Lib.cell_of_heap Xa 6
 simp at xa0 xa1 xa2 xa3 xa4 xa5 xa6
 clear Xa
 go_wp2_with fail
 refine CT.out.mono ?_; rintro e w2 ⟨rfl, hb⟩
 clear xa0 xa1 xa2 xa3 xa4 xa5 xa6
 clear CT
 replace BXa := Lib.hid (box_step BXa.out hb)
 replace BXb := Lib.hid (box_step BXb.out hb)
 replace KTa := Lib.hid (KTa.out.keep hb)
 replace KTb := Lib.hid (KTb.out.keep hb)
 replace HB := Lib.hid (below_over HB.out hb)
 clear hb
 have CT := Lib.hid (lplain9_any b [.int .i64 b.kind, .string b.pkg, .int .i64 b.major, .string b.mod, .string b.name, .slice Bn b.names.length Bc, .slice Bs b.subs.length Bd] w2 KTb.out)
 rw [← Hs.out] at CT
 obtain ⟨-, Xb⟩ := BXb.out
 have xb0 := Lib.cell_of_heap Xb 0
 have xb1 := Lib.cell_of_heap Xb 1
 have xb2 := Lib.cell_of_heap Xb 2
 have xb3 := Lib.cell_of_heap Xb 3
 have xb4 := Lib.cell_of_heap Xb 4
 have xb5 := Lib.cell_of_heap Xb 5
 have xb6 := Lib.cell_of_heap Xb 6
 simp at xb0 xb1 xb2 xb3 xb4 xb5 xb6
 clear Xb
 go_wp2_with fail
 refine CT.out.mono ?_; rintro e w3 ⟨rfl, hb⟩
 clear xb0 xb1 xb2 xb3 xb4 xb5 xb6
 clear CT
 replace BXa := Lib.hid (box_step BXa.out hb)
 replace BXb := Lib.hid (box_step BXb.out hb)
 replace KTa := Lib.hid (KTa.out.keep hb)
 replace KTb := Lib.hid (KTb.out.keep hb)
 replace HB := Lib.hid (below_over HB.out hb)
 clear hb
 cases r with
 | false =>
  go_wp2_with fail
  go_ret
  exact ⟨rfl, HB.out⟩
 | true =>
  cases s with
  | false =>
   go_wp2_with fail
   go_ret
   exact ⟨rfl, HB.out⟩
  | true =>
   have OKa := Lib.hid (okL_ok Hr.out.symm)
   have OKb := Lib.hid (okL_ok Hs.out.symm)
   have HFA : Hid (fewB a = true ∧ fewB b = true) := Lib.hid (by
    have h1 := Hr.out
    have h2 := Hs.out
    unfold okL at h1 h2
    have h1 := h1.symm
    have h2 := h2.symm
    rw [Bool.and_eq_true] at h1 h2
    exact ⟨h1.1, h2.1⟩)
   have CT := Lib.hid (copy_any _ a (Nat.le_refl _) (okT_many OKa.out) (few_short _ 3000 (by have h := HFA.out.1; unfold fewB at h; exact of_decide_eq_true h)) (.agg #[.int .i64 a.kind, .string a.pkg, .int .i64 a.major, .string a.mod, .string a.name, .slice An a.names.length Ac, .slice As a.subs.length Ad]) w3 ⟨_, rfl, KTa.out⟩)
   obtain ⟨-, Xa⟩ := BXa.out
   have xa0 := Lib.cell_of_heap Xa 0
   have xa1 := Lib.cell_of_heap Xa 1
   have xa2 := Lib.cell_of_heap Xa 2
   have xa3 := Lib.cell_of_heap Xa 3
   have xa4 := Lib.cell_of_heap Xa 4
   have xa5 := Lib.cell_of_heap Xa 5
   have xa6 := Lib.cell_of_heap Xa 6
   simp at xa0 xa1 xa2 xa3 xa4 xa5 xa6
   clear Xa
   go_wp2_with fail
   refine CT.out.mono ?_; rintro e w4 ⟨lx, rfl, hTx, hb⟩
   obtain ⟨Xn, Xc, Xs, Xd, rfl, -⟩ := hTx.parts
   have KTx := Lib.hid hTx.full
   clear hTx
   clear xa0 xa1 xa2 xa3 xa4 xa5 xa6
   clear CT
   replace BXa := Lib.hid (box_step BXa.out hb)
   replace BXb := Lib.hid (box_step BXb.out hb)
   replace KTa := Lib.hid (KTa.out.keep hb)
   replace KTb := Lib.hid (KTb.out.keep hb)
   replace HB := Lib.hid (below_over HB.out hb)
   clear hb
   obtain ⟨w5, hw5⟩ : ∃ w5, w5 = w4.alloc (.cells #[.int .i64 a.kind, .string a.pkg, .int .i64 a.major, .string a.mod, .string a.name, .slice Xn a.names.length Xc, .slice Xs a.subs.length Xd] 25) := ⟨_, rfl⟩
   have hb : Below w4.heap.size w4 w5 := by rw [hw5]; exact below_new (Below.refl _ _) _
   have BXx : Hid (w4.heap.size < w5.heap.size ∧ w5.heap[w4.heap.size]? = some (.cells #[.int .i64 a.kind, .string a.pkg, .int .i64 a.major, .string a.mod, .string a.name, .slice Xn a.names.length Xc, .slice Xs a.subs.length Xd] 25 (0, 0))) := Lib.hid ⟨by rw [hw5]; simp, by rw [hw5]; exact heap_alloc_new w4 _⟩
   have HQ5 := Lib.hid hw5
   clear hw5
   replace BXa := Lib.hid (box_step BXa.out hb)
   replace BXb := Lib.hid (box_step BXb.out hb)
   replace KTa := Lib.hid (KTa.out.keep hb)
   replace KTb := Lib.hid (KTb.out.keep hb)
   replace KTx := Lib.hid (KTx.out.keep hb)
   replace HB := Lib.hid (below_over HB.out hb)
   clear hb
   go_upto_region 7 with fail
   rw [← HQ5.out]
   clear HQ5
   have CT := Lib.hid (copy_any _ b (Nat.le_refl _) (okT_many OKb.out) (few_short _ 3000 (by have h := HFA.out.2; unfold fewB at h; exact of_decide_eq_true h)) (.agg #[.int .i64 b.kind, .string b.pkg, .int .i64 b.major, .string b.mod, .string b.name, .slice Bn b.names.length Bc, .slice Bs b.subs.length Bd]) w5 ⟨_, rfl, KTb.out⟩)
   obtain ⟨-, Xb⟩ := BXb.out
   have xb0 := Lib.cell_of_heap Xb 0
   have xb1 := Lib.cell_of_heap Xb 1
   have xb2 := Lib.cell_of_heap Xb 2
   have xb3 := Lib.cell_of_heap Xb 3
   have xb4 := Lib.cell_of_heap Xb 4
   have xb5 := Lib.cell_of_heap Xb 5
   have xb6 := Lib.cell_of_heap Xb 6
   simp at xb0 xb1 xb2 xb3 xb4 xb5 xb6
   clear Xb
   go_wp2_with fail
   refine CT.out.mono ?_; rintro e w6 ⟨ly, rfl, hTy, hb⟩
   obtain ⟨Yn, Yc, Ys, Yd, rfl, -⟩ := hTy.parts
   have KTy := Lib.hid hTy.full
   clear hTy
   clear xb0 xb1 xb2 xb3 xb4 xb5 xb6
   clear CT
   replace BXa := Lib.hid (box_step BXa.out hb)
   replace BXb := Lib.hid (box_step BXb.out hb)
   replace BXx := Lib.hid (box_step BXx.out hb)
   replace KTa := Lib.hid (KTa.out.keep hb)
   replace KTb := Lib.hid (KTb.out.keep hb)
   replace KTx := Lib.hid (KTx.out.keep hb)
   replace HB := Lib.hid (below_over HB.out hb)
   clear hb
   obtain ⟨w7, hw7⟩ : ∃ w7, w7 = w6.alloc (.cells #[.int .i64 b.kind, .string b.pkg, .int .i64 b.major, .string b.mod, .string b.name, .slice Yn b.names.length Yc, .slice Ys b.subs.length Yd] 25) := ⟨_, rfl⟩
   have hb : Below w6.heap.size w6 w7 := by rw [hw7]; exact below_new (Below.refl _ _) _
   have BXy : Hid (w6.heap.size < w7.heap.size ∧ w7.heap[w6.heap.size]? = some (.cells #[.int .i64 b.kind, .string b.pkg, .int .i64 b.major, .string b.mod, .string b.name, .slice Yn b.names.length Yc, .slice Ys b.subs.length Yd] 25 (0, 0))) := Lib.hid ⟨by rw [hw7]; simp, by rw [hw7]; exact heap_alloc_new w6 _⟩
   have HQ7 := Lib.hid hw7
   clear hw7
   replace BXa := Lib.hid (box_step BXa.out hb)
   replace BXb := Lib.hid (box_step BXb.out hb)
   replace BXx := Lib.hid (box_step BXx.out hb)
   replace KTa := Lib.hid (KTa.out.keep hb)
   replace KTb := Lib.hid (KTb.out.keep hb)
   replace KTx := Lib.hid (KTx.out.keep hb)
   replace KTy := Lib.hid (KTy.out.keep hb)
   replace HB := Lib.hid (below_over HB.out hb)
   clear hb
   go_upto_region 8 with fail
   rw [← HQ7.out]
   clear HQ7
   have HAC : Hid (Below w7.heap.size w7 w7) := Lib.hid (Below.refl _ _)
   have HWA := HB
   have CT := Lib.hid (Join_any9H a b [.int .i64 a.kind, .string a.pkg, .int .i64 a.major, .string a.mod, .string a.name, .slice Xn a.names.length Xc, .slice Xs a.subs.length Xd] [.int .i64 b.kind, .string b.pkg, .int .i64 b.major, .string b.mod, .string b.name, .slice Yn b.names.length Yc, .slice Ys b.subs.length Yd] w7 (KTx.out.keep HAC.out) (KTy.out.keep HAC.out))
   have Xx := (HAC.out.block _ BXx.out.1).trans BXx.out.2
   have xx0 := Lib.cell_of_heap Xx 0
   have xx1 := Lib.cell_of_heap Xx 1
   have xx2 := Lib.cell_of_heap Xx 2
   have xx3 := Lib.cell_of_heap Xx 3
   have xx4 := Lib.cell_of_heap Xx 4
   have xx5 := Lib.cell_of_heap Xx 5
   have xx6 := Lib.cell_of_heap Xx 6
   have Xy := (HAC.out.block _ BXy.out.1).trans BXy.out.2
   have xy0 := Lib.cell_of_heap Xy 0
   have xy1 := Lib.cell_of_heap Xy 1
   have xy2 := Lib.cell_of_heap Xy 2
   have xy3 := Lib.cell_of_heap Xy 3
   have xy4 := Lib.cell_of_heap Xy 4
   have xy5 := Lib.cell_of_heap Xy 5
   have xy6 := Lib.cell_of_heap Xy 6
   simp at xx0 xx1 xx2 xx3 xx4 xx5 xx6 xy0 xy1 xy2 xy3 xy4 xy5 xy6
   clear Xx Xy
   go_wp2_with fail
   refine CT.out.mono ?_; rintro e w8 ⟨lj, ij, rfl, hb, hcase⟩
   obtain ⟨j, Jn, Jc, Js, Jd, rfl, hTj⟩ := td_typH hcase
   have KTj : Hid (TyAt (strikeH (· < w7.heap.size) w8) [.int .i64 j.kind, .string j.pkg, .int .i64 j.major, .string j.mod, .string j.name, .slice Jn j.names.length Jc, .slice Js j.subs.length Jd] j) := Lib.hid (hTj.moveH (Nat.le_refl _) fun z _ hS => ⟨fun e => hS (Nat.lt_of_lt_of_le e HAC.out.size), rfl⟩)
   clear CT hTj hcase xx0 xx1 xx2 xx3 xx4 xx5 xx6 xy0 xy1 xy2 xy3 xy4 xy5 xy6
   replace HAC := Lib.hid (below_over HAC.out hb)
   clear hb
   obtain ⟨w9, hw9⟩ : ∃ w9, w9 = w8.alloc (.cells #[.int .i64 j.kind, .string j.pkg, .int .i64 j.major, .string j.mod, .string j.name, .slice Jn j.names.length Jc, .slice Js j.subs.length Jd] 25) := ⟨_, rfl⟩
   have hb : Below w8.heap.size w8 w9 := by rw [hw9]; exact below_new (Below.refl _ _) _
   have BXj : Hid (w8.heap.size < w9.heap.size ∧ w9.heap[w8.heap.size]? = some (.cells #[.int .i64 j.kind, .string j.pkg, .int .i64 j.major, .string j.mod, .string j.name, .slice Jn j.names.length Jc, .slice Js j.subs.length Jd] 25 (0, 0))) := Lib.hid ⟨by rw [hw9]; simp, by rw [hw9]; exact heap_alloc_new w8 _⟩
   have HQ9 := Lib.hid hw9
   replace KTj : Hid (TyAt (strikeH (· < w7.heap.size) w9) [.int .i64 j.kind, .string j.pkg, .int .i64 j.major, .string j.mod, .string j.name, .slice Jn j.names.length Jc, .slice Js j.subs.length Jd] j) := Lib.hid (KTj.out.moveH hb.size fun z hz hS => ⟨hS, hb.block z hz⟩)
   clear hw9
   replace HAC := Lib.hid (below_over HAC.out hb)
   clear hb
   go_upto_region 9 with fail
   rw [← HQ9.out]
   clear HQ9
   have CT := Lib.hid (Meet_any9H a b [.int .i64 a.kind, .string a.pkg, .int .i64 a.major, .string a.mod, .string a.name, .slice Xn a.names.length Xc, .slice Xs a.subs.length Xd] [.int .i64 b.kind, .string b.pkg, .int .i64 b.major, .string b.mod, .string b.name, .slice Yn b.names.length Yc, .slice Ys b.subs.length Yd] w9 (KTx.out.keep HAC.out) (KTy.out.keep HAC.out))
   have Xx := (HAC.out.block _ BXx.out.1).trans BXx.out.2
   have xx0 := Lib.cell_of_heap Xx 0
   have xx1 := Lib.cell_of_heap Xx 1
   have xx2 := Lib.cell_of_heap Xx 2
   have xx3 := Lib.cell_of_heap Xx 3
   have xx4 := Lib.cell_of_heap Xx 4
   have xx5 := Lib.cell_of_heap Xx 5
   have xx6 := Lib.cell_of_heap Xx 6
   have Xy := (HAC.out.block _ BXy.out.1).trans BXy.out.2
   have xy0 := Lib.cell_of_heap Xy 0
   have xy1 := Lib.cell_of_heap Xy 1
   have xy2 := Lib.cell_of_heap Xy 2
   have xy3 := Lib.cell_of_heap Xy 3
   have xy4 := Lib.cell_of_heap Xy 4
   have xy5 := Lib.cell_of_heap Xy 5
   have xy6 := Lib.cell_of_heap Xy 6
   simp at xx0 xx1 xx2 xx3 xx4 xx5 xx6 xy0 xy1 xy2 xy3 xy4 xy5 xy6
   clear Xx Xy
   go_wp2_with fail
   refine CT.out.mono ?_; rintro e w10 ⟨lm, im, rfl, hb, hcase⟩
   obtain ⟨m, Mn, Mc, Ms, Md, rfl, hTm⟩ := td_typH hcase
   have KTm : Hid (TyAt (strikeH (· < w7.heap.size) w10) [.int .i64 m.kind, .string m.pkg, .int .i64 m.major, .string m.mod, .string m.name, .slice Mn m.names.length Mc, .slice Ms m.subs.length Md] m) := Lib.hid (hTm.moveH (Nat.le_refl _) fun z _ hS => ⟨fun e => hS (Nat.lt_of_lt_of_le e HAC.out.size), rfl⟩)
   clear CT hTm hcase xx0 xx1 xx2 xx3 xx4 xx5 xx6 xy0 xy1 xy2 xy3 xy4 xy5 xy6
   replace KTj : Hid (TyAt (strikeH (· < w7.heap.size) w10) [.int .i64 j.kind, .string j.pkg, .int .i64 j.major, .string j.mod, .string j.name, .slice Jn j.names.length Jc, .slice Js j.subs.length Jd] j) := Lib.hid (KTj.out.moveH hb.size fun z hz hS => ⟨hS, hb.block z hz⟩)
   replace BXj := Lib.hid (box_step BXj.out hb)
   replace HAC := Lib.hid (below_over HAC.out hb)
   clear hb
   obtain ⟨w11, hw11⟩ : ∃ w11, w11 = w10.alloc (.cells #[.int .i64 m.kind, .string m.pkg, .int .i64 m.major, .string m.mod, .string m.name, .slice Mn m.names.length Mc, .slice Ms m.subs.length Md] 25) := ⟨_, rfl⟩
   have hb : Below w10.heap.size w10 w11 := by rw [hw11]; exact below_new (Below.refl _ _) _
   have BXm : Hid (w10.heap.size < w11.heap.size ∧ w11.heap[w10.heap.size]? = some (.cells #[.int .i64 m.kind, .string m.pkg, .int .i64 m.major, .string m.mod, .string m.name, .slice Mn m.names.length Mc, .slice Ms m.subs.length Md] 25 (0, 0))) := Lib.hid ⟨by rw [hw11]; simp, by rw [hw11]; exact heap_alloc_new w10 _⟩
   have HQ11 := Lib.hid hw11
   replace KTm : Hid (TyAt (strikeH (· < w7.heap.size) w11) [.int .i64 m.kind, .string m.pkg, .int .i64 m.major, .string m.mod, .string m.name, .slice Mn m.names.length Mc, .slice Ms m.subs.length Md] m) := Lib.hid (KTm.out.moveH hb.size fun z hz hS => ⟨hS, hb.block z hz⟩)
   clear hw11
   replace KTj : Hid (TyAt (strikeH (· < w7.heap.size) w11) [.int .i64 j.kind, .string j.pkg, .int .i64 j.major, .string j.mod, .string j.name, .slice Jn j.names.length Jc, .slice Js j.subs.length Jd] j) := Lib.hid (KTj.out.moveH hb.size fun z hz hS => ⟨hS, hb.block z hz⟩)
   replace BXj := Lib.hid (box_step BXj.out hb)
   replace HAC := Lib.hid (below_over HAC.out hb)
   clear hb
   go_upto_region 10 with fail
   rw [← HQ11.out]
   clear HQ11
   have CT := Lib.hid (spoil_any w7.heap.size _ j (Nat.le_refl _) [.int .i64 j.kind, .string j.pkg, .int .i64 j.major, .string j.mod, .string j.name, .slice Jn j.names.length Jc, .slice Js j.subs.length Jd] w11 HAC.out.size KTj.out)
   have Xj := BXj.out.2
   have xj0 := Lib.cell_of_heap Xj 0
   have xj1 := Lib.cell_of_heap Xj 1
   have xj2 := Lib.cell_of_heap Xj 2
   have xj3 := Lib.cell_of_heap Xj 3
   have xj4 := Lib.cell_of_heap Xj 4
   have xj5 := Lib.cell_of_heap Xj 5
   have xj6 := Lib.cell_of_heap Xj 6
   simp at xj0 xj1 xj2 xj3 xj4 xj5 xj6
   clear Xj
   go_wp2_with fail
   refine CT.out.mono ?_; rintro e w12 ⟨rfl, hs⟩
   clear CT xj0 xj1 xj2 xj3 xj4 xj5 xj6 KTj BXj
   obtain ⟨m', c', hb', e0, e1, e2, e3, e4, e5, e6, hTm⟩ := spo_box hs BXm.out.2 KTm.out
   have KTm2 := Lib.hid hTm
   replace HAC := Lib.hid (HAC.out.trans hs.below)
   have xm0 := (Lib.cell_of_heap hb' 0).trans e0
   have xm1 := (Lib.cell_of_heap hb' 1).trans e1
   have xm2 := (Lib.cell_of_heap hb' 2).trans e2
   have xm3 := (Lib.cell_of_heap hb' 3).trans e3
   have xm4 := (Lib.cell_of_heap hb' 4).trans e4
   have xm5 := (Lib.cell_of_heap hb' 5).trans e5
   have xm6 := (Lib.cell_of_heap hb' 6).trans e6
   have HSZ : Hid (w7.heap.size ≤ w12.heap.size) := Lib.hid HAC.out.size
   have CT := Lib.hid (spoil_any w7.heap.size _ m' (Nat.le_refl _) [.int .i64 m'.kind, .string m'.pkg, .int .i64 m'.major, .string m'.mod, .string m'.name, .slice Mn m'.names.length Mc, .slice Ms m'.subs.length Md] w12 HSZ.out KTm2.out)
   clear hs hb' e0 e1 e2 e3 e4 e5 e6 hTm KTm BXm
   go_wp2_with fail
   refine CT.out.mono ?_; rintro e w13 ⟨rfl, hs⟩
   replace HAC := Lib.hid (HAC.out.trans hs.below)
   clear CT xm0 xm1 xm2 xm3 xm4 xm5 xm6 hs
   have CT := Lib.hid (subC_any9 a b [.int .i64 a.kind, .string a.pkg, .int .i64 a.major, .string a.mod, .string a.name, .slice Xn a.names.length Xc, .slice Xs a.subs.length Xd] [.int .i64 b.kind, .string b.pkg, .int .i64 b.major, .string b.mod, .string b.name, .slice Yn b.names.length Yc, .slice Ys b.subs.length Yd] w13 may9 may9 (KTx.out.keep HAC.out) (KTy.out.keep HAC.out))
   have Xx := (HAC.out.block _ BXx.out.1).trans BXx.out.2
   have xx0 := Lib.cell_of_heap Xx 0
   have xx1 := Lib.cell_of_heap Xx 1
   have xx2 := Lib.cell_of_heap Xx 2
   have xx3 := Lib.cell_of_heap Xx 3
   have xx4 := Lib.cell_of_heap Xx 4
   have xx5 := Lib.cell_of_heap Xx 5
   have xx6 := Lib.cell_of_heap Xx 6
   have Xy := (HAC.out.block _ BXy.out.1).trans BXy.out.2
   have xy0 := Lib.cell_of_heap Xy 0
   have xy1 := Lib.cell_of_heap Xy 1
   have xy2 := Lib.cell_of_heap Xy 2
   have xy3 := Lib.cell_of_heap Xy 3
   have xy4 := Lib.cell_of_heap Xy 4
   have xy5 := Lib.cell_of_heap Xy 5
   have xy6 := Lib.cell_of_heap Xy 6
   simp at xx0 xx1 xx2 xx3 xx4 xx5 xx6 xy0 xy1 xy2 xy3 xy4 xy5 xy6
   clear Xx Xy
   go_wp2_with fail
   refine CT.out.mono ?_; rintro e w14 ⟨rfl, hb⟩
   replace HAC := Lib.hid (below_over HAC.out hb)
   clear CT hb xx0 xx1 xx2 xx3 xx4 xx5 xx6 xy0 xy1 xy2 xy3 xy4 xy5 xy6
   have HSA : Hid (sameT a a = true) := Lib.hid ((sameT_iff a a).2 rfl)
   have HSB : Hid (sameT b b = true) := Lib.hid ((sameT_iff b b).2 rfl)
   have CT := Lib.hid (same_any _ a a (Nat.le_refl _) (.agg #[.int .i64 a.kind, .string a.pkg, .int .i64 a.major, .string a.mod, .string a.name, .slice Xn a.names.length Xc, .slice Xs a.subs.length Xd]) (.agg #[.int .i64 a.kind, .string a.pkg, .int .i64 a.major, .string a.mod, .string a.name, .slice An a.names.length Ac, .slice As a.subs.length Ad]) w14 ⟨_, rfl, KTx.out.keep HAC.out⟩ ⟨_, rfl, KTa.out.keep HAC.out⟩)
   rw [HSA.out] at CT
   have Xx := (HAC.out.block _ BXx.out.1).trans BXx.out.2
   have xx0 := Lib.cell_of_heap Xx 0
   have xx1 := Lib.cell_of_heap Xx 1
   have xx2 := Lib.cell_of_heap Xx 2
   have xx3 := Lib.cell_of_heap Xx 3
   have xx4 := Lib.cell_of_heap Xx 4
   have xx5 := Lib.cell_of_heap Xx 5
   have xx6 := Lib.cell_of_heap Xx 6
   have Xa := (HAC.out.block _ BXa.out.1).trans BXa.out.2
   have xa0 := Lib.cell_of_heap Xa 0
   have xa1 := Lib.cell_of_heap Xa 1
   have xa2 := Lib.cell_of_heap Xa 2
   have xa3 := Lib.cell_of_heap Xa 3
   have xa4 := Lib.cell_of_heap Xa 4
   have xa5 := Lib.cell_of_heap Xa 5
   have xa6 := Lib.cell_of_heap Xa 6
   simp at xx0 xx1 xx2 xx3 xx4 xx5 xx6 xa0 xa1 xa2 xa3 xa4 xa5 xa6
   clear Xx Xa
   go_wp2_with fail
   refine CT.out.mono ?_; rintro e w15 ⟨rfl, hb⟩
   replace HAC := Lib.hid (below_over HAC.out hb)
   clear CT hb xx0 xx1 xx2 xx3 xx4 xx5 xx6 xa0 xa1 xa2 xa3 xa4 xa5 xa6
   have CT := Lib.hid (same_any _ b b (Nat.le_refl _) (.agg #[.int .i64 b.kind, .string b.pkg, .int .i64 b.major, .string b.mod, .string b.name, .slice Yn b.names.length Yc, .slice Ys b.subs.length Yd]) (.agg #[.int .i64 b.kind, .string b.pkg, .int .i64 b.major, .string b.mod, .string b.name, .slice Bn b.names.length Bc, .slice Bs b.subs.length Bd]) w15 ⟨_, rfl, KTy.out.keep HAC.out⟩ ⟨_, rfl, KTb.out.keep HAC.out⟩)
   rw [HSB.out] at CT
   have Xy := (HAC.out.block _ BXy.out.1).trans BXy.out.2
   have xy0 := Lib.cell_of_heap Xy 0
   have xy1 := Lib.cell_of_heap Xy 1
   have xy2 := Lib.cell_of_heap Xy 2
   have xy3 := Lib.cell_of_heap Xy 3
   have xy4 := Lib.cell_of_heap Xy 4
   have xy5 := Lib.cell_of_heap Xy 5
   have xy6 := Lib.cell_of_heap Xy 6
   have Xb := (HAC.out.block _ BXb.out.1).trans BXb.out.2
   have xb0 := Lib.cell_of_heap Xb 0
   have xb1 := Lib.cell_of_heap Xb 1
   have xb2 := Lib.cell_of_heap Xb 2
   have xb3 := Lib.cell_of_heap Xb 3
   have xb4 := Lib.cell_of_heap Xb 4
   have xb5 := Lib.cell_of_heap Xb 5
   have xb6 := Lib.cell_of_heap Xb 6
   simp at xy0 xy1 xy2 xy3 xy4 xy5 xy6 xb0 xb1 xb2 xb3 xb4 xb5 xb6
   clear Xy Xb
   go_wp2_with fail
   refine CT.out.mono ?_; rintro e w16 ⟨rfl, hb⟩
   replace HAC := Lib.hid (below_over HAC.out hb)
   clear CT hb xy0 xy1 xy2 xy3 xy4 xy5 xy6 xb0 xb1 xb2 xb3 xb4 xb5 xb6
   go_wp2_with fail
   go_ret
   exact ⟨rfl, below_over HWA.out HAC.out⟩
end Go.Proofs.Ytcdmgcgjonndpaa

/-  -/
namespace Go.Proofs.Ytcdmgcgjonndpaa
open Go Go.RowKit Go.WideShapes Go.ChangeShapes
section
variable {H : Type} {enc : TypeId × Value → H} {P : Program}
theorem post_of_below {f : Func} {s : ChangeSpec} {apart fresh handsOn again : Bool} {W W' : World} {args : Array Value} {v : Value} {ds gs : List (DataW H)} {before pa pv : List MemPlace}
    (hW : DataW.Whole enc P f.params.toList s.vars apart W args.toList ds gs before)
    (hres : ∀ (b : Nat) (sp : Nat → Bool) (hd : Bool), DataW.TrodAll enc P W' b sp hd f.resultTypes.toList (v.resultList f.resultTypes.size) (s.fn H (ds ++ gs)).results [])
    (hargs : ∀ sp : Nat → Bool, (∀ p ∈ before, sp p.block = true) → DataW.TrodAll enc P W' 0 sp true f.params.toList args.toList (s.fn H (ds ++ gs)).args pa)
    (hvars : ∀ sp : Nat → Bool, (∀ p ∈ before, sp p.block = true) → DataW.TrodVars enc P W' sp s.vars (s.fn H (ds ++ gs)).vars pv)
    (hps : before = pa ++ pv) (hb : Below W.heap.size W W')
    (hok : ∀ (j : Nat) (t : TypeId) (r : Value), f.resultTypes[j]? = some t → (v.resultList f.resultTypes.size)[j]? = some r → Value.okWide P W' .any 0 t r) :
    s.post enc P f apart fresh handsOn again W args v W' := by
  have hlt : ∀ p ∈ before, p.block < W.heap.size := fun p hp => hW.lt p hp
  have hold : ∀ p ∈ before, (fun b => decide (b < W.heap.size)) p.block = true := fun p hp => by simpa using hlt p hp
  refine ⟨ds, gs, before, [], pa, pv, hW, hres _ _ _, hargs _ hold, hvars _ hold, World.keptBut_mono (fun p hp => ⟨hp, ?_⟩) (hb.frame (· ∈ before)), fun _ => ?_⟩
  · rw [hps, List.mem_append] at hp
    exact Or.inr hp
  · obtain ⟨_, _, _, _, _, hz, hn⟩ := hW
    refine ⟨hok, _, _, ([] ++ pa) ++ pv, ⟨[] ++ pa, pv, trodAll_append (hargs _ (fun _ _ => rfl)) (hres _ _ _), hvars _ (fun _ _ => rfl), rfl, ?_, ?_⟩, ?_⟩
    · intro b off hp
      have hin : MemPlace.cell b off ∈ before := by rw [hps]; simpa using hp
      rw [hb.frozen (hlt _ hin)]
      exact hz b off hin
    · intro ha
      have := hn ha
      rw [hps] at this
      simpa using this
    · intro p hp _
      rw [hps]
      simpa using hp
theorem trodAll_stays (hl : laidOutB P = true) {W W' : World} {sp : Nat → Bool} (hb : Below W.heap.size W W') :
    ∀ (ts : List TypeId) (vs : List Value) (ds : List (DataW H)) (ps : List MemPlace), (∀ t ∈ ts, P.readableRec t = true ∧ t < P.types.size) →
      DataW.TrodAll enc P W 0 (fun _ => true) true ts vs ds ps → (∀ x ∈ ps, x.block < W.heap.size) → (∀ x ∈ ps, sp x.block = true) → DataW.TrodAll enc P W' 0 sp true ts vs ds ps
  | [], vs, ds, ps, _, h, _, _ => by
    obtain ⟨rfl, rfl, rfl⟩ := trodAll_nil h
    exact trodAll_mk0
  | t :: ts, vs, ds, ps, ht, h, hlt, hs => by
    obtain ⟨v, vs', d, ds', p, q, rfl, rfl, rfl, h0, h1⟩ := trodAll_cons h
    obtain ⟨hr, hrow⟩ := ht t (by simp)
    exact ⟨p, q, WideElems.Trod_stays hl hr hrow h0 (fun x hx => hb.same (hlt x (by simp [hx]))) (fun x hx => hs x (by simp [hx])),
      trodAll_stays hl hb ts vs' ds' q (fun u hu => ht u (by simp [hu])) h1 (fun x hx => hlt x (by simp [hx])) (fun x hx => hs x (by simp [hx])), rfl⟩
theorem law_post {f : Func} {s : ChangeSpec} {apart fresh handsOn again : Bool} {W W' : World} {args : Array Value} {ds gs : List (DataW H)} {before : List MemPlace} {tb : TypeId}
    (hl : laidOutB P = true) (hro : f.params.toList.all (fun t => P.readableRec t && decide (t < P.types.size)) = true) (hres : f.resultTypes = #[tb]) (hbool : P.underlying tb = some .bool) (hvars : s.vars = [])
    (hW : DataW.Whole enc P f.params.toList s.vars apart W args.toList ds gs before) (hb : Below W.heap.size W W')
    (hs : s.fn H (ds ++ gs) = { results := [.lit (.bool true)], args := ds }) :
    s.post enc P f apart fresh handsOn again W args (.bool true) W' := by
  have hW' := hW
  obtain ⟨p, q, hA, hV, hpq, _, _⟩ := hW
  rw [hvars] at hV
  obtain ⟨rfl, rfl⟩ := trodVars_none hV
  rw [List.append_nil] at hpq
  subst hpq
  have hlt : ∀ x ∈ before, x.block < W.heap.size := fun x hx => hW'.lt x hx
  have hro' : ∀ t ∈ f.params.toList, P.readableRec t = true ∧ t < P.types.size := fun t ht => by
    have := List.all_eq_true.1 hro t ht
    simpa using this
  refine post_of_below (pa := before) (pv := []) hW' ?_ ?_ ?_ (by simp) hb ?_
  · intro b sp hd
    rw [hs, hres]
    exact trodAll_mk1 (shut_bool hbool true)
  · intro sp hsp
    rw [hs]
    exact trodAll_stays hl hb _ _ _ _ hro' hA hlt hsp
  · intro sp _
    rw [hs, hvars]
    exact rfl
  · exact ok_one hres rfl (okWide_bool_mk hbool true)
end
end Go.Proofs.Ytcdmgcgjonndpaa

/-  -/
namespace Go.Proofs.Ytcdmgcgjonndpaa
open Go Go.ChangeShapes Go.WideShapes Go.ChangeAt Go.RowKit Go.Joins
theorem own : ownKnob Try.prog.godebug = none := by kernel_rfl
theorem laidOut : laidOutB Try.prog = true := by kernel_rfl
end Go.Proofs.Ytcdmgcgjonndpaa
