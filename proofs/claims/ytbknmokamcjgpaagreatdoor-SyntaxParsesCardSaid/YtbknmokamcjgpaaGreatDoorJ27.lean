/-
  Several texts in one: The walk of ExprAt: whatever tokens are handed in, whatever place is asked. · The library's listed variables: what a row's list gives of the powers of ten, of errors.errorType, and of strconv's two errors; a world for the witnesses in which they lie as the program's text lays them. · The last step of a law's row, over any program: a call that answers true and leaves all old memory as it was meets 'every argument reads as it read'. Nothing of this program is in it.
-/
import Derived.Test.YtbknmokamcjgpaaGreatDoorJ26
import Derived.Test.YtbknmokamcjgpaaGreatDoorRows
import Derived.Test.YtbknmokamcjgpaaGreatDoorJ08
import Derived.Test.YtbknmokamcjgpaaGreatDoorJ25
import Derived.Deep.DeepHandedRow
import Derived.Lib.LaidTab
import Derived.LaidLaws
import Derived.LaidHandle
import Derived.Stop.LaidErr
import Derived.Stop.Joined
import Derived.ProofKit
import Derived.Below
import Derived.Carry
import Derived.ChangeSame
import Derived.WideKeyArgs
/- The walk of ExprAt: whatever tokens are handed in, whatever place is asked. -/
namespace Go.Proofs.YtbknmokamcjgpaaGreatDoor
open Go.RowKit
open Go.Sort
open M

/-- Tokens handed in, with their kinds. -/
theorem TextsAt.kinds {w : World} {A : Option Addr} {n : Nat} {T : Nat → ByteArray} (h : TextsAt w A n T) (hs : ∀ j, j < n → (T j).size ≤ 1000) : ∃ K : Nat → Int, TokAt w A ⟨n, K, T⟩ := by
  have hx : ∀ i : Nat, ∃ x : Int, i < n → ∃ (g o : Nat) (y : Int), A = some ⟨g, o, none⟩ ∧ g < w.heap.size ∧ w.cell? ⟨g, o + i * 3, none⟩ = some (.int .i64 x) ∧ w.cell? ⟨g, o + i * 3 + 1, none⟩ = some (.int .i64 y) ∧ w.cell? ⟨g, o + i * 3 + 2, none⟩ = some (.string (T i)) ∧ (T i).size ≤ 9223372036854775807 := by
    intro i
    by_cases hi : i < n
    · obtain ⟨g, o, x, y, h1, h2, h3, h4, h5⟩ := h i hi
      exact ⟨x, fun _ => ⟨g, o, y, h1, h2, h3, h4, h5, by have := hs i hi; omega⟩⟩
    · exact ⟨0, fun h => absurd h hi⟩
  obtain ⟨K, hK⟩ := Classical.axiomOfChoice hx
  exact ⟨K, fun i hi => hK i hi⟩

/-- What is told of a place, whatever it is. -/
def atS (S : Toks) (x : Int) : (Ty × Nat) ⊕ (Nat × Int) :=
  if x < 0 ∨ (S.n : Int) < x then .inr (2, x) else match atR S x.toNat with
    | .ok t j _ => .inl (t, j)
    | .err b j => .inr (b, (j : Int))
/-- A Spot's two cells, at any place. -/
def SpX (g : Nat) (x : Int) (b : Nat) (w : World) : Prop := g < w.heap.size ∧ w.cell? ⟨g, 0, none⟩ = some (.int .i64 x) ∧ w.cell? ⟨g, 1, none⟩ = some (.iface 31 (.int .i64 b))
theorem SpAt.cellsX {g : Nat} {x : Int} {b : Nat} {w : World} (h : SpAt g x b w) : SpX g x b w := ⟨(Array.getElem?_eq_some_iff.1 h).1, by have := Lib.cell_of_heap h 0; simpa using this, by have := Lib.cell_of_heap h 1; simpa using this⟩
theorem SpX.below {g : Nat} {x : Int} {b : Nat} {w w' : World} (h : SpX g x b w) (hb : Below w.heap.size w w') : SpX g x b w' := ⟨Nat.lt_of_lt_of_le h.1 hb.size, (hb.cell (p := ⟨g, 0, none⟩) h.1).trans h.2.1, (hb.cell (p := ⟨g, 1, none⟩) h.1).trans h.2.2⟩

def CaOut (w : World) (S : Toks) (x : Int) (e : Ending) (w' : World) : Prop :=
  Below w.heap.size w w' ∧
  ((∃ (l : List Value) (t : Ty) (j : Nat), atS S x = .inl (t, j) ∧ e = .returned (.tuple #[.agg l.toArray, .int .i64 j, .nilIface]) ∧ TyAt w' l t) ∨
   (∃ (b g : Nat) (y : Int), atS S x = .inr (b, y) ∧ b ≠ 0 ∧ e = .returned (.tuple #[.agg #[.int .i64 0, .string ⟨#[]⟩, .int .i64 0, .string ⟨#[]⟩, .string ⟨#[]⟩, .slice none 0 0, .slice none 0 0], .int .i64 0, .iface 63 (.pointer (some ⟨g, 0, none⟩))]) ∧ SpX g y b w'))
def RaOut (w : World) (S : Toks) (x : Int) (e : Ending) (w' : World) : Prop :=
  Below w.heap.size w w' ∧
  ((∃ (l : List Value) (t : Ty) (j : Nat), atS S x = .inl (t, j) ∧ e = .returned (.tuple #[.agg l.toArray, .int .i64 j, .int .i64 0, .int .i64 (-1)]) ∧ TyAt w' l t) ∨
   (∃ (b : Nat) (y : Int), atS S x = .inr (b, y) ∧ b ≠ 0 ∧ e = .returned (.tuple #[.agg #[.int .i64 0, .string ⟨#[]⟩, .int .i64 0, .string ⟨#[]⟩, .string ⟨#[]⟩, .slice none 0 0, .slice none 0 0], .int .i64 0, .int .i64 b, .int .i64 y])))

theorem cat_all {A : Option Addr} {S : Toks} {cn : Nat} {w : World} (hT : TokAt w A S) (he : CEnv w) (hbig : S.n ≤ 5000) (hsm : ∀ i, i < S.n → (S.T i).size ≤ 1000) (x : Int) :
    Calls Tryz.prog 13 #[.slice A S.n cn, .int .i64 x] w (CaOut w S x) := by
  by_cases hx : x < 0 ∨ (S.n : Int) < x
  · refine (cat_out A S.n cn x hx w).mono ?_
    rintro e w' ⟨g, rfl, hg, hlt, hb⟩
    exact ⟨hb, .inr ⟨2, g, x, if_pos hx, by decide, rfl, hg.cellsX⟩⟩
  · obtain ⟨i, rfl⟩ : ∃ i : Nat, x = i := ⟨x.toNat, by omega⟩
    refine (cat_in (cn := cn) hT he (by omega) (fun j hj => by have := hsm j hj; omega) i (by omega)).mono ?_
    rintro e w' ⟨hb, ⟨l, t, j, c, hok, rfl, ht⟩ | ⟨b, j, g, herr, hb0, rfl, hsp⟩⟩
    · exact ⟨hb, .inl ⟨l, t, j, by unfold atS; rw [if_neg hx]; simp [hok], rfl, ht.free⟩⟩
    · exact ⟨hb, .inr ⟨b, g, j, by unfold atS; rw [if_neg hx]; simp [herr], hb0, rfl, hsp.cellsX⟩⟩
theorem rat_all {A : Option Addr} {S : Toks} {cn : Nat} {w : World} (hT : TokAt w A S) (hbig : S.n ≤ 5000) (x : Int) :
    Calls Tryz.prog 14 #[.slice A S.n cn, .int .i64 x] w (RaOut w S x) := by
  by_cases hx : x < 0 ∨ (S.n : Int) < x
  · refine (rat_out A S.n cn x hx w).mono ?_
    rintro e w' ⟨rfl, hb⟩
    exact ⟨hb, .inr ⟨2, x, if_pos hx, by decide, rfl⟩⟩
  · obtain ⟨i, rfl⟩ : ∃ i : Nat, x = i := ⟨x.toNat, by omega⟩
    refine (rat_in (cn := cn) hT (by omega) i (by omega)).mono ?_
    rintro e w' ⟨hb, ⟨l, t, j, c, hok, rfl, ht⟩ | ⟨b, j, herr, hb0, rfl⟩⟩
    · exact ⟨hb, .inl ⟨l, t, j, by unfold atS; rw [if_neg hx]; simp [hok], rfl, ht.free⟩⟩
    · exact ⟨hb, .inr ⟨b, j, by unfold atS; rw [if_neg hx]; simp [herr], hb0, rfl⟩⟩

set_option maxRecDepth 100000 in
set_option maxHeartbeats 4000000 in
theorem exprAt_any (A : Option Addr) (n cn : Nat) (T : Nat → ByteArray) (x : Int) (w : World) (hn : n ≤ 9223372036854775807) (hT : TextsAt w A n T) (he : CEnv w) (hg : ErrT w) :
    Calls Tryz.prog 4 #[.slice A n cn, .int .i64 x] w fun e w' => e = .returned (.bool true) ∧ Below w.heap.size w w' := by
  have UP := Lib.hid (up5_any w he hg)
  have HE := Lib.hid he
  have HG := Lib.hid hg
  have HT := Lib.hid hT
  have SZ : Hid (∀ w, Calls Tryz.prog 10 #[.agg #[.int .i64 0, .string ⟨#[]⟩, .int .i64 0, .string ⟨#[]⟩, .string ⟨#[]⟩, .slice none 0 0, .slice none 0 0], .agg #[.int .i64 0, .string ⟨#[]⟩, .int .i64 0, .string ⟨#[]⟩, .string ⟨#[]⟩, .slice none 0 0, .slice none 0 0]] w fun e w' => e = .returned (.bool true) ∧ Below w.heap.size w w') := Lib.hid (fun w => by
    have := same_any _ noT noT (Nat.le_refl _) _ _ w (noT_at w) (noT_at w)
    rwa [same_noT] at this)
  clear he hg hT
  by_cases h5 : 5000 < n
  · have h5' : (5000 : Int) < n := by omega
    go_enter Tryz.func4, Tryz.ntmps4
    go_wp2_with fail
    refine UP.out.mono ?_; rintro e w1 ⟨rfl, hb1⟩
    go_wp2_with fail
    go_ret
    exact ⟨rfl, hb1⟩
  · have h5' : ¬ (5000 : Int) < n := by omega
    have hn5 : n ≤ 5000 := by omega
    clear h5
    go_enter Tryz.func4, Tryz.ntmps4
    go_wp2_with fail
    refine UP.out.mono ?_; rintro e w1 ⟨rfl, hb1⟩
    have HT1 := Lib.hid (HT.out.below hb1)
    have HB1 := Lib.hid hb1
    clear hb1
    go_wp2_with fail
    go_loop [6] (fun i => ∃ k : Nat, k ≤ n ∧ i = .int .i64 k ∧ Hid (∀ j, j < k → (T j).size ≤ 1000)) (fun i => n - (intOf i).toNat)
    case atStart => exact ⟨0, by omega, rfl, Lib.hid (fun j hj => by omega)⟩
    case round =>
      obtain ⟨k, hk, rfl, HS⟩ := hrel
      by_cases hlt : k < n
      · obtain ⟨g, o, x0, y0, rfl, -, -, -, a2⟩ := HT1.out k hlt
        by_cases hz : 1000 < (T k).size
        · have hz' : (1000 : Int) < (T k).size := by omega
          go_wp2
          go_ret
          exact ⟨rfl, HB1.out⟩
        · have hz' : ¬ (1000 : Int) < (T k).size := by omega
          have HS1 : Hid (∀ j, j < k + 1 → (T j).size ≤ 1000) := Lib.hid (fun j hj => by
            rcases Nat.lt_or_ge j k with a | a
            · exact HS.out j a
            · rw [show j = k by omega]; omega)
          go_wp2
          go_round
          case rel => exact ⟨k + 1, by omega, by go_num, HS1⟩
          case measure => simp [intOf]; omega
      · obtain rfl : k = n := by omega
        obtain ⟨K, hK⟩ := HT1.out.kinds HS.out
        have CA : Hid (Calls Tryz.prog 13 #[.slice A k cn, .int .i64 x] w1 (CaOut w1 ⟨k, K, T⟩ x)) := Lib.hid (cat_all (S := ⟨k, K, T⟩) hK (HE.out.on HB1.out) hn5 HS.out x)
        have RA : Hid (∀ wz, Below w1.heap.size w1 wz → Calls Tryz.prog 14 #[.slice A k cn, .int .i64 x] wz (RaOut wz ⟨k, K, T⟩ x)) := Lib.hid (fun wz hb => rat_all (S := ⟨k, K, T⟩) (hK.below hb) hn5 x)
        clear hK UP h5' hk hlt hn5 hn
        go_wp2_with fail
        refine CA.out.mono ?_
        rintro e w2 ⟨hb2, ⟨l, t, j, hs, rfl, hT⟩ | ⟨b, g, y, hs, hb0, rfl, hsp⟩⟩
        · obtain ⟨An, cA, As, cS, rfl, -⟩ := hT.parts
          obtain ⟨w3, hw3⟩ : ∃ w3, w3 = w2.alloc (.cells #[.int .i64 t.kind, .string t.pkg, .int .i64 t.major, .string t.mod, .string t.name, .slice An t.names.length cA, .slice As t.subs.length cS] 26) := ⟨_, rfl⟩
          have B3 : Below w2.heap.size w2 w3 := by rw [hw3]; exact below_new (Below.refl _ _) _
          have O3 : w3.heap[w2.heap.size]? = some (.cells #[.int .i64 t.kind, .string t.pkg, .int .i64 t.major, .string t.mod, .string t.name, .slice An t.names.length cA, .slice As t.subs.length cS] 26 (0, 0)) := by rw [hw3]; exact heap_alloc_new w2 _
          have B13 := below_over hb2 B3
          have B03 := Lib.hid (below_over HB1.out B13)
          have PR := Lib.hid (RA.out w3 B13)
          have HT3 : Hid (TyV w3 (.agg #[.int .i64 t.kind, .string t.pkg, .int .i64 t.major, .string t.mod, .string t.name, .slice An t.names.length cA, .slice As t.subs.length cS]) t) := Lib.hid ((show TyV w2 (.agg #[.int .i64 t.kind, .string t.pkg, .int .i64 t.major, .string t.mod, .string t.name, .slice An t.names.length cA, .slice As t.subs.length cS]) t from ⟨_, rfl, hT⟩).below B3)
          have HO3 := Lib.hid O3
          have HW3 := Lib.hid hw3
          have HSS := Lib.hid hs
          clear hw3 hb2 B3 B13 O3 hT CA RA hs
          go_upto_region 10 with fail
          rw [← HW3.out]
          go_wp2_with fail
          refine PR.out.mono ?_
          rintro e w4 ⟨hb4, ⟨l, t', j', hs', rfl, hT⟩ | ⟨b, y, hs', -⟩⟩
          rotate_left
          · cases HSS.out.symm.trans hs'
          cases HSS.out.symm.trans hs'
          obtain ⟨Bn, dA, Bs, dS, rfl, -⟩ := hT.parts
          obtain ⟨w5, hw5⟩ : ∃ w5, w5 = w4.alloc (.cells #[.int .i64 t.kind, .string t.pkg, .int .i64 t.major, .string t.mod, .string t.name, .slice Bn t.names.length dA, .slice Bs t.subs.length dS] 26) := ⟨_, rfl⟩
          have B5 : Below w4.heap.size w4 w5 := by rw [hw5]; exact below_new (Below.refl _ _) _
          have O5 : w5.heap[w4.heap.size]? = some (.cells #[.int .i64 t.kind, .string t.pkg, .int .i64 t.major, .string t.mod, .string t.name, .slice Bn t.names.length dA, .slice Bs t.subs.length dS] 26 (0, 0)) := by rw [hw5]; exact heap_alloc_new w4 _
          have B35 := below_over hb4 B5
          have SM := same_any _ t t (Nat.le_refl _) (.agg #[.int .i64 t.kind, .string t.pkg, .int .i64 t.major, .string t.mod, .string t.name, .slice An t.names.length cA, .slice As t.subs.length cS]) (.agg #[.int .i64 t.kind, .string t.pkg, .int .i64 t.major, .string t.mod, .string t.name, .slice Bn t.names.length dA, .slice Bs t.subs.length dS]) w5 (HT3.out.below B35) ((show TyV w4 (.agg #[.int .i64 t.kind, .string t.pkg, .int .i64 t.major, .string t.mod, .string t.name, .slice Bn t.names.length dA, .slice Bs t.subs.length dS]) t from ⟨_, rfl, hT⟩).below B5)
          rw [(sameT_iff t t).2 rfl] at SM
          have HSM := Lib.hid SM
          have O35 := (B35.block _ (Array.getElem?_eq_some_iff.1 HO3.out).1).trans HO3.out
          have B05 := Lib.hid (below_over B03.out B35)
          have x0 := Lib.cell_of_heap O35 0
          have x1 := Lib.cell_of_heap O35 1
          have x2 := Lib.cell_of_heap O35 2
          have x3 := Lib.cell_of_heap O35 3
          have x4 := Lib.cell_of_heap O35 4
          have x5 := Lib.cell_of_heap O35 5
          have x6 := Lib.cell_of_heap O35 6
          have y0 := Lib.cell_of_heap O5 0
          have y1 := Lib.cell_of_heap O5 1
          have y2 := Lib.cell_of_heap O5 2
          have y3 := Lib.cell_of_heap O5 3
          have y4 := Lib.cell_of_heap O5 4
          have y5 := Lib.cell_of_heap O5 5
          have y6 := Lib.cell_of_heap O5 6
          simp at x0 x1 x2 x3 x4 x5 x6 y0 y1 y2 y3 y4 y5 y6
          have HW5 := Lib.hid hw5
          clear hw5 hb4 B5 O5 B35 hT SM O35 HT3 HO3 HW3 hs' PR
          go_upto_region 11 with fail
          rw [← HW5.out]
          go_wp2_with fail
          refine HSM.out.mono ?_; rintro e w6 ⟨rfl, hb6⟩
          go_wp2_with fail
          go_ret
          exact ⟨rfl, below_over B05.out hb6⟩
        · obtain ⟨w3, hw3⟩ : ∃ w3, w3 = w2.alloc (.cells #[.int .i64 0, .string ⟨#[]⟩, .int .i64 0, .string ⟨#[]⟩, .string ⟨#[]⟩, .slice none 0 0, .slice none 0 0] 26) := ⟨_, rfl⟩
          have B3 : Below w2.heap.size w2 w3 := by rw [hw3]; exact below_new (Below.refl _ _) _
          have O3 : w3.heap[w2.heap.size]? = some (.cells #[.int .i64 0, .string ⟨#[]⟩, .int .i64 0, .string ⟨#[]⟩, .string ⟨#[]⟩, .slice none 0 0, .slice none 0 0] 26 (0, 0)) := by rw [hw3]; exact heap_alloc_new w2 _
          have B13 := below_over hb2 B3
          have B03 := Lib.hid (below_over HB1.out B13)
          have PR := Lib.hid (RA.out w3 B13)
          have HSP := Lib.hid (hsp.below B3)
          have HO3 := Lib.hid O3
          have HW3 := Lib.hid hw3
          have HSS := Lib.hid hs
          have HB0 := Lib.hid hb0
          clear hw3 hb2 B3 B13 O3 hsp CA RA hs hb0
          go_upto_region 10 with fail
          rw [← HW3.out]
          go_wp2_with fail
          refine PR.out.mono ?_
          rintro e w4 ⟨hb4, ⟨l, t', j', hs', -⟩ | ⟨b', y', hs', -, rfl⟩⟩
          · cases HSS.out.symm.trans hs'
          cases HSS.out.symm.trans hs'
          obtain ⟨w5, hw5⟩ : ∃ w5, w5 = w4.alloc (.cells #[.int .i64 0, .string ⟨#[]⟩, .int .i64 0, .string ⟨#[]⟩, .string ⟨#[]⟩, .slice none 0 0, .slice none 0 0] 26) := ⟨_, rfl⟩
          have B5 : Below w4.heap.size w4 w5 := by rw [hw5]; exact below_new (Below.refl _ _) _
          have B35 := below_over hb4 B5
          have hsp5 := HSP.out.below B35
          have TD := Lib.hid (isSpot_any g y b w5 (HG.out.on (below_over B03.out B35)) hsp5.1 hsp5.2.1 hsp5.2.2)
          have HO5 := Lib.hid ((B35.block _ (Array.getElem?_eq_some_iff.1 HO3.out).1).trans HO3.out)
          have B05 := Lib.hid (below_over B03.out B35)
          have HW5 := Lib.hid hw5
          have hz0 := HB0.out
          have hz1 : (((b : Nat) : Int) == 0) = false := by simp; omega
          have hz2 : (((b : Nat) : Int) != 0) = true := by simp; omega
          clear hw5 hb4 B5 B35 HO3 HW3 hsp5 hs' PR hz0
          go_upto_region 11 with fail
          rw [← HW5.out]
          go_wp2_with fail
          refine TD.out.mono ?_; rintro e w6 ⟨rfl, hb6⟩
          have O6 := (hb6.block _ (Array.getElem?_eq_some_iff.1 HO5.out).1).trans HO5.out
          have B06 := Lib.hid (below_over B05.out hb6)
          have x0 := Lib.cell_of_heap O6 0
          have x1 := Lib.cell_of_heap O6 1
          have x2 := Lib.cell_of_heap O6 2
          have x3 := Lib.cell_of_heap O6 3
          have x4 := Lib.cell_of_heap O6 4
          have x5 := Lib.cell_of_heap O6 5
          have x6 := Lib.cell_of_heap O6 6
          simp at x0 x1 x2 x3 x4 x5 x6
          clear hb6 O6 TD
          go_wp2_with fail
          refine (SZ.out _).mono ?_; rintro e w7 ⟨rfl, hb7⟩
          go_wp2_with fail
          go_ret
          exact ⟨rfl, below_over B06.out hb7⟩

end Go.Proofs.YtbknmokamcjgpaaGreatDoor

/- The library's listed variables: what a row's list gives of the powers of ten, of errors.errorType, and of strconv's two errors; a world for the witnesses in which they lie as the program's text lays them. -/
namespace Go.Proofs.YtbknmokamcjgpaaGreatDoor
open Go Go.ChangeShapes Go.WideShapes Go.ChangeAt Go.RowKit

theorem own : ownKnob Tryz.prog.godebug = none := by kernel_rfl
theorem laidOut : laidOutB Tryz.prog = true := by kernel_rfl
theorem gPow : Tryz.prog.globalNamed "internal/strconv.uint64pow10" = some 2 := by kernel_rfl
theorem gPowType : (Tryz.prog.globals[2]?).map (·.type) = some 223 := by kernel_rfl
theorem cellsPow : Tryz.prog.cellsOf 223 = 20 := by kernel_rfl
theorem cellsU64 : Tryz.prog.cellsOf 200 = 1 := by kernel_rfl
theorem powData : (Rows.laid_internal_strconv_uint64pow10 : DataW Unit) = Lib.tabData .u64 Lib.pow10Tab := by kernel_rfl
theorem errVar : Tryz.prog.globalNamed "errors.errorType" = some 0 := by kernel_rfl
theorem errRt : (Tryz.prog.cutTypes.find? (·.1 == "internal/reflectlite.rtype")).map (·.2) = some 160 := by kernel_rfl
theorem errRow : ((List.range 271).filter fun t => Tryz.prog.rowNamed t [101, 114, 114, 111, 114]) = [28] := by kernel_rfl
theorem typesSize : Tryz.prog.types.size = 271 := by kernel_rfl
theorem gSyn : Tryz.prog.globalNamed "strconv.ErrSyntax" = some 3 := by kernel_rfl
theorem gSynType : (Tryz.prog.globals[3]?).map (·.type) = some 28 := by kernel_rfl
theorem gRng : Tryz.prog.globalNamed "strconv.ErrRange" = some 4 := by kernel_rfl
theorem gRngType : (Tryz.prog.globals[4]?).map (·.type) = some 28 := by kernel_rfl
theorem cellsES : Tryz.prog.cellsOf 242 = 1 := by kernel_rfl
theorem cellsStr : Tryz.prog.cellsOf 9 = 1 := by kernel_rfl

/-- The list of the laws' rows. -/
def laidL : List (String × DataW Unit) := [("math/bits.deBruijn32tab", Rows.laid_math_bits_deBruijn32tab), ("math/bits.deBruijn64tab", Rows.laid_math_bits_deBruijn64tab), ("internal/strconv.uint64pow10", Rows.laid_internal_strconv_uint64pow10), ("errors.errorType", Rows.laid_errors_errorType), ("strconv.ErrRange", Rows.laid_strconv_ErrRange), ("strconv.ErrSyntax", Rows.laid_strconv_ErrSyntax)]
theorem parts_of {W : World} (h : laidMetH Tryz.prog laidL W) :
    laidMet Tryz.prog [("math/bits.deBruijn32tab", Rows.laid_math_bits_deBruijn32tab), ("math/bits.deBruijn64tab", Rows.laid_math_bits_deBruijn64tab), ("internal/strconv.uint64pow10", Rows.laid_internal_strconv_uint64pow10), ("strconv.ErrRange", Rows.laid_strconv_ErrRange), ("strconv.ErrSyntax", Rows.laid_strconv_ErrSyntax)] W ∧ handlesMet Tryz.prog [("errors.errorType", Rows.laid_errors_errorType)] W := h

/-- What the list gives a walk. -/
theorem errT_of {W : World} (h : laidMetH Tryz.prog laidL W) : ErrT W := by
  obtain ⟨name, u, ty, e1, e2, e3, e4, e5⟩ := (parts_of h).2 _ (List.mem_singleton.2 rfl)
  have en : name = [101, 114, 114, 111, 114] := (Option.some.inj e1).symm
  subst en
  obtain rfl := Option.some.inj (errRt.symm.trans e2)
  have hm : ty ∈ (List.range 271).filter fun t => Tryz.prog.rowNamed t [101, 114, 114, 111, 114] := List.mem_filter.2 ⟨List.mem_range.2 (by rw [← typesSize]; exact e3), e4⟩
  rw [errRow] at hm
  obtain rfl := List.mem_singleton.1 hm
  have hh : typeHandle Tryz.prog 28 = .pointer (some ⟨7, 28, none⟩) := by kernel_rfl
  rw [hh] at e5
  unfold ErrT
  simpa using World.var?_cell errVar e5 0
theorem rowES (u : TypeId) (s : String) (hs : "*" ++ "errors.errorString" = s) (h : Tryz.prog.typeName? 3 u = some s) : u = 240 := by
  subst hs
  exact typeName_ptr_named (nm := "errors.errorString") (by kernel_rfl) (by kernel_rfl) (by decide) u h
theorem cenv_of {W : World} (h : laidMetH Tryz.prog laidL W) : CEnv W := by
  have h3 := (parts_of h).1.tail.tail
  have h4 := h3.tail
  have h5 := h4.tail
  have h3' := h3
  rw [powData] at h3'
  obtain ⟨a4, s4, v4, -⟩ := laid_sentinel h4 gRng gRngType Tryz.underlying28 (fun u hu => rowES u _ (by kernel_rfl) hu) Tryz.underlying240 Tryz.underlying242 rfl rfl Tryz.underlying9 cellsES cellsStr
  obtain ⟨a5, s5, v5, -⟩ := laid_sentinel h5 gSyn gSynType Tryz.underlying28 (fun u hu => rowES u _ (by kernel_rfl) hu) Tryz.underlying240 Tryz.underlying242 rfl rfl Tryz.underlying9 cellsES cellsStr
  exact ⟨Lib.tabIs_of_head gPow gPowType Tryz.underlying223 Tryz.underlying200 cellsU64 cellsPow h3', ⟨_, _, by simpa using World.var?_cell gSyn v5 0⟩, ⟨_, _, by simpa using World.var?_cell gRng v4 0⟩⟩

/-- A table's cells, laid. -/
def putTab (g : Nat) (k : IntKind) (zs : List Int) (h : Array Obj) : Array Obj := h.modify g fun o =>
  match o with
  | .cells _ t frozen => .cells (zs.map fun z => Value.int k z).toArray t frozen
  | o => o
def putOne (g : Nat) (v : Value) (h : Array Obj) : Array Obj := h.modify g fun o =>
  match o with
  | .cells _ t frozen => .cells #[v] t frozen
  | o => o
def tab32 : List Int := [0, 1, 28, 2, 29, 14, 24, 3, 30, 22, 20, 15, 25, 17, 4, 8, 31, 27, 13, 23, 21, 19, 16, 7, 26, 12, 18, 6, 11, 5, 10, 9]
def tab64 : List Int := [0, 1, 56, 2, 57, 49, 28, 3, 61, 58, 42, 50, 38, 29, 17, 4, 62, 47, 59, 36, 45, 43, 51, 22, 53, 39, 33, 30, 24, 18, 12, 5, 63, 55, 48, 27, 60, 41, 37, 16, 46, 35, 44, 21, 52, 32, 23, 11, 54, 26, 40, 15, 34, 20, 31, 10, 25, 14, 19, 9, 13, 8, 7, 6]
def txtRng : ByteArray := ⟨#[118, 97, 108, 117, 101, 32, 111, 117, 116, 32, 111, 102, 32, 114, 97, 110, 103, 101]⟩
def txtSyn : ByteArray := ⟨#[105, 110, 118, 97, 108, 105, 100, 32, 115, 121, 110, 116, 97, 120]⟩
/-- A world for the witness: the settled one, the listed variables laid. -/
noncomputable def laidWorld (os : Os) : World :=
  let w0 := World.holding Tryz.prog os ⟨#[], #[], []⟩
  let n := w0.heap.size
  { w0 with heap := putOne 4 (.iface 240 (.pointer (some ⟨n, 0, none⟩))) (putOne 3 (.iface 240 (.pointer (some ⟨n + 1, 0, none⟩)))
      (putOne 0 (.iface 160 (.agg #[.pointer (some ⟨7, 28, none⟩)]))
        (putTab 6 .u8 tab64 (putTab 5 .u8 tab32 (putTab 2 .u64 Lib.pow10Tab
          ((w0.heap.push (.cells #[.string txtRng] 242 (0, 0))).push (.cells #[.string txtSyn] 242 (0, 0)))))))) }
theorem laidWorld_met (os : Os) (args : Array Value) (h : laidMet Tryz.prog [("math/bits.deBruijn32tab", Rows.laid_math_bits_deBruijn32tab), ("math/bits.deBruijn64tab", Rows.laid_math_bits_deBruijn64tab), ("internal/strconv.uint64pow10", Rows.laid_internal_strconv_uint64pow10), ("strconv.ErrRange", Rows.laid_strconv_ErrRange), ("strconv.ErrSyntax", Rows.laid_strconv_ErrSyntax)] ((laidWorld os).forCall (fun _ _ => 0) ⟨#[], args, []⟩).memory) :
    laidMetH Tryz.prog laidL ((laidWorld os).forCall (fun _ _ => 0) ⟨#[], args, []⟩).memory :=
  laidMetH_of_parts h (by kernel_rfl)

end Go.Proofs.YtbknmokamcjgpaaGreatDoor

/- The last step of a law's row, over any program: a call that answers true and leaves all old memory as it was meets 'every argument reads as it read'. Nothing of this program is in it. -/
namespace Go.Proofs.YtbknmokamcjgpaaGreatDoor
open Go Go.RowKit Go.WideShapes Go.ChangeShapes
section
variable {H : Type} {enc : TypeId × Value → H} {P : Program}

theorem post_of_below {f : Func} {s : ChangeSpec} {apart fresh handsOn again : Bool} {W W' : World} {args : Array Value} {v : Value} {ds gs : List (DataW H)} {before pa pv : List MemPlace}
    (hW : DataW.Whole enc P f.params.toList s.vars apart W args.toList ds gs before)
    (hres : ∀ (b : Nat) (sp : Nat → Bool) (hd : Bool), DataW.TrodAll enc P W' b sp hd f.resultTypes.toList (v.resultList f.resultTypes.size) (s.fn H (ds ++ gs)).results [])
    (hargs : ∀ sp : Nat → Bool, (∀ p ∈ before, sp p.block = true) → DataW.TrodAll enc P W' 0 sp true f.params.toList args.toList (s.fn H (ds ++ gs)).args pa)
    (hvars : ∀ sp : Nat → Bool, (∀ p ∈ before, sp p.block = true) → DataW.TrodVars enc P W' sp s.vars (s.fn H (ds ++ gs)).vars pv)
    (hps : before = pa ++ pv) (hb : Below W.heap.size W W')
    (hok : ∀ (j : Nat) (t : TypeId) (r : Value), f.resultTypes[j]? = some t → (v.resultList f.resultTypes.size)[j]? = some r → Value.okWide P W' .any 0 t r) :
    s.post enc P f apart fresh handsOn again W args v W' := by
  have hlt : ∀ p ∈ before, p.block < W.heap.size := fun p hp => hW.lt p hp
  have hold : ∀ p ∈ before, (fun b => decide (b < W.heap.size)) p.block = true := fun p hp => by simpa using hlt p hp
  refine ⟨ds, gs, before, [], pa, pv, hW, hres _ _ _, hargs _ hold, hvars _ hold, World.keptBut_mono (fun p hp => ⟨hp, ?_⟩) (hb.frame (· ∈ before)), fun _ => ?_⟩
  · rw [hps, List.mem_append] at hp
    exact Or.inr hp
  · obtain ⟨_, _, _, _, _, hz, hn⟩ := hW
    refine ⟨hok, _, _, ([] ++ pa) ++ pv, ⟨[] ++ pa, pv, trodAll_append (hargs _ (fun _ _ => rfl)) (hres _ _ _), hvars _ (fun _ _ => rfl), rfl, ?_, ?_⟩, ?_⟩
    · intro b off hp
      have hin : MemPlace.cell b off ∈ before := by rw [hps]; simpa using hp
      rw [hb.frozen (hlt _ hin)]
      exact hz b off hin
    · intro ha
      have := hn ha
      rw [hps] at this
      simpa using this
    · intro p hp _
      rw [hps]
      simpa using hp

/-- Arguments that were only read read as they did. -/
theorem trodAll_stays (hl : laidOutB P = true) {W W' : World} {sp : Nat → Bool} (hb : Below W.heap.size W W') :
    ∀ (ts : List TypeId) (vs : List Value) (ds : List (DataW H)) (ps : List MemPlace), (∀ t ∈ ts, P.readableRec t = true ∧ t < P.types.size) →
      DataW.TrodAll enc P W 0 (fun _ => true) true ts vs ds ps → (∀ x ∈ ps, x.block < W.heap.size) → (∀ x ∈ ps, sp x.block = true) → DataW.TrodAll enc P W' 0 sp true ts vs ds ps
  | [], vs, ds, ps, _, h, _, _ => by
    obtain ⟨rfl, rfl, rfl⟩ := trodAll_nil h
    exact trodAll_mk0
  | t :: ts, vs, ds, ps, ht, h, hlt, hs => by
    obtain ⟨v, vs', d, ds', p, q, rfl, rfl, rfl, h0, h1⟩ := trodAll_cons h
    obtain ⟨hr, hrow⟩ := ht t (by simp)
    exact ⟨p, q, WideElems.Trod_stays hl hr hrow h0 (fun x hx => hb.same (hlt x (by simp [hx]))) (fun x hx => hs x (by simp [hx])),
      trodAll_stays hl hb ts vs' ds' q (fun u hu => ht u (by simp [hu])) h1 (fun x hx => hlt x (by simp [hx])) (fun x hx => hs x (by simp [hx])), rfl⟩

/-- The last step of a law: it answered true, and old memory stands. -/
theorem law_post {f : Func} {s : ChangeSpec} {apart fresh handsOn again : Bool} {W W' : World} {args : Array Value} {ds gs : List (DataW H)} {before : List MemPlace} {tb : TypeId}
    (hl : laidOutB P = true) (hro : f.params.toList.all (fun t => P.readableRec t && decide (t < P.types.size)) = true) (hres : f.resultTypes = #[tb]) (hbool : P.underlying tb = some .bool) (hvars : s.vars = [])
    (hW : DataW.Whole enc P f.params.toList s.vars apart W args.toList ds gs before) (hb : Below W.heap.size W W')
    (hs : s.fn H (ds ++ gs) = { results := [.lit (.bool true)], args := ds }) :
    s.post enc P f apart fresh handsOn again W args (.bool true) W' := by
  have hW' := hW
  obtain ⟨p, q, hA, hV, hpq, _, _⟩ := hW
  rw [hvars] at hV
  obtain ⟨rfl, rfl⟩ := trodVars_none hV
  rw [List.append_nil] at hpq
  subst hpq
  have hlt : ∀ x ∈ before, x.block < W.heap.size := fun x hx => hW'.lt x hx
  have hro' : ∀ t ∈ f.params.toList, P.readableRec t = true ∧ t < P.types.size := fun t ht => by
    have := List.all_eq_true.1 hro t ht
    simpa using this
  refine post_of_below (pa := before) (pv := []) hW' ?_ ?_ ?_ (by simp) hb ?_
  · intro b sp hd
    rw [hs, hres]
    exact trodAll_mk1 (shut_bool hbool true)
  · intro sp hsp
    rw [hs]
    exact trodAll_stays hl hb _ _ _ _ hro' hA hlt hsp
  · intro sp _
    rw [hs, hvars]
    exact rfl
  · exact ok_one hres rfl (okWide_bool_mk hbool true)
end
end Go.Proofs.YtbknmokamcjgpaaGreatDoor
