/-
  Several texts in one: The reference's Few of environments. · The walk of ExpandPlain: whatever is handed in. · The library's tables: what a row's list gives of the powers of ten; a world for the witnesses in which the listed tables lie as the program's text lays them. · The last step of a law's row, over any program: a call that answers true and leaves all old memory as it was meets 'every argument reads as it read'. Nothing of this program is in it. · The bounds of an int that is handed in.
-/
import Derived.Test.YtkgmdbkcldojnaaGreatDoorJ15
import Derived.Test.YtkgmdbkcldojnaaGreatDoorJ14
import Derived.Test.YtkgmdbkcldojnaaGreatDoorJ24
import Derived.Test.YtkgmdbkcldojnaaGreatDoorRows
import Derived.Test.YtkgmdbkcldojnaaGreatDoorJ09
import Derived.Deep.DeepHandedRow
import Derived.Lib.LaidTab
import Derived.Stop.LaidErr
import Derived.ProofKit
import Derived.Below
import Derived.Carry
import Derived.ChangeSame
import Derived.WideKeyArgs
import Derived.Test.YtkgmdbkcldojnaaGreatDoorJ21
/- The reference's Few of environments. -/
namespace Go.Proofs.YtkgmdbkcldojnaaGreatDoor
open Go.RowKit
open Go.Sort
open M

def fewNm (x : Nm) : Bool := fewB x.typ
def fewI (x : If) : Bool := decide (x.types.length ≤ 200) && (decide (x.vals.length ≤ 200) && (x.types.all fewNm && x.vals.all fewNm))
def fewE (env : List If) : Bool := decide (env.length ≤ 200) && env.all fewI

set_option maxRecDepth 100000 in
set_option maxHeartbeats 8000000 in
theorem rfew8_any (A : Option Addr) (c : Nat) (env : List If) (w : World) (hE : RowIn ifR w A env) (hel : env.length ≤ 9223372036854775807) :
    Calls Tryz.prog 9 #[.slice A env.length c] w fun e w' => e = .returned (.bool (fewE env)) ∧ Below w.heap.size w w' := by
  obtain ⟨V, hV⟩ : ∃ V, fewE env = V := ⟨_, rfl⟩
  rw [hV]
  have HV : Hid ((decide (env.length ≤ 200) && env.all fewI) = V) := Lib.hid hV
  obtain ⟨ne, hne⟩ : ∃ ne, ne = env.length := ⟨_, rfl⟩
  rw [← hne] at hel HV
  rw [← hne]
  have HN := Lib.hid hne
  have HE := Lib.hid hE
  clear hV hne hE
  by_cases h2 : 200 < ne
  · have e1 : (200 : Int) < ne := by omega
    have RV : V = false := by rw [← HV.out, show decide (ne ≤ 200) = false by simp; omega]; rfl
    subst RV
    go_enter Tryz.func9, Tryz.ntmps9
    go_wp2_with fail
    go_ret
    exact ⟨rfl, Below.refl _ _⟩
  have e1 : ¬ (200 : Int) < ne := by omega
  have HV1 : Hid (env.all fewI = V) := Lib.hid (by rw [← HV.out, decide_eq_true (show ne ≤ 200 by omega)]; rfl)
  clear HV
  go_enter Tryz.func9, Tryz.ntmps9
  go_wp2_with fail
  clear e1
  go_loopw [3] (fun iv wr => ∃ j : Nat, j ≤ ne ∧ iv = .int .i64 j ∧ Hid ((env.take j).all fewI = true) ∧ Below w.heap.size w wr) (fun iv _ => ne - (intOf iv).toNat)
  case atStart => exact ⟨0, by omega, rfl, Lib.hid (by simp), Below.refl _ _⟩
  case round =>
    obtain ⟨j, hj, rfl, HQ, hb⟩ := hrel
    obtain ⟨wo, rfl⟩ : ∃ wo : World, wo = wr := ⟨_, rfl⟩
    have HBo := Lib.hid hb
    by_cases hlt : j < ne
    · obtain ⟨x, hx⟩ : ∃ x, env[j]? = some x := ⟨_, List.getElem?_eq_getElem (by rw [← HN.out]; exact hlt)⟩
      obtain ⟨g, o, At, ct, Av, cv, rfl, hgo, -, -, -, g3, g4, -, -, -, -, hT, hVL⟩ := (HE.out.below hb).ifc hx
      have HX := Lib.hid hx
      have HT := Lib.hid hT
      have HVL := Lib.hid hVL
      obtain ⟨nt, hnt⟩ : ∃ nt, nt = x.types.length := ⟨_, rfl⟩
      obtain ⟨nv, hnv⟩ : ∃ nv, nv = x.vals.length := ⟨_, rfl⟩
      rw [← hnt] at g3
      rw [← hnv] at g4
      have HL3 := Lib.hid hnt
      have HL4 := Lib.hid hnv
      have E3 := Lib.hid g3
      have E4 := Lib.hid g4
      have hj0 : (0 : Int) ≤ j := by omega
      have hj1 : (j : Int) < ne := by omega
      have OUT : Hid (Below w.heap.size w wo) := Lib.hid hb
      clear hx hT hVL hnt hnv hb
      by_cases ht : 200 < nt
      · have q1 : (200 : Int) < nt := by omega
        have RV : V = false := by
          rw [← HV1.out]
          refine all_one _ _ _ _ HX.out ?_
          unfold fewI; rw [← HL3.out, decide_eq_false (by omega)]; rfl
        subst RV
        go_wp2_with fail
        go_ret
        exact ⟨rfl, OUT.out⟩
      have q1 : ¬ (200 : Int) < nt := by omega
      by_cases hv : 200 < nv
      · have q2 : (200 : Int) < nv := by omega
        have RV : V = false := by
          rw [← HV1.out]
          refine all_one _ _ _ _ HX.out ?_
          unfold fewI; rw [← HL4.out, decide_eq_false (show ¬ nv ≤ 200 by omega)]; simp
        subst RV
        go_wp2_with fail
        go_ret
        exact ⟨rfl, OUT.out⟩
      have q2 : ¬ (200 : Int) < nv := by omega
      have TL : Hid (x.types.length ≤ 200) := Lib.hid (by rw [← HL3.out]; omega)
      have VL : Hid (x.vals.length ≤ 200) := Lib.hid (by rw [← HL4.out]; omega)
      clear ht hv
      go_wp2_with fail
      have hn3 : nt ≤ 200 := by omega
      have hn4 : nv ≤ 200 := by omega
      clear q1 q2 g3 g4
      go_loopw [4] (fun iv wr => ∃ k : Nat, k ≤ nt ∧ iv = .int .i64 k ∧ Hid ((x.types.take k).all fewNm = true) ∧ Below wo.heap.size wo wr) (fun iv _ => nt - (intOf iv).toNat)
      case atStart => exact ⟨0, by omega, rfl, Lib.hid (by simp), Below.refl _ _⟩
      case round =>
        obtain ⟨k, hk, rfl, HQk, hbk⟩ := hrel
        obtain ⟨wk, rfl⟩ : ∃ wk : World, wk = wr := ⟨_, rfl⟩
        have HBk := Lib.hid hbk
        have HBW := Lib.hid (below_over HBo.out hbk)
        have g3 := (hbk.cell (p := ⟨g, _, none⟩) hgo).trans E3.out
        by_cases hlk : k < nt
        · obtain ⟨z, hz⟩ : ∃ z, x.types[k]? = some z := ⟨_, List.getElem?_eq_getElem (by rw [← HL3.out]; exact hlk)⟩
          obtain ⟨gt, ot, Bn, cB, Bs, dB, rfl, hgt, -, f0, f1, f2, f3, f4, f5, f6, hTz, -⟩ := (HT.out.below hbk).nm hz
          have FW := Lib.hid (fewB_any z.typ _ wk ⟨_, rfl, hTz⟩)
          have HZ := Lib.hid hz
          have hk0 : (0 : Int) ≤ k := by omega
          have hk1 : (k : Int) < nt := by omega
          clear hz hTz hbk
          go_wp2_with fail
          refine FW.out.mono ?_; rintro e w3 ⟨rfl, hb3⟩
          have HB3 := Lib.hid (below_over HBk.out hb3)
          have FIN := Lib.hid (below_over HBW.out hb3)
          obtain ⟨q, hq⟩ : ∃ q, fewB z.typ = q := ⟨_, rfl⟩
          rw [hq]
          have HQ2 := Lib.hid hq
          clear hb3 f0 f1 f2 f3 f4 f5 f6 hq FW g3
          cases q with
          | false =>
            have RV : V = false := by
              rw [← HV1.out]
              refine all_one _ _ _ _ HX.out ?_
              have h1 : x.types.all fewNm = false := all_one _ _ _ _ HZ.out HQ2.out
              unfold fewI; rw [h1]; simp
            subst RV
            go_wp2_with fail
            go_ret
            exact ⟨rfl, FIN.out⟩
          | true =>
            go_wp2_with fail
            go_roundw
            case rel => exact ⟨k + 1, by omega, by go_num, Lib.hid (by rw [all_snoc _ _ _ _ HZ.out, HQk.out]; exact HQ2.out), HB3.out⟩
            case measure => simp [intOf]; omega
        · have AL3 : Hid (x.types.all fewNm = true) := Lib.hid (by rw [← HQk.out, List.take_of_length_le (by rw [← HL3.out]; omega)])
          have g4 := (HBk.out.cell (p := ⟨g, _, none⟩) hgo).trans E4.out
          clear hbk
          go_wp2_with fail
          clear g3 g4
          go_loopw [6] (fun iv wr => ∃ k : Nat, k ≤ nv ∧ iv = .int .i64 k ∧ Hid ((x.vals.take k).all fewNm = true) ∧ Below wo.heap.size wo wr) (fun iv _ => nv - (intOf iv).toNat)
          case atStart => exact ⟨0, by omega, rfl, Lib.hid (by simp), HBk.out⟩
          case round =>
            obtain ⟨k, hk, rfl, HQk, hbk⟩ := hrel
            obtain ⟨wk, rfl⟩ : ∃ wk : World, wk = wr := ⟨_, rfl⟩
            have HBk := Lib.hid hbk
            have HBW := Lib.hid (below_over HBo.out hbk)
            have g4 := (hbk.cell (p := ⟨g, _, none⟩) hgo).trans E4.out
            by_cases hlk : k < nv
            · obtain ⟨z, hz⟩ : ∃ z, x.vals[k]? = some z := ⟨_, List.getElem?_eq_getElem (by rw [← HL4.out]; exact hlk)⟩
              obtain ⟨gt, ot, Bn, cB, Bs, dB, rfl, hgt, -, f0, f1, f2, f3, f4, f5, f6, hTz, -⟩ := (HVL.out.below hbk).nm hz
              have FW := Lib.hid (fewB_any z.typ _ wk ⟨_, rfl, hTz⟩)
              have HZ := Lib.hid hz
              have hk0 : (0 : Int) ≤ k := by omega
              have hk1 : (k : Int) < nv := by omega
              clear hz hTz hbk
              go_wp2_with fail
              refine FW.out.mono ?_; rintro e w3 ⟨rfl, hb3⟩
              have HB3 := Lib.hid (below_over HBk.out hb3)
              have FIN := Lib.hid (below_over HBW.out hb3)
              obtain ⟨q, hq⟩ : ∃ q, fewB z.typ = q := ⟨_, rfl⟩
              rw [hq]
              have HQ2 := Lib.hid hq
              clear hb3 f0 f1 f2 f3 f4 f5 f6 hq FW g4
              cases q with
              | false =>
                have RV : V = false := by
                  rw [← HV1.out]
                  refine all_one _ _ _ _ HX.out ?_
                  have h1 : x.vals.all fewNm = false := all_one _ _ _ _ HZ.out HQ2.out
                  unfold fewI; rw [h1]; simp
                subst RV
                go_wp2_with fail
                go_ret
                exact ⟨rfl, FIN.out⟩
              | true =>
                go_wp2_with fail
                go_roundw
                case rel => exact ⟨k + 1, by omega, by go_num, Lib.hid (by rw [all_snoc _ _ _ _ HZ.out, HQk.out]; exact HQ2.out), HB3.out⟩
                case measure => simp [intOf]; omega
            · have AL4 : Hid (x.vals.all fewNm = true) := Lib.hid (by rw [← HQk.out, List.take_of_length_le (by rw [← HL4.out]; omega)])
              have NX : Hid ((env.take (j + 1)).all fewI = true) := Lib.hid (by
                rw [all_snoc _ _ _ _ HX.out, HQ.out]
                unfold fewI
                rw [AL3.out, AL4.out, decide_eq_true TL.out, decide_eq_true VL.out]; rfl)
              clear hbk
              go_wp2_with fail
              go_roundw
              case rel => exact ⟨j + 1, by omega, by go_num, NX, HBW.out⟩
              case measure => simp [intOf]; omega
    · have RV : V = true := by rw [← HV1.out, ← HQ.out, List.take_of_length_le (by rw [← HN.out]; omega)]
      subst RV
      go_wp2_with fail
      go_ret
      exact ⟨rfl, HBo.out⟩

end Go.Proofs.YtkgmdbkcldojnaaGreatDoor

/- The walk of ExpandPlain: whatever is handed in. -/
namespace Go.Proofs.YtkgmdbkcldojnaaGreatDoor
open Go Go.RowKit Go.Shelf
open Go.Sort Go.Maps
open M

set_option maxRecDepth 100000 in
set_option maxHeartbeats 16000000 in
theorem expandPlain_any (m : Mo) (l : List Value) (pkg : ByteArray) (major : Int) (env : List If) (Ae : Option Addr) (ce : Nat) (t : Ty) (lt : List Value) (w : World) (hv : MoAt w l m) (hcap : CapsAt l m) (hpk : pkg.size ≤ 9223372036854775807) (hE : RowIn ifR w Ae env) (hel : env.length ≤ 9223372036854775807) (hT : TyAt w lt t) (hP : Pow w) :
    Calls Tryz.prog 4 #[.agg l.toArray, .string pkg, .int .i64 major, .slice Ae env.length ce, .agg lt.toArray] w fun e w' => e = .returned (.bool true) ∧ Below w.heap.size w w' := by
  have HMo := Lib.hid hv
  have HT := Lib.hid hT
  have HE := Lib.hid hE
  have HP := Lib.hid hP
  have HCAP := Lib.hid hcap
  obtain ⟨Ai, ci, Ad, cd, rfl, -⟩ := hv
  obtain ⟨Bn, cB, Bs, dB, rfl, -⟩ := hT.parts
  obtain ⟨W2, hW2, B2, O0, O1, hl2⟩ := two_boxes w #[.string m.name, .slice Ai m.imps.length ci, .slice Ad m.decs.length cd] #[.int .i64 t.kind, .string t.pkg, .int .i64 t.major, .string t.mod, .string t.name, .slice Bn t.names.length cB, .slice Bs t.subs.length dB] 25 30
  have HB2 := Lib.hid B2
  have HX0 : Hid (∀ wx, Below W2.heap.size W2 wx → wx.heap[w.heap.size]? = some (.cells #[.string m.name, .slice Ai m.imps.length ci, .slice Ad m.decs.length cd] 25 (0, 0))) := Lib.hid (fun wx hb => (hb.block _ (by omega)).trans O0)
  have HX1 : Hid (∀ wx, Below W2.heap.size W2 wx → wx.heap[w.heap.size + 1]? = some (.cells #[.int .i64 t.kind, .string t.pkg, .int .i64 t.major, .string t.mod, .string t.name, .slice Bn t.names.length cB, .slice Bs t.subs.length dB] 30 (0, 0))) := Lib.hid (fun wx hb => (hb.block _ (by omega)).trans O1)
  have HMW : Hid (∀ wx, Below W2.heap.size W2 wx → MoAt wx [.string m.name, .slice Ai m.imps.length ci, .slice Ad m.decs.length cd] m) := Lib.hid (fun wx hb => HMo.out.below (below_over HB2.out hb))
  have HTW : Hid (∀ wx, Below W2.heap.size W2 wx → TyAt wx [.int .i64 t.kind, .string t.pkg, .int .i64 t.major, .string t.mod, .string t.name, .slice Bn t.names.length cB, .slice Bs t.subs.length dB] t) := Lib.hid (fun wx hb => HT.out.keep (below_over HB2.out hb))
  have HEW : Hid (∀ wx, Below W2.heap.size W2 wx → RowIn ifR wx Ae env) := Lib.hid (fun wx hb => HE.out.below (below_over HB2.out hb))
  have HL2 := Lib.hid hl2
  have HW := Lib.hid hW2
  clear hW2 B2 O0 O1 hl2 hT hE hP hcap
  go_enter Tryz.func4, Tryz.ntmps4
  go_upto_region 1 with fail
  rw [← HW.out]
  clear HW
  go_wp2_with fail
  refine (up8_any W2 (HP.out.on HB2.out)).mono ?_; rintro e w3 ⟨rfl, hb3⟩
  have HB3 := Lib.hid hb3
  clear hb3
  have X0 := HX0.out w3 HB3.out
  have x0 := Lib.cell_of_heap X0 0
  have x1 := Lib.cell_of_heap X0 1
  have x2 := Lib.cell_of_heap X0 2
  simp at x0 x1 x2
  clear X0
  obtain ⟨f6, hf6⟩ : ∃ b, b = fewM m := ⟨_, rfl⟩
  have C6 := Lib.hid (rfew6_any m _ w3 (HMW.out w3 HB3.out))
  rw [← hf6] at C6
  have HF6 := Lib.hid hf6
  clear hf6
  go_wp2_with fail
  refine C6.out.mono ?_; rintro e w4 ⟨rfl, hb4⟩
  have HB4 := Lib.hid (below_over HB3.out hb4)
  clear x0 x1 x2 hb4 C6
  have X1 := HX1.out w4 HB4.out
  have y0 := Lib.cell_of_heap X1 0
  have y1 := Lib.cell_of_heap X1 1
  have y2 := Lib.cell_of_heap X1 2
  have y3 := Lib.cell_of_heap X1 3
  have y4 := Lib.cell_of_heap X1 4
  have y5 := Lib.cell_of_heap X1 5
  have y6 := Lib.cell_of_heap X1 6
  simp at y0 y1 y2 y3 y4 y5 y6
  clear X1
  obtain ⟨f4, hf4⟩ : ∃ b, b = fewB t := ⟨_, rfl⟩
  have C4 := Lib.hid (fewB_any t (.agg #[.int .i64 t.kind, .string t.pkg, .int .i64 t.major, .string t.mod, .string t.name, .slice Bn t.names.length cB, .slice Bs t.subs.length dB]) w4 ⟨_, rfl, HTW.out w4 HB4.out⟩)
  rw [← hf4] at C4
  have HF4 := Lib.hid hf4
  clear hf4
  go_wp2_with fail
  refine C4.out.mono ?_; rintro e w5 ⟨rfl, hb5⟩
  have HB5 := Lib.hid (below_over HB4.out hb5)
  clear y0 y1 y2 y3 y4 y5 y6 hb5 C4
  obtain ⟨f8, hf8⟩ : ∃ b, b = fewE env := ⟨_, rfl⟩
  have C8 := Lib.hid (rfew8_any Ae ce env w5 (HEW.out w5 HB5.out) hel)
  rw [← hf8] at C8
  have HF8 := Lib.hid hf8
  clear hf8
  go_wp2_with fail
  refine C8.out.mono ?_; rintro e w6 ⟨rfl, hb6⟩
  have HB6 := Lib.hid (below_over HB5.out hb6)
  have RET6 : Hid (Below w.heap.size w w6) := Lib.hid (below_over HB2.out HB6.out)
  clear hb6 C8
  cases f6 with
  | false =>
    go_wp2_with fail
    go_ret
    exact ⟨rfl, RET6.out⟩
  | true =>
  cases f4 with
  | false =>
    go_wp2_with fail
    go_ret
    exact ⟨rfl, RET6.out⟩
  | true =>
  cases f8 with
  | false =>
    go_wp2_with fail
    go_ret
    exact ⟨rfl, RET6.out⟩
  | true =>
  by_cases hp5 : (500 : Int) < (pkg.size : Int)
  · go_wp2_with fail
    go_ret
    exact ⟨rfl, RET6.out⟩
  have hp5' : decide ((500 : Int) < (pkg.size : Int)) = false := decide_eq_false hp5
  have HM9 : Hid (∀ d ∈ m.decs, many d.typ ≤ 9000 ∧ shortT d.typ) := Lib.hid (few7 HF6.out.symm).2.2
  have hi100 := (few7 HF6.out.symm).1
  have hd100 := (few7 HF6.out.symm).2.1
  have ht3 := few_small HF4.out.symm
  have hsh : shortT t := few_short t 3000 (by have := HF4.out.symm; unfold fewB at this; exact of_decide_eq_true this)
  have X0 := HX0.out w6 HB6.out
  have x0 := Lib.cell_of_heap X0 0
  have x1 := Lib.cell_of_heap X0 1
  have x2 := Lib.cell_of_heap X0 2
  simp at x0 x1 x2
  clear X0
  have CC := Lib.hid (copy7_any m _ w6 (HMW.out w6 HB6.out) (by omega) (by omega) HM9.out)
  go_wp2_with fail
  clear hp5 hp5'
  refine CC.out.mono ?_; rintro e w7 ⟨lo, rfl, hO, hOc, hb7⟩
  have HB7 := Lib.hid (below_over HB6.out hb7)
  clear x0 x1 x2 hb7 CC
  have HOM := Lib.hid hO
  have HOC := Lib.hid hOc
  obtain ⟨Oi, oi, Od, od, rfl, -⟩ := hO
  obtain ⟨w8, hw8⟩ : ∃ w8, w8 = w7.alloc (.cells #[.string m.name, .slice Oi m.imps.length oi, .slice Od m.decs.length od] 25) := ⟨_, rfl⟩
  have B8 : Below w7.heap.size w7 w8 := by rw [hw8]; exact below_new (Below.refl _ _) _
  have Y8 : w8.heap[w7.heap.size]? = some (.cells #[.string m.name, .slice Oi m.imps.length oi, .slice Od m.decs.length od] 25 (0, 0)) := by rw [hw8]; exact heap_alloc_new w7 _
  have hl8 : w7.heap.size < w8.heap.size := by rw [hw8]; simp
  have HB8 := Lib.hid (below_over HB7.out B8)
  have HOX : Hid (∀ wx, Below w8.heap.size w8 wx → wx.heap[w7.heap.size]? = some (.cells #[.string m.name, .slice Oi m.imps.length oi, .slice Od m.decs.length od] 25 (0, 0))) := Lib.hid (fun wx hb => (hb.block _ hl8).trans Y8)
  have HOW : Hid (∀ wx, Below w8.heap.size w8 wx → MoAt wx [.string m.name, .slice Oi m.imps.length oi, .slice Od m.decs.length od] m) := Lib.hid (fun wx hb => HOM.out.below (below_over B8 hb))
  have HW8 := Lib.hid hw8
  clear B8 Y8 hl8 hw8 hOc
  have X1 := HX1.out w8 HB8.out
  have y0 := Lib.cell_of_heap X1 0
  have y1 := Lib.cell_of_heap X1 1
  have y2 := Lib.cell_of_heap X1 2
  have y3 := Lib.cell_of_heap X1 3
  have y4 := Lib.cell_of_heap X1 4
  have y5 := Lib.cell_of_heap X1 5
  have y6 := Lib.cell_of_heap X1 6
  simp at y0 y1 y2 y3 y4 y5 y6
  clear X1
  have CT := Lib.hid (copy_any (many t) t (Nat.le_refl _) (by omega) hsh (.agg #[.int .i64 t.kind, .string t.pkg, .int .i64 t.major, .string t.mod, .string t.name, .slice Bn t.names.length cB, .slice Bs t.subs.length dB]) w8 ⟨_, rfl, HTW.out w8 HB8.out⟩)
  go_upto_region 8 with fail
  rw [← HW8.out]
  go_wp2_with fail
  refine CT.out.mono ?_; rintro e w9 ⟨lm, rfl, hT9, hb9⟩
  have hT9 := hT9.free
  obtain ⟨Dn, dn, Ds, ds, rfl, -⟩ := hT9.parts
  obtain ⟨w10, hw10⟩ : ∃ w10, w10 = w9.alloc (.cells #[.int .i64 t.kind, .string t.pkg, .int .i64 t.major, .string t.mod, .string t.name, .slice Dn t.names.length dn, .slice Ds t.subs.length ds] 30) := ⟨_, rfl⟩
  have B10 : Below w9.heap.size w9 w10 := by rw [hw10]; exact below_new (Below.refl _ _) _
  have Y10 : w10.heap[w9.heap.size]? = some (.cells #[.int .i64 t.kind, .string t.pkg, .int .i64 t.major, .string t.mod, .string t.name, .slice Dn t.names.length dn, .slice Ds t.subs.length ds] 30 (0, 0)) := by rw [hw10]; exact heap_alloc_new w9 _
  have hl10 : w9.heap.size < w10.heap.size := by rw [hw10]; simp
  have HB10 : Hid (Below w8.heap.size w8 w10) := Lib.hid (below_over hb9 B10)
  have HT10 : Hid (∀ wx, Below w10.heap.size w10 wx → TyAt wx [.int .i64 t.kind, .string t.pkg, .int .i64 t.major, .string t.mod, .string t.name, .slice Dn t.names.length dn, .slice Ds t.subs.length ds] t) := Lib.hid (fun wx hb => (hT9.keep B10).keep hb)
  have HMX : Hid (∀ wx, Below w10.heap.size w10 wx → wx.heap[w9.heap.size]? = some (.cells #[.int .i64 t.kind, .string t.pkg, .int .i64 t.major, .string t.mod, .string t.name, .slice Dn t.names.length dn, .slice Ds t.subs.length ds] 30 (0, 0))) := Lib.hid (fun wx hb => (hb.block _ hl10).trans Y10)
  have HW10 := Lib.hid hw10
  clear y0 y1 y2 y3 y4 y5 y6 hT9 hb9 B10 hw10 CT HW8 hl10
  go_upto_region 9 with fail
  rw [← HW10.out]
  have X0 := HOX.out w10 HB10.out
  have x0 := Lib.cell_of_heap X0 0
  have x1 := Lib.cell_of_heap X0 1
  have x2 := Lib.cell_of_heap X0 2
  simp at x0 x1 x2
  have y0 := Lib.cell_of_heap Y10 0
  have y1 := Lib.cell_of_heap Y10 1
  have y2 := Lib.cell_of_heap Y10 2
  have y3 := Lib.cell_of_heap Y10 3
  have y4 := Lib.cell_of_heap Y10 4
  have y5 := Lib.cell_of_heap Y10 5
  have y6 := Lib.cell_of_heap Y10 6
  simp at y0 y1 y2 y3 y4 y5 y6
  clear X0 Y10 HW10
  have hbw10 : Below W2.heap.size W2 w10 := below_over HB8.out HB10.out
  have CE := Lib.hid (expand8_any m pkg major env Oi oi Od od Ae ce t _ w10 (HOW.out w10 HB10.out) HOC.out hpk (HEW.out w10 hbw10) hel (HT10.out w10 (Below.refl _ _)) (fun d hd => (HM9.out d hd).1))
  have HBW := Lib.hid hbw10
  clear hbw10
  go_wp2_with fail
  refine CE.out.mono ?_; rintro e w11 ⟨c, u, lu, hep, rfl, hTu, hb11⟩
  have hTu := hTu.free
  have HEP := Lib.hid hep
  obtain ⟨Un, un, Us, us, rfl, -⟩ := hTu.parts
  obtain ⟨w12, hw12⟩ : ∃ w12, w12 = w11.alloc (.cells #[.int .i64 u.kind, .string u.pkg, .int .i64 u.major, .string u.mod, .string u.name, .slice Un u.names.length un, .slice Us u.subs.length us] 30) := ⟨_, rfl⟩
  have B12 : Below w11.heap.size w11 w12 := by rw [hw12]; exact below_new (Below.refl _ _) _
  have Y12 : w12.heap[w11.heap.size]? = some (.cells #[.int .i64 u.kind, .string u.pkg, .int .i64 u.major, .string u.mod, .string u.name, .slice Un u.names.length un, .slice Us u.subs.length us] 30 (0, 0)) := by rw [hw12]; exact heap_alloc_new w11 _
  have hl12 : w11.heap.size < w12.heap.size := by rw [hw12]; simp
  have HB12 : Hid (Below w10.heap.size w10 w12) := Lib.hid (below_over hb11 B12)
  have HTU : Hid (∀ wx, Below w12.heap.size w12 wx → TyAt wx [.int .i64 u.kind, .string u.pkg, .int .i64 u.major, .string u.mod, .string u.name, .slice Un u.names.length un, .slice Us u.subs.length us] u) := Lib.hid (fun wx hb => (hTu.keep B12).keep hb)
  have HUX : Hid (∀ wx, Below w12.heap.size w12 wx → wx.heap[w11.heap.size]? = some (.cells #[.int .i64 u.kind, .string u.pkg, .int .i64 u.major, .string u.mod, .string u.name, .slice Un u.names.length un, .slice Us u.subs.length us] 30 (0, 0))) := Lib.hid (fun wx hb => (hb.block _ hl12).trans Y12)
  have HW12 := Lib.hid hw12
  obtain ⟨ev, hev⟩ : ∃ ev, ev = errV c := ⟨_, rfl⟩
  rw [← hev]
  have HEV := Lib.hid hev
  have HBX : Hid (Below W2.heap.size W2 w12) := Lib.hid (below_over HBW.out HB12.out)
  clear x0 x1 x2 y0 y1 y2 y3 y4 y5 y6 hep hTu hb11 B12 hw12 CE hl12 hev Y12
  go_upto_region 10 with fail
  rw [← HW12.out]
  clear HW12
  have X0 := HOX.out w12 (below_over HB10.out HB12.out)
  have X1 := HX0.out w12 HBX.out
  have x0 := Lib.cell_of_heap X0 0
  have x1 := Lib.cell_of_heap X0 1
  have x2 := Lib.cell_of_heap X0 2
  have z0 := Lib.cell_of_heap X1 0
  have z1 := Lib.cell_of_heap X1 1
  have z2 := Lib.cell_of_heap X1 2
  simp at x0 x1 x2 z0 z1 z2
  clear X0 X1
  have CS := Lib.hid (same6_any m _ _ w12 (HOW.out w12 (below_over HB10.out HB12.out)) (HMW.out w12 HBX.out))
  go_wp2_with fail
  refine CS.out.mono ?_; rintro e w13 ⟨rfl, hb13⟩
  have HB13 := Lib.hid hb13
  clear x0 x1 x2 z0 z1 z2 hb13 CS
  have X0 := HMX.out w13 (below_over HB12.out HB13.out)
  have X1 := HX1.out w13 (below_over HBX.out HB13.out)
  have x0 := Lib.cell_of_heap X0 0
  have x1 := Lib.cell_of_heap X0 1
  have x2 := Lib.cell_of_heap X0 2
  have x3 := Lib.cell_of_heap X0 3
  have x4 := Lib.cell_of_heap X0 4
  have x5 := Lib.cell_of_heap X0 5
  have x6 := Lib.cell_of_heap X0 6
  have z0 := Lib.cell_of_heap X1 0
  have z1 := Lib.cell_of_heap X1 1
  have z2 := Lib.cell_of_heap X1 2
  have z3 := Lib.cell_of_heap X1 3
  have z4 := Lib.cell_of_heap X1 4
  have z5 := Lib.cell_of_heap X1 5
  have z6 := Lib.cell_of_heap X1 6
  simp at x0 x1 x2 x3 x4 x5 x6 z0 z1 z2 z3 z4 z5 z6
  clear X0 X1
  have CS := Lib.hid (same_any (many t) t t (Nat.le_refl _) (.agg #[.int .i64 t.kind, .string t.pkg, .int .i64 t.major, .string t.mod, .string t.name, .slice Dn t.names.length dn, .slice Ds t.subs.length ds]) (.agg #[.int .i64 t.kind, .string t.pkg, .int .i64 t.major, .string t.mod, .string t.name, .slice Bn t.names.length cB, .slice Bs t.subs.length dB]) w13 ⟨_, rfl, HT10.out w13 (below_over HB12.out HB13.out)⟩ ⟨_, rfl, HTW.out w13 (below_over HBX.out HB13.out)⟩)
  rw [(sameT_iff t t).2 rfl] at CS
  go_wp2_with fail
  refine CS.out.mono ?_; rintro e w14 ⟨rfl, hb14⟩
  have HB14 := Lib.hid (below_over HB13.out hb14)
  have HBZ : Hid (Below W2.heap.size W2 w14) := Lib.hid (below_over HBX.out HB14.out)
  clear x0 x1 x2 x3 x4 x5 x6 z0 z1 z2 z3 z4 z5 z6 hb14 CS
  by_cases hc0 : c = 0
  · subst hc0
    obtain rfl : ev = .nilIface := HEV.out.trans errV_zero
    obtain ⟨hN, hmt, hmu, hpu⟩ := ep_zero HEP.out
    have HN := Lib.hid hN
    have HMU := Lib.hid (show (mayT u && plainT u) = true by rw [hmu, hpu]; rfl)
    have X0 := HX0.out w14 HBZ.out
    have X1 := HUX.out w14 HB14.out
    have x0 := Lib.cell_of_heap X0 0
    have x1 := Lib.cell_of_heap X0 1
    have x2 := Lib.cell_of_heap X0 2
    have z0 := Lib.cell_of_heap X1 0
    have z1 := Lib.cell_of_heap X1 1
    have z2 := Lib.cell_of_heap X1 2
    have z3 := Lib.cell_of_heap X1 3
    have z4 := Lib.cell_of_heap X1 4
    have z5 := Lib.cell_of_heap X1 5
    have z6 := Lib.cell_of_heap X1 6
    simp at x0 x1 x2 z0 z1 z2 z3 z4 z5 z6
    clear X0 X1
    have CE := Lib.hid (expand8_any m pkg major env Ai ci Ad cd Ae ce u _ w14 (HMW.out w14 HBZ.out) HCAP.out hpk (HEW.out w14 HBZ.out) hel (HTU.out w14 HB14.out) (fun d hd => (HM9.out d hd).1))
    have HPU := Lib.hid (show mayT u = true ∧ plainT u = true from ⟨hmu, hpu⟩)
    clear hN hmt hmu hpu
    go_wp2_with fail
    refine CE.out.mono ?_; rintro e w15 ⟨c', u', lu', hep', rfl, hTu', hb15⟩
    obtain ⟨rfl, rfl⟩ := ep_plain HN.out HPU.out.1 HPU.out.2 hep'
    have hTu' := hTu'.free
    obtain ⟨Vn, vn, Vs, vs, rfl, -⟩ := hTu'.parts
    rw [errV_zero]
    obtain ⟨w16, hw16⟩ : ∃ w16, w16 = w15.alloc (.cells #[.int .i64 u'.kind, .string u'.pkg, .int .i64 u'.major, .string u'.mod, .string u'.name, .slice Vn u'.names.length vn, .slice Vs u'.subs.length vs] 30) := ⟨_, rfl⟩
    have B16 : Below w15.heap.size w15 w16 := by rw [hw16]; exact below_new (Below.refl _ _) _
    have Y16 : w16.heap[w15.heap.size]? = some (.cells #[.int .i64 u'.kind, .string u'.pkg, .int .i64 u'.major, .string u'.mod, .string u'.name, .slice Vn u'.names.length vn, .slice Vs u'.subs.length vs] 30 (0, 0)) := by rw [hw16]; exact heap_alloc_new w15 _
    have hl16 : w15.heap.size < w16.heap.size := by rw [hw16]; simp
    have HB16 : Hid (Below w12.heap.size w12 w16) := Lib.hid (below_over HB14.out (below_over hb15 B16))
    have HTV : Hid (∀ wx, Below w16.heap.size w16 wx → TyAt wx [.int .i64 u'.kind, .string u'.pkg, .int .i64 u'.major, .string u'.mod, .string u'.name, .slice Vn u'.names.length vn, .slice Vs u'.subs.length vs] u') := Lib.hid (fun wx hb => (hTu'.keep B16).keep hb)
    have HVX : Hid (∀ wx, Below w16.heap.size w16 wx → wx.heap[w15.heap.size]? = some (.cells #[.int .i64 u'.kind, .string u'.pkg, .int .i64 u'.major, .string u'.mod, .string u'.name, .slice Vn u'.names.length vn, .slice Vs u'.subs.length vs] 30 (0, 0))) := Lib.hid (fun wx hb => (hb.block _ hl16).trans Y16)
    have HW16 := Lib.hid hw16
    have X1 := HUX.out w16 HB16.out
    clear x0 x1 x2 z0 z1 z2 z3 z4 z5 z6 hep' hTu' hb15 B16 Y16 hl16 hw16 CE
    have z0 := Lib.cell_of_heap X1 0
    have z1 := Lib.cell_of_heap X1 1
    have z2 := Lib.cell_of_heap X1 2
    have z3 := Lib.cell_of_heap X1 3
    have z4 := Lib.cell_of_heap X1 4
    have z5 := Lib.cell_of_heap X1 5
    have z6 := Lib.cell_of_heap X1 6
    simp at z0 z1 z2 z3 z4 z5 z6
    clear X1
    have CP := Lib.hid (plainK_any u' (.agg #[.int .i64 u'.kind, .string u'.pkg, .int .i64 u'.major, .string u'.mod, .string u'.name, .slice Un u'.names.length un, .slice Us u'.subs.length us]) w16 ⟨_, rfl, HTU.out w16 HB16.out⟩)
    rw [HMU.out] at CP
    go_upto_region 15 with fail
    rw [← HW16.out]
    clear HW16
    go_wp2_with fail
    refine CP.out.mono ?_; rintro e w17 ⟨rfl, hb17⟩
    have HB17 := Lib.hid hb17
    clear z0 z1 z2 z3 z4 z5 z6 hb17 CP
    have X1 := HUX.out w17 (below_over HB16.out HB17.out)
    have X0 := HVX.out w17 HB17.out
    have z0 := Lib.cell_of_heap X1 0
    have z1 := Lib.cell_of_heap X1 1
    have z2 := Lib.cell_of_heap X1 2
    have z3 := Lib.cell_of_heap X1 3
    have z4 := Lib.cell_of_heap X1 4
    have z5 := Lib.cell_of_heap X1 5
    have z6 := Lib.cell_of_heap X1 6
    have x0 := Lib.cell_of_heap X0 0
    have x1 := Lib.cell_of_heap X0 1
    have x2 := Lib.cell_of_heap X0 2
    have x3 := Lib.cell_of_heap X0 3
    have x4 := Lib.cell_of_heap X0 4
    have x5 := Lib.cell_of_heap X0 5
    have x6 := Lib.cell_of_heap X0 6
    simp at x0 x1 x2 x3 x4 x5 x6 z0 z1 z2 z3 z4 z5 z6
    clear X0 X1
    have CS := Lib.hid (same_any (many u') u' u' (Nat.le_refl _) (.agg #[.int .i64 u'.kind, .string u'.pkg, .int .i64 u'.major, .string u'.mod, .string u'.name, .slice Un u'.names.length un, .slice Us u'.subs.length us]) (.agg #[.int .i64 u'.kind, .string u'.pkg, .int .i64 u'.major, .string u'.mod, .string u'.name, .slice Vn u'.names.length vn, .slice Vs u'.subs.length vs]) w17 ⟨_, rfl, HTU.out w17 (below_over HB16.out HB17.out)⟩ ⟨_, rfl, HTV.out w17 HB17.out⟩)
    rw [(sameT_iff u' u').2 rfl] at CS
    go_wp2_with fail
    refine CS.out.mono ?_; rintro e w18 ⟨rfl, hb18⟩
    have HB18 : Hid (Below w12.heap.size w12 w18) := Lib.hid (below_over (below_over HB16.out HB17.out) hb18)
    have HBY : Hid (Below W2.heap.size W2 w18) := Lib.hid (below_over HBX.out HB18.out)
    clear x0 x1 x2 x3 x4 x5 x6 z0 z1 z2 z3 z4 z5 z6 hb18 CS
    have X1 := HX1.out w18 HBY.out
    have z0 := Lib.cell_of_heap X1 0
    have z1 := Lib.cell_of_heap X1 1
    have z2 := Lib.cell_of_heap X1 2
    have z3 := Lib.cell_of_heap X1 3
    have z4 := Lib.cell_of_heap X1 4
    have z5 := Lib.cell_of_heap X1 5
    have z6 := Lib.cell_of_heap X1 6
    simp at z0 z1 z2 z3 z4 z5 z6
    clear X1
    obtain ⟨q, hq⟩ : ∃ q, q = (mayT t && plainT t) := ⟨_, rfl⟩
    have CP := Lib.hid (plainK_any t (.agg #[.int .i64 t.kind, .string t.pkg, .int .i64 t.major, .string t.mod, .string t.name, .slice Bn t.names.length cB, .slice Bs t.subs.length dB]) w18 ⟨_, rfl, HTW.out w18 HBY.out⟩)
    rw [← hq] at CP
    have HQ := Lib.hid hq
    clear hq
    go_wp2_with fail
    refine CP.out.mono ?_; rintro e w19 ⟨rfl, hb19⟩
    have HB19 : Hid (Below w12.heap.size w12 w19) := Lib.hid (below_over HB18.out hb19)
    have HBY9 : Hid (Below W2.heap.size W2 w19) := Lib.hid (below_over HBX.out HB19.out)
    clear z0 z1 z2 z3 z4 z5 z6 hb19 CP
    cases q with
    | false =>
      go_wp2_with fail
      go_ret
      exact ⟨rfl, below_over HB2.out HBY9.out⟩
    | true =>
      have hq2 := HQ.out.symm
      rw [Bool.and_eq_true] at hq2
      obtain ⟨-, rfl⟩ := ep_plain HN.out hq2.1 hq2.2 HEP.out
      have X1 := HX1.out w19 HBY9.out
      have X0 := HUX.out w19 HB19.out
      have z0 := Lib.cell_of_heap X1 0
      have z1 := Lib.cell_of_heap X1 1
      have z2 := Lib.cell_of_heap X1 2
      have z3 := Lib.cell_of_heap X1 3
      have z4 := Lib.cell_of_heap X1 4
      have z5 := Lib.cell_of_heap X1 5
      have z6 := Lib.cell_of_heap X1 6
      have x0 := Lib.cell_of_heap X0 0
      have x1 := Lib.cell_of_heap X0 1
      have x2 := Lib.cell_of_heap X0 2
      have x3 := Lib.cell_of_heap X0 3
      have x4 := Lib.cell_of_heap X0 4
      have x5 := Lib.cell_of_heap X0 5
      have x6 := Lib.cell_of_heap X0 6
      simp at x0 x1 x2 x3 x4 x5 x6 z0 z1 z2 z3 z4 z5 z6
      clear X0 X1 hq2
      have CS := Lib.hid (same_any (many u') u' u' (Nat.le_refl _) (.agg #[.int .i64 u'.kind, .string u'.pkg, .int .i64 u'.major, .string u'.mod, .string u'.name, .slice Un u'.names.length un, .slice Us u'.subs.length us]) (.agg #[.int .i64 u'.kind, .string u'.pkg, .int .i64 u'.major, .string u'.mod, .string u'.name, .slice Bn u'.names.length cB, .slice Bs u'.subs.length dB]) w19 ⟨_, rfl, HTU.out w19 HB19.out⟩ ⟨_, rfl, HTW.out w19 HBY9.out⟩)
      rw [(sameT_iff u' u').2 rfl] at CS
      go_wp2_with fail
      refine CS.out.mono ?_; rintro e w20 ⟨rfl, hb20⟩
      have FIN := Lib.hid (below_over HB2.out (below_over HBY9.out hb20))
      clear x0 x1 x2 x3 x4 x5 x6 z0 z1 z2 z3 z4 z5 z6 hb20 CS
      go_wp2_with fail
      go_ret
      exact ⟨rfl, FIN.out⟩
  · obtain rfl : ev = .iface 60 (.int .i64 c) := HEV.out.trans (errV_no hc0)
    have he := eqErr c 1
    by_cases hc1 : c = 1
    · subst hc1
      clear hc0
      go_wp2_with fail
      go_ret
      exact ⟨rfl, below_over HB2.out HBZ.out⟩
    · have hcb : (c == 1) = false := by simpa using hc1
      have hnp := ep_err HEP.out hc0 hc1
      have X1 := HX1.out w14 HBZ.out
      have z0 := Lib.cell_of_heap X1 0
      have z1 := Lib.cell_of_heap X1 1
      have z2 := Lib.cell_of_heap X1 2
      have z3 := Lib.cell_of_heap X1 3
      have z4 := Lib.cell_of_heap X1 4
      have z5 := Lib.cell_of_heap X1 5
      have z6 := Lib.cell_of_heap X1 6
      simp at z0 z1 z2 z3 z4 z5 z6
      clear X1
      have CP := Lib.hid (plainK_any t (.agg #[.int .i64 t.kind, .string t.pkg, .int .i64 t.major, .string t.mod, .string t.name, .slice Bn t.names.length cB, .slice Bs t.subs.length dB]) w14 ⟨_, rfl, HTW.out w14 HBZ.out⟩)
      rw [hnp] at CP
      clear hnp hc0 hc1
      go_wp2_with fail
      refine CP.out.mono ?_; rintro e w15 ⟨rfl, hb15⟩
      have FIN := Lib.hid (below_over HB2.out (below_over HBZ.out hb15))
      clear z0 z1 z2 z3 z4 z5 z6 hb15 CP
      go_wp2_with fail
      go_ret
      exact ⟨rfl, FIN.out⟩

end Go.Proofs.YtkgmdbkcldojnaaGreatDoor

/- The library's tables: what a row's list gives of the powers of ten; a world for the witnesses in which the listed tables lie as the program's text lays them. -/
namespace Go.Proofs.YtkgmdbkcldojnaaGreatDoor
open Go Go.ChangeShapes Go.WideShapes Go.ChangeAt Go.RowKit

theorem own : ownKnob Tryz.prog.godebug = none := by kernel_rfl
theorem laidOut : laidOutB Tryz.prog = true := by kernel_rfl
theorem gPow : Tryz.prog.globalNamed "internal/strconv.uint64pow10" = some 0 := by kernel_rfl
theorem gPowType : (Tryz.prog.globals[0]?).map (·.type) = some 204 := by kernel_rfl
theorem cellsPow : Tryz.prog.cellsOf 204 = 20 := by kernel_rfl
theorem cellsU64 : Tryz.prog.cellsOf 192 = 1 := by kernel_rfl
theorem powData : (Rows.laid_internal_strconv_uint64pow10 : DataW Unit) = Lib.tabData .u64 Lib.pow10Tab := by kernel_rfl

/-- What the list gives: the table of powers of ten. -/
theorem pow_of {W : World} (h : laidMetH Tryz.prog [("math/bits.deBruijn32tab", Rows.laid_math_bits_deBruijn32tab), ("math/bits.deBruijn64tab", Rows.laid_math_bits_deBruijn64tab), ("internal/strconv.uint64pow10", Rows.laid_internal_strconv_uint64pow10)] W) : Pow W := by
  have h1 : laidMet Tryz.prog [("math/bits.deBruijn32tab", Rows.laid_math_bits_deBruijn32tab), ("math/bits.deBruijn64tab", Rows.laid_math_bits_deBruijn64tab), ("internal/strconv.uint64pow10", Rows.laid_internal_strconv_uint64pow10)] W := h
  have h3 := h1.tail.tail
  rw [powData] at h3
  exact Lib.tabIs_of_head (rest := []) gPow gPowType Tryz.underlying204 Tryz.underlying192 cellsU64 cellsPow h3

/-- A table's cells, laid. -/
def putTab (g : Nat) (k : IntKind) (zs : List Int) (h : Array Obj) : Array Obj := h.modify g fun o =>
  match o with
  | .cells _ t frozen => .cells (zs.map fun z => Value.int k z).toArray t frozen
  | o => o
def tab32 : List Int := [0, 1, 28, 2, 29, 14, 24, 3, 30, 22, 20, 15, 25, 17, 4, 8, 31, 27, 13, 23, 21, 19, 16, 7, 26, 12, 18, 6, 11, 5, 10, 9]
def tab64 : List Int := [0, 1, 56, 2, 57, 49, 28, 3, 61, 58, 42, 50, 38, 29, 17, 4, 62, 47, 59, 36, 45, 43, 51, 22, 53, 39, 33, 30, 24, 18, 12, 5, 63, 55, 48, 27, 60, 41, 37, 16, 46, 35, 44, 21, 52, 32, 23, 11, 54, 26, 40, 15, 34, 20, 31, 10, 25, 14, 19, 9, 13, 8, 7, 6]
/-- A world for the witness: the settled one, the three tables laid. -/
noncomputable def laidWorld (os : Os) : World :=
  { World.holding Tryz.prog os ⟨#[], #[], []⟩ with heap := putTab 2 .u8 tab64 (putTab 1 .u8 tab32 (putTab 0 .u64 Lib.pow10Tab (World.holding Tryz.prog os ⟨#[], #[], []⟩).heap)) }

end Go.Proofs.YtkgmdbkcldojnaaGreatDoor

/- The last step of a law's row, over any program: a call that answers true and leaves all old memory as it was meets 'every argument reads as it read'. Nothing of this program is in it. -/
namespace Go.Proofs.YtkgmdbkcldojnaaGreatDoor
open Go Go.RowKit Go.WideShapes Go.ChangeShapes
section
variable {H : Type} {enc : TypeId × Value → H} {P : Program}

theorem post_of_below {f : Func} {s : ChangeSpec} {apart fresh handsOn again : Bool} {W W' : World} {args : Array Value} {v : Value} {ds gs : List (DataW H)} {before pa pv : List MemPlace}
    (hW : DataW.Whole enc P f.params.toList s.vars apart W args.toList ds gs before)
    (hres : ∀ (b : Nat) (sp : Nat → Bool) (hd : Bool), DataW.TrodAll enc P W' b sp hd f.resultTypes.toList (v.resultList f.resultTypes.size) (s.fn H (ds ++ gs)).results [])
    (hargs : ∀ sp : Nat → Bool, (∀ p ∈ before, sp p.block = true) → DataW.TrodAll enc P W' 0 sp true f.params.toList args.toList (s.fn H (ds ++ gs)).args pa)
    (hvars : ∀ sp : Nat → Bool, (∀ p ∈ before, sp p.block = true) → DataW.TrodVars enc P W' sp s.vars (s.fn H (ds ++ gs)).vars pv)
    (hps : before = pa ++ pv) (hb : Below W.heap.size W W')
    (hok : ∀ (j : Nat) (t : TypeId) (r : Value), f.resultTypes[j]? = some t → (v.resultList f.resultTypes.size)[j]? = some r → Value.okWide P W' .any 0 t r) :
    s.post enc P f apart fresh handsOn again W args v W' := by
  have hlt : ∀ p ∈ before, p.block < W.heap.size := fun p hp => hW.lt p hp
  have hold : ∀ p ∈ before, (fun b => decide (b < W.heap.size)) p.block = true := fun p hp => by simpa using hlt p hp
  refine ⟨ds, gs, before, [], pa, pv, hW, hres _ _ _, hargs _ hold, hvars _ hold, World.keptBut_mono (fun p hp => ⟨hp, ?_⟩) (hb.frame (· ∈ before)), fun _ => ?_⟩
  · rw [hps, List.mem_append] at hp
    exact Or.inr hp
  · obtain ⟨_, _, _, _, _, hz, hn⟩ := hW
    refine ⟨hok, _, _, ([] ++ pa) ++ pv, ⟨[] ++ pa, pv, trodAll_append (hargs _ (fun _ _ => rfl)) (hres _ _ _), hvars _ (fun _ _ => rfl), rfl, ?_, ?_⟩, ?_⟩
    · intro b off hp
      have hin : MemPlace.cell b off ∈ before := by rw [hps]; simpa using hp
      rw [hb.frozen (hlt _ hin)]
      exact hz b off hin
    · intro ha
      have := hn ha
      rw [hps] at this
      simpa using this
    · intro p hp _
      rw [hps]
      simpa using hp

/-- Arguments that were only read read as they did. -/
theorem trodAll_stays (hl : laidOutB P = true) {W W' : World} {sp : Nat → Bool} (hb : Below W.heap.size W W') :
    ∀ (ts : List TypeId) (vs : List Value) (ds : List (DataW H)) (ps : List MemPlace), (∀ t ∈ ts, P.readableRec t = true ∧ t < P.types.size) →
      DataW.TrodAll enc P W 0 (fun _ => true) true ts vs ds ps → (∀ x ∈ ps, x.block < W.heap.size) → (∀ x ∈ ps, sp x.block = true) → DataW.TrodAll enc P W' 0 sp true ts vs ds ps
  | [], vs, ds, ps, _, h, _, _ => by
    obtain ⟨rfl, rfl, rfl⟩ := trodAll_nil h
    exact trodAll_mk0
  | t :: ts, vs, ds, ps, ht, h, hlt, hs => by
    obtain ⟨v, vs', d, ds', p, q, rfl, rfl, rfl, h0, h1⟩ := trodAll_cons h
    obtain ⟨hr, hrow⟩ := ht t (by simp)
    exact ⟨p, q, WideElems.Trod_stays hl hr hrow h0 (fun x hx => hb.same (hlt x (by simp [hx]))) (fun x hx => hs x (by simp [hx])),
      trodAll_stays hl hb ts vs' ds' q (fun u hu => ht u (by simp [hu])) h1 (fun x hx => hlt x (by simp [hx])) (fun x hx => hs x (by simp [hx])), rfl⟩

/-- The last step of a law: it answered true, and old memory stands. -/
theorem law_post {f : Func} {s : ChangeSpec} {apart fresh handsOn again : Bool} {W W' : World} {args : Array Value} {ds gs : List (DataW H)} {before : List MemPlace} {tb : TypeId}
    (hl : laidOutB P = true) (hro : f.params.toList.all (fun t => P.readableRec t && decide (t < P.types.size)) = true) (hres : f.resultTypes = #[tb]) (hbool : P.underlying tb = some .bool) (hvars : s.vars = [])
    (hW : DataW.Whole enc P f.params.toList s.vars apart W args.toList ds gs before) (hb : Below W.heap.size W W')
    (hs : s.fn H (ds ++ gs) = { results := [.lit (.bool true)], args := ds }) :
    s.post enc P f apart fresh handsOn again W args (.bool true) W' := by
  have hW' := hW
  obtain ⟨p, q, hA, hV, hpq, _, _⟩ := hW
  rw [hvars] at hV
  obtain ⟨rfl, rfl⟩ := trodVars_none hV
  rw [List.append_nil] at hpq
  subst hpq
  have hlt : ∀ x ∈ before, x.block < W.heap.size := fun x hx => hW'.lt x hx
  have hro' : ∀ t ∈ f.params.toList, P.readableRec t = true ∧ t < P.types.size := fun t ht => by
    have := List.all_eq_true.1 hro t ht
    simpa using this
  refine post_of_below (pa := before) (pv := []) hW' ?_ ?_ ?_ (by simp) hb ?_
  · intro b sp hd
    rw [hs, hres]
    exact trodAll_mk1 (shut_bool hbool true)
  · intro sp hsp
    rw [hs]
    exact trodAll_stays hl hb _ _ _ _ hro' hA hlt hsp
  · intro sp _
    rw [hs, hvars]
    exact rfl
  · exact ok_one hres rfl (okWide_bool_mk hbool true)
end
end Go.Proofs.YtkgmdbkcldojnaaGreatDoor

/- The bounds of an int that is handed in. -/
namespace Go.Proofs.YtkgmdbkcldojnaaGreatDoor
open Go Go.RowKit

theorem wf_bd {n : Int} (h : (Lit.int .i64 n).wf = true) : -9223372036854775808 ≤ n ∧ n ≤ 9223372036854775807 := by
  simp [Lit.wf, IntKind.min, IntKind.max, IntKind.signed, IntKind.bits] at h
  omega

end Go.Proofs.YtkgmdbkcldojnaaGreatDoor
