/-
  Several texts in one:  ·  ·  ·  ·  ·  · 
-/
import Derived.Test.YtkgmdbkcldojnaaGreatDoorK14
import Derived.Test.YtkgmdbkcldojnaaGreatDoorK13
import Derived.LaidEql
import Derived.Test.YtkgmdbkcldojnaaGreatDoorK26
import Derived.Test.YtkgmdbkcldojnaaGreatDoorK17
import Derived.Test.YtkgmdbkcldojnaaGreatDoorK21
import Derived.Test.YtkgmdbkcldojnaaGreatDoorK28
import Derived.Test.YtkgmdbkcldojnaaGreatDoorK29
import Derived.Test.YtkgmdbkcldojnaaGreatDoorK27
import Derived.Test.YtkgmdbkcldojnaaGreatDoorK04
import Derived.Test.YtkgmdbkcldojnaaGreatDoorRows
import Derived.Test.YtkgmdbkcldojnaaGreatDoorK08
import Derived.Deep.DeepHandedRow
import Derived.Lib.LaidTab
import Derived.Stop.LaidErr
import Derived.ProofKit
import Derived.Below
import Derived.Carry
import Derived.ChangeSame
import Derived.WideKeyArgs
/-  -/
namespace Go.Proofs.YtkgmdbkcldojnaaGreatDoor
open Go.RowKit
open Go.Sort
open M
def fewNm (x : Nm) : Bool := fewB x.typ
def fewI (x : If) : Bool := decide (x.types.length ≤ 200) && (decide (x.vals.length ≤ 200) && (x.types.all fewNm && x.vals.all fewNm))
def fewE (env : List If) : Bool := decide (env.length ≤ 200) && env.all fewI
set_option maxRecDepth 100000 in
set_option maxHeartbeats 8000000 in
theorem rfew8_any (A : Option Addr) (c : Nat) (env : List If) (w : World) (hE : RowIn ifR w A env) (hel : env.length ≤ 9223372036854775807) :
  Calls Tryz.prog 9 #[.slice A env.length c] w fun e w' => e = .returned (.bool (fewE env)) ∧ Below w.heap.size w w' := by
 obtain ⟨V, hV⟩ : ∃ V, fewE env = V := ⟨_, rfl⟩
 rw [hV]
 have HV : Hid ((decide (env.length ≤ 200) && env.all fewI) = V) := Lib.hid hV
 obtain ⟨ne, hne⟩ : ∃ ne, ne = env.length := ⟨_, rfl⟩
 rw [← hne] at hel HV
 rw [← hne]
 have HN := Lib.hid hne
 have HE := Lib.hid hE
 clear hV hne hE
 by_cases h2 : 200 < ne
 ·have e1 : (200 : Int) < ne := by omega
  have RV : V = false := by rw [← HV.out, show decide (ne ≤ 200) = false by simp; omega]; rfl
  subst RV
  go_enter Tryz.func9, Tryz.ntmps9
  go_wp2_with fail
  go_ret
  exact ⟨rfl, Below.refl _ _⟩
 have e1 : ¬ (200 : Int) < ne := by omega
 have HV1 : Hid (env.all fewI = V) := Lib.hid (by rw [← HV.out, decide_eq_true (show ne ≤ 200 by omega)]; rfl)
 clear HV
 go_enter Tryz.func9, Tryz.ntmps9
 go_wp2_with fail
 clear e1
 go_loopw [3] (fun iv wr => ∃ j : Nat, j ≤ ne ∧ iv = .int .i64 j ∧ Hid ((env.take j).all fewI = true) ∧ Below w.heap.size w wr) (fun iv _ => ne - (intOf iv).toNat)
 case atStart => exact ⟨0, by omega, rfl, Lib.hid (by simp), Below.refl _ _⟩
 case round =>
  obtain ⟨j, hj, rfl, HQ, hb⟩ := hrel
  obtain ⟨wo, rfl⟩ : ∃ wo : World, wo = wr := ⟨_, rfl⟩
  have HBo := Lib.hid hb
  by_cases hlt : j < ne
  ·obtain ⟨x, hx⟩ : ∃ x, env[j]? = some x := ⟨_, List.getElem?_eq_getElem (by rw [← HN.out]; exact hlt)⟩
   obtain ⟨g, o, At, ct, Av, cv, rfl, hgo, -, -, -, g3, g4, -, -, -, -, hT, hVL⟩ := (HE.out.below hb).ifc hx
   have HX := Lib.hid hx
   have HT := Lib.hid hT
   have HVL := Lib.hid hVL
   obtain ⟨nt, hnt⟩ : ∃ nt, nt = x.types.length := ⟨_, rfl⟩
   obtain ⟨nv, hnv⟩ : ∃ nv, nv = x.vals.length := ⟨_, rfl⟩
   rw [← hnt] at g3
   rw [← hnv] at g4
   have HL3 := Lib.hid hnt
   have HL4 := Lib.hid hnv
   have E3 := Lib.hid g3
   have E4 := Lib.hid g4
   have hj0 : (0 : Int) ≤ j := by omega
   have hj1 : (j : Int) < ne := by omega
   have OUT : Hid (Below w.heap.size w wo) := Lib.hid hb
   clear hx hT hVL hnt hnv hb
   by_cases ht : 200 < nt
   ·have q1 : (200 : Int) < nt := by omega
    have RV : V = false := by
     rw [← HV1.out]
     refine all_one _ _ _ _ HX.out ?_
     unfold fewI; rw [← HL3.out, decide_eq_false (by omega)]; rfl
    subst RV
    go_wp2_with fail
    go_ret
    exact ⟨rfl, OUT.out⟩
   have q1 : ¬ (200 : Int) < nt := by omega
   by_cases hv : 200 < nv
   ·have q2 : (200 : Int) < nv := by omega
    have RV : V = false := by
     rw [← HV1.out]
     refine all_one _ _ _ _ HX.out ?_
     unfold fewI; rw [← HL4.out, decide_eq_false (show ¬ nv ≤ 200 by omega)]; simp
    subst RV
    go_wp2_with fail
    go_ret
    exact ⟨rfl, OUT.out⟩
   have q2 : ¬ (200 : Int) < nv := by omega
   have TL : Hid (x.types.length ≤ 200) := Lib.hid (by rw [← HL3.out]; omega)
   have VL : Hid (x.vals.length ≤ 200) := Lib.hid (by rw [← HL4.out]; omega)
   clear ht hv
   go_wp2_with fail
   have hn3 : nt ≤ 200 := by omega
   have hn4 : nv ≤ 200 := by omega
   clear q1 q2 g3 g4
   go_loopw [4] (fun iv wr => ∃ k : Nat, k ≤ nt ∧ iv = .int .i64 k ∧ Hid ((x.types.take k).all fewNm = true) ∧ Below wo.heap.size wo wr) (fun iv _ => nt - (intOf iv).toNat)
   case atStart => exact ⟨0, by omega, rfl, Lib.hid (by simp), Below.refl _ _⟩
   case round =>
    obtain ⟨k, hk, rfl, HQk, hbk⟩ := hrel
    obtain ⟨wk, rfl⟩ : ∃ wk : World, wk = wr := ⟨_, rfl⟩
    have HBk := Lib.hid hbk
    have HBW := Lib.hid (below_over HBo.out hbk)
    have g3 := (hbk.cell (p := ⟨g, _, none⟩) hgo).trans E3.out
    by_cases hlk : k < nt
    ·obtain ⟨z, hz⟩ : ∃ z, x.types[k]? = some z := ⟨_, List.getElem?_eq_getElem (by rw [← HL3.out]; exact hlk)⟩
     obtain ⟨gt, ot, Bn, cB, Bs, dB, rfl, hgt, -, f0, f1, f2, f3, f4, f5, f6, hTz, -⟩ := (HT.out.below hbk).nm hz
     have FW := Lib.hid (fewB_any z.typ _ wk ⟨_, rfl, hTz⟩)
     have HZ := Lib.hid hz
     have hk0 : (0 : Int) ≤ k := by omega
     have hk1 : (k : Int) < nt := by omega
     clear hz hTz hbk
     go_wp2_with fail
     refine FW.out.mono ?_; rintro e w3 ⟨rfl, hb3⟩
     have HB3 := Lib.hid (below_over HBk.out hb3)
     have FIN := Lib.hid (below_over HBW.out hb3)
     obtain ⟨q, hq⟩ : ∃ q, fewB z.typ = q := ⟨_, rfl⟩
     rw [hq]
     have HQ2 := Lib.hid hq
     clear hb3 f0 f1 f2 f3 f4 f5 f6 hq FW g3
     cases q with
     | false =>
      have RV : V = false := by
       rw [← HV1.out]
       refine all_one _ _ _ _ HX.out ?_
       have h1 : x.types.all fewNm = false := all_one _ _ _ _ HZ.out HQ2.out
       unfold fewI; rw [h1]; simp
      subst RV
      go_wp2_with fail
      go_ret
      exact ⟨rfl, FIN.out⟩
     | true =>
      go_wp2_with fail
      go_roundw
      case rel => exact ⟨k + 1, by omega, by go_num, Lib.hid (by rw [all_snoc _ _ _ _ HZ.out, HQk.out]; exact HQ2.out), HB3.out⟩
      case measure => simp [intOf]; omega
    ·have AL3 : Hid (x.types.all fewNm = true) := Lib.hid (by rw [← HQk.out, List.take_of_length_le (by rw [← HL3.out]; omega)])
     have g4 := (HBk.out.cell (p := ⟨g, _, none⟩) hgo).trans E4.out
     clear hbk
     go_wp2_with fail
     clear g3 g4
     go_loopw [6] (fun iv wr => ∃ k : Nat, k ≤ nv ∧ iv = .int .i64 k ∧ Hid ((x.vals.take k).all fewNm = true) ∧ Below wo.heap.size wo wr) (fun iv _ => nv - (intOf iv).toNat)
     case atStart => exact ⟨0, by omega, rfl, Lib.hid (by simp), HBk.out⟩
     case round =>
      obtain ⟨k, hk, rfl, HQk, hbk⟩ := hrel
      obtain ⟨wk, rfl⟩ : ∃ wk : World, wk = wr := ⟨_, rfl⟩
      have HBk := Lib.hid hbk
      have HBW := Lib.hid (below_over HBo.out hbk)
      have g4 := (hbk.cell (p := ⟨g, _, none⟩) hgo).trans E4.out
      by_cases hlk : k < nv
      ·obtain ⟨z, hz⟩ : ∃ z, x.vals[k]? = some z := ⟨_, List.getElem?_eq_getElem (by rw [← HL4.out]; exact hlk)⟩
       obtain ⟨gt, ot, Bn, cB, Bs, dB, rfl, hgt, -, f0, f1, f2, f3, f4, f5, f6, hTz, -⟩ := (HVL.out.below hbk).nm hz
       have FW := Lib.hid (fewB_any z.typ _ wk ⟨_, rfl, hTz⟩)
       have HZ := Lib.hid hz
       have hk0 : (0 : Int) ≤ k := by omega
       have hk1 : (k : Int) < nv := by omega
       clear hz hTz hbk
       go_wp2_with fail
       refine FW.out.mono ?_; rintro e w3 ⟨rfl, hb3⟩
       have HB3 := Lib.hid (below_over HBk.out hb3)
       have FIN := Lib.hid (below_over HBW.out hb3)
       obtain ⟨q, hq⟩ : ∃ q, fewB z.typ = q := ⟨_, rfl⟩
       rw [hq]
       have HQ2 := Lib.hid hq
       clear hb3 f0 f1 f2 f3 f4 f5 f6 hq FW g4
       cases q with
       | false =>
        have RV : V = false := by
         rw [← HV1.out]
         refine all_one _ _ _ _ HX.out ?_
         have h1 : x.vals.all fewNm = false := all_one _ _ _ _ HZ.out HQ2.out
         unfold fewI; rw [h1]; simp
        subst RV
        go_wp2_with fail
        go_ret
        exact ⟨rfl, FIN.out⟩
       | true =>
        go_wp2_with fail
        go_roundw
        case rel => exact ⟨k + 1, by omega, by go_num, Lib.hid (by rw [all_snoc _ _ _ _ HZ.out, HQk.out]; exact HQ2.out), HB3.out⟩
        case measure => simp [intOf]; omega
      ·have AL4 : Hid (x.vals.all fewNm = true) := Lib.hid (by rw [← HQk.out, List.take_of_length_le (by rw [← HL4.out]; omega)])
       have NX : Hid ((env.take (j + 1)).all fewI = true) := Lib.hid (by
        rw [all_snoc _ _ _ _ HX.out, HQ.out]
        unfold fewI
        rw [AL3.out, AL4.out, decide_eq_true TL.out, decide_eq_true VL.out]; rfl)
       clear hbk
       go_wp2_with fail
       go_roundw
       case rel => exact ⟨j + 1, by omega, by go_num, NX, HBW.out⟩
       case measure => simp [intOf]; omega
  ·have RV : V = true := by rw [← HV1.out, ← HQ.out, List.take_of_length_le (by rw [← HN.out]; omega)]
   subst RV
   go_wp2_with fail
   go_ret
   exact ⟨rfl, HBo.out⟩
end Go.Proofs.YtkgmdbkcldojnaaGreatDoor

/-  -/
namespace Go.Proofs.YtkgmdbkcldojnaaGreatDoor
section
variable {P : Program} (w : World)
end
end Go.Proofs.YtkgmdbkcldojnaaGreatDoor

/-  -/
namespace Go.Proofs.YtkgmdbkcldojnaaGreatDoor
open Go.RowKit
open M
end Go.Proofs.YtkgmdbkcldojnaaGreatDoor

/-  -/
namespace Go.Proofs.YtkgmdbkcldojnaaGreatDoor
open Go Go.RowKit
end Go.Proofs.YtkgmdbkcldojnaaGreatDoor

/-  -/
namespace Go.Proofs.YtkgmdbkcldojnaaGreatDoor
open Go Go.RowKit Go.Shelf
open Go.Sort Go.Maps
open M
theorem code_errE (v : Value) (c : Int) (w : World) (hv : v = errV c) (hc : c = 0 ∨ c = 1 ∨ c = 3 ∨ c = 4 ∨ c = 9) : Calls Tryz.prog 17 #[v] w fun ev w' => ev = .returned (.int .i64 c) ∧ Below w.heap.size w w' := by
 subst hv
 rcases hc with rfl | rfl | rfl | rfl | rfl
 ·exact codeN_none w
 ·exact codeN_code 1 (by decide) (by decide) w
 ·exact codeN_code 3 (by decide) (by decide) w
 ·exact codeN_code 4 (by decide) (by decide) w
 ·exact codeN_code 9 (by decide) (by decide) w
theorem few_fitN {x : Nm} (h : fewNm x = true) (hs : strN x) : fitN x := by
 have h2 := few_small h
 exact ⟨hs.1, by omega, str_fit _ (few_short x.typ 3000 (by have := h; unfold fewNm fewB at this; exact of_decide_eq_true this)) hs.2⟩
theorem few_fitI {env : List If} (h : fewE env = true) (hs : ∀ x ∈ env, strI x) : (∀ x ∈ env, fitI x) ∧ ∀ x ∈ env, ∀ y ∈ x.types, many y.typ ≤ 9000 := by
 unfold fewE at h
 rw [Bool.and_eq_true, List.all_eq_true] at h
 have key : ∀ x ∈ env, x.types.length ≤ 200 ∧ x.vals.length ≤ 200 ∧ (∀ y ∈ x.types, fewNm y = true) ∧ ∀ y ∈ x.vals, fewNm y = true := fun x hx => by
  have := h.2 x hx
  unfold fewI at this
  simp only [Bool.and_eq_true, decide_eq_true_eq, List.all_eq_true] at this
  exact ⟨this.1, this.2.1, this.2.2.1, this.2.2.2⟩
 refine ⟨fun x hx => ?_, fun x hx y hy => ?_⟩
 ·obtain ⟨k1, k2, k3, k4⟩ := key x hx
  obtain ⟨s1, s2, s3, s4⟩ := hs x hx
  exact ⟨s1, s2, by omega, by omega, fun y hy => few_fitN (k3 y hy) (s3 y hy), fun y hy => few_fitN (k4 y hy) (s4 y hy)⟩
 ·have := few_small ((key x hx).2.2.1 y hy)
  omega
set_option maxRecDepth 100000 in
set_option maxHeartbeats 16000000 in
theorem expandTells_any (m : Mo) (l : List Value) (pkg : ByteArray) (major : Int) (env : List If) (Ae : Option Addr) (ce : Nat) (t : Ty) (lt : List Value) (w : World) (hv : MoAt w l m) (hcap : CapsAt l m) (hpk : pkg.size ≤ 9223372036854775807) (hE : RowIn ifR w Ae env) (hel : env.length ≤ 9223372036854775807) (hT : TyAt w lt t) (hP : Pow w) (hSTR : ∀ x ∈ env, strI x) :
  Calls Tryz.prog 3 #[.agg l.toArray, .string pkg, .int .i64 major, .slice Ae env.length ce, .agg lt.toArray] w fun e w' => e = .returned (.bool true) ∧ Below w.heap.size w w' := by
 have HMo := Lib.hid hv
 have HT := Lib.hid hT
 have HE := Lib.hid hE
 have HP := Lib.hid hP
 have HCAP := Lib.hid hcap
 obtain ⟨Ai, ci, Ad, cd, rfl, -⟩ := hv
 obtain ⟨Bn, cB, Bs, dB, rfl, -⟩ := hT.parts
 obtain ⟨W2, hW2, B2, O0, O1, hl2⟩ := two_boxes w #[.string m.name, .slice Ai m.imps.length ci, .slice Ad m.decs.length cd] #[.int .i64 t.kind, .string t.pkg, .int .i64 t.major, .string t.mod, .string t.name, .slice Bn t.names.length cB, .slice Bs t.subs.length dB] 25 30
 have HB2 := Lib.hid B2
 have HX0 : Hid (∀ wx, Below W2.heap.size W2 wx → wx.heap[w.heap.size]? = some (.cells #[.string m.name, .slice Ai m.imps.length ci, .slice Ad m.decs.length cd] 25 (0, 0))) := Lib.hid (fun wx hb => (hb.block _ (by omega)).trans O0)
 have HX1 : Hid (∀ wx, Below W2.heap.size W2 wx → wx.heap[w.heap.size + 1]? = some (.cells #[.int .i64 t.kind, .string t.pkg, .int .i64 t.major, .string t.mod, .string t.name, .slice Bn t.names.length cB, .slice Bs t.subs.length dB] 30 (0, 0))) := Lib.hid (fun wx hb => (hb.block _ (by omega)).trans O1)
 have HMW : Hid (∀ wx, Below W2.heap.size W2 wx → MoAt wx [.string m.name, .slice Ai m.imps.length ci, .slice Ad m.decs.length cd] m) := Lib.hid (fun wx hb => HMo.out.below (below_over HB2.out hb))
 have HTW : Hid (∀ wx, Below W2.heap.size W2 wx → TyAt wx [.int .i64 t.kind, .string t.pkg, .int .i64 t.major, .string t.mod, .string t.name, .slice Bn t.names.length cB, .slice Bs t.subs.length dB] t) := Lib.hid (fun wx hb => HT.out.keep (below_over HB2.out hb))
 have HEW : Hid (∀ wx, Below W2.heap.size W2 wx → RowIn ifR wx Ae env) := Lib.hid (fun wx hb => HE.out.below (below_over HB2.out hb))
 have HL2 := Lib.hid hl2
 have HW := Lib.hid hW2
 clear hW2 B2 O0 O1 hl2 hT hE hP hcap
 have HSTR := Lib.hid hSTR
 clear hSTR
 go_enter Tryz.func3, Tryz.ntmps3
 go_upto_region 1 with fail
 rw [← HW.out]
 clear HW
 go_wp2_with fail
 refine (up8_any W2 (HP.out.on HB2.out)).mono ?_; rintro e w3 ⟨rfl, hb3⟩
 have HB3 := Lib.hid hb3
 clear hb3
 have X0 := HX0.out w3 HB3.out
 have x0 := Lib.cell_of_heap X0 0
 have x1 := Lib.cell_of_heap X0 1
 have x2 := Lib.cell_of_heap X0 2
 simp at x0 x1 x2
 clear X0
 obtain ⟨f6, hf6⟩ : ∃ b, b = fewM m := ⟨_, rfl⟩
 have C6 := Lib.hid (rfew6_any m _ w3 (HMW.out w3 HB3.out))
 rw [← hf6] at C6
 have HF6 := Lib.hid hf6
 clear hf6
 go_wp2_with fail
 refine C6.out.mono ?_; rintro e w4 ⟨rfl, hb4⟩
 have HB4 := Lib.hid (below_over HB3.out hb4)
 clear x0 x1 x2 hb4 C6
 have X1 := HX1.out w4 HB4.out
 have y0 := Lib.cell_of_heap X1 0
 have y1 := Lib.cell_of_heap X1 1
 have y2 := Lib.cell_of_heap X1 2
 have y3 := Lib.cell_of_heap X1 3
 have y4 := Lib.cell_of_heap X1 4
 have y5 := Lib.cell_of_heap X1 5
 have y6 := Lib.cell_of_heap X1 6
 simp at y0 y1 y2 y3 y4 y5 y6
 clear X1
 obtain ⟨f4, hf4⟩ : ∃ b, b = fewB t := ⟨_, rfl⟩
 have C4 := Lib.hid (fewB_any t (.agg #[.int .i64 t.kind, .string t.pkg, .int .i64 t.major, .string t.mod, .string t.name, .slice Bn t.names.length cB, .slice Bs t.subs.length dB]) w4 ⟨_, rfl, HTW.out w4 HB4.out⟩)
 rw [← hf4] at C4
 have HF4 := Lib.hid hf4
 clear hf4
 go_wp2_with fail
 refine C4.out.mono ?_; rintro e w5 ⟨rfl, hb5⟩
 have HB5 := Lib.hid (below_over HB4.out hb5)
 clear y0 y1 y2 y3 y4 y5 y6 hb5 C4
 obtain ⟨f8, hf8⟩ : ∃ b, b = fewE env := ⟨_, rfl⟩
 have C8 := Lib.hid (rfew8_any Ae ce env w5 (HEW.out w5 HB5.out) hel)
 rw [← hf8] at C8
 have HF8 := Lib.hid hf8
 clear hf8
 go_wp2_with fail
 refine C8.out.mono ?_; rintro e w6 ⟨rfl, hb6⟩
 have HB6 := Lib.hid (below_over HB5.out hb6)
 have RET6 : Hid (Below w.heap.size w w6) := Lib.hid (below_over HB2.out HB6.out)
 clear hb6 C8
 cases f6 with
 | false =>
  go_wp2_with fail
  go_ret
  exact ⟨rfl, RET6.out⟩
 | true =>
 cases f4 with
 | false =>
  go_wp2_with fail
  go_ret
  exact ⟨rfl, RET6.out⟩
 | true =>
 cases f8 with
 | false =>
  go_wp2_with fail
  go_ret
  exact ⟨rfl, RET6.out⟩
 | true =>
 by_cases hp5 : (500 : Int) < (pkg.size : Int)
 ·go_wp2_with fail
  go_ret
  exact ⟨rfl, RET6.out⟩
 have hp5' : decide ((500 : Int) < (pkg.size : Int)) = false := decide_eq_false hp5
 have HM9 : Hid (∀ d ∈ m.decs, many d.typ ≤ 9000 ∧ shortT d.typ) := Lib.hid (few7 HF6.out.symm).2.2
 have hi100 := (few7 HF6.out.symm).1
 have ht3 := few_small HF4.out.symm
 have HFI := Lib.hid (few_fitI HF8.out.symm HSTR.out).1
 have H9 := Lib.hid (few_fitI HF8.out.symm HSTR.out).2
 have HIW : Hid (∀ wx, Below W2.heap.size W2 wx → RowIn imR wx Ai m.imps) := Lib.hid (fun wx hb => by
  obtain ⟨Ai', ci', Ad', cd', e, -, -, -, hI, -⟩ := HMW.out wx hb
  simp at e
  rw [e.1.1]; exact hI)
 obtain ⟨ni, hni⟩ : ∃ ni, ni = m.imps.length := ⟨_, rfl⟩
 have HNI := Lib.hid hni
 have HX0' : Hid (∀ wx, Below W2.heap.size W2 wx → wx.heap[w.heap.size]? = some (.cells #[.string m.name, .slice Ai ni ci, .slice Ad m.decs.length cd] 25 (0, 0))) := Lib.hid (by rw [hni]; exact HX0.out)
 have hni2 : ni ≤ 9223372036854775807 := by rw [hni]; omega
 rw [← hni]
 clear hni
 go_wp2_with fail
 clear hp5 hp5'
 go_loopw [15] (fun s15 wr => ∃ k : Nat, k ≤ ni ∧ s15 = .int .i64 k ∧ Hid (Below w6.heap.size w6 wr)) (fun s15 _ => ni - (intOf s15).toNat)
 case atStart => exact ⟨0, by omega, rfl, Lib.hid (Below.refl _ _)⟩
 case round =>
  obtain ⟨k, hk, rfl, HBo⟩ := hrel
  obtain ⟨wo, rfl⟩ : ∃ wo : World, wo = wr := ⟨_, rfl⟩
  have HB8 : Hid (Below W2.heap.size W2 wo) := Lib.hid (below_over HB6.out HBo.out)
  have X0 := HX0'.out wo HB8.out
  have x1 := Lib.cell_of_heap X0 1
  simp at x1
  by_cases hlt : k < ni
  ·obtain ⟨x, hx⟩ : ∃ x, m.imps[k]? = some x := ⟨_, List.getElem?_eq_getElem (by rw [← HNI.out]; exact hlt)⟩
   obtain ⟨g, o, rfl, hg, a0, a1, a2, a3, zp, zd, za⟩ := (HIW.out wo HB8.out).im hx
   have hk0 : (0 : Int) ≤ k := by omega
   have hk1 : (k : Int) < ni := by omega
   have CF := Lib.hid (find8C_any Ae ce env x wo (HEW.out wo HB8.out) hel HFI.out)
   have HA := Lib.hid (show wo.cell? ⟨g, o + k * 4, none⟩ = some (.string x.pkg) ∧ wo.cell? ⟨g, o + k * 4 + 1, none⟩ = some (.int .i64 x.major) ∧ wo.cell? ⟨g, o + k * 4 + 2, none⟩ = some (.string x.mod) from ⟨a0, a1, a2⟩)
   clear hx X0
   go_wp2_with fail
   refine CF.out.mono ?_; rintro e w7 ⟨l7, rfl, hIf, hb7⟩
   obtain ⟨y, hy⟩ : ∃ y, y = gotI env x := ⟨_, rfl⟩
   rw [← hy] at hIf
   obtain ⟨Qt, qt, Qv, qv, rfl, -⟩ := hIf
   obtain ⟨b0, hb0⟩ : ∃ b0, b0 = (findI env x.pkg x.major x.mod).isSome := ⟨_, rfl⟩
   rw [← hb0]
   have HY := Lib.hid hy
   have HBF := Lib.hid hb0
   obtain ⟨w8, hw8⟩ : ∃ w8, w8 = w7.alloc (.cells #[.string y.pkg, .int .i64 y.major, .string y.mod, .slice Qt y.types.length qt, .slice Qv y.vals.length qv] 37) := ⟨_, rfl⟩
   have B8 : Below w7.heap.size w7 w8 := by rw [hw8]; exact below_new (Below.refl _ _) _
   have Y8 : w8.heap[w7.heap.size]? = some (.cells #[.string y.pkg, .int .i64 y.major, .string y.mod, .slice Qt y.types.length qt, .slice Qv y.vals.length qv] 37 (0, 0)) := by rw [hw8]; exact heap_alloc_new w7 _
   have hl8 : w7.heap.size < w8.heap.size := by rw [hw8]; simp
   have HBB := Lib.hid (below_over hb7 B8)
   have HB8' : Hid (Below W2.heap.size W2 w8) := Lib.hid (below_over HB8.out HBB.out)
   have HYX : Hid (∀ wx, Below w8.heap.size w8 wx → wx.heap[w7.heap.size]? = some (.cells #[.string y.pkg, .int .i64 y.major, .string y.mod, .slice Qt y.types.length qt, .slice Qv y.vals.length qv] 37 (0, 0))) := Lib.hid (fun wx hb => (hb.block _ hl8).trans Y8)
   have HW8 := Lib.hid hw8
   obtain ⟨J, hJ⟩ : ∃ J, J = optN (findI env x.pkg x.major x.mod) := ⟨_, rfl⟩
   have HJ := Lib.hid hJ
   have cF : ∀ dd os, Calls Tryz.prog 11 #[.slice Ae env.length ce, .string x.pkg, .int .i64 x.major, .string x.mod] (Sort.grow (redrawn w8 dd) os) fun e w'' => e = .returned (.int .i64 J) ∧ ∃ pp : Regrown, w'' = Sort.grow (redrawn w8 pp.d) pp.os := fun dd os => Calls.regrown_of (by rw [hJ]; exact rfind8_any Ae ce env x.pkg x.major x.mod _ ((HEW.out w8 HB8'.out).below (below_regrown w8 dd os)) hel)
   have X0 := HX0'.out w8 HB8'.out
   have u1 := Lib.cell_of_heap X0 1
   simp at u1
   have u2 := (HBB.out.cell (p := ⟨g, _, none⟩) hg).trans HA.out.1
   have u3 := (HBB.out.cell (p := ⟨g, _, none⟩) hg).trans HA.out.2.1
   have u4 := (HBB.out.cell (p := ⟨g, _, none⟩) hg).trans HA.out.2.2
   clear x1 a0 a1 a2 a3 zp zd za hy hb0 hw8 B8 Y8 hl8 hb7 hJ X0 CF
   go_upto_region 11 with fail
   rw [← HW8.out]
   clear HW8
   have p1 := cell_regrown u1
   have p2 := cell_regrown u2
   have p3 := cell_regrown u3
   have p4 := cell_regrown u4
   clear u1 u2 u3 u4
   refine wp_region_quiet_below (by kernel_rfl) (by kernel_rfl) ?_
   repeat (any_goals (first | go_big_quiet_step (with_reducible exact cF _ _) | quiet_step (with_reducible exact cF _ _)))
   refine wpQuiet_nil ?_
   intro w9 hw'
   have HB9 : Hid (Below w8.heap.size w8 w9) := Lib.hid (by
    obtain ⟨⟨dq, osq⟩, hw''⟩ := hw'
    rw [hw'']
    exact below_regrown w8 dq osq)
   have HB9' : Hid (Below W2.heap.size W2 w9) := Lib.hid (below_over HB8'.out HB9.out)
   clear hw' cF p1 p2 p3 p4
   cases hf : findI env x.pkg x.major x.mod with
   | none =>
    obtain rfl : b0 = false := by rw [HBF.out, hf]; rfl
    obtain rfl : J = -1 := by rw [HJ.out, hf]; rfl
    have RB : Hid (∀ n, Below w6.heap.size w6 (w9.drewN n)) := Lib.hid (fun n => below_drewN (below_over HBo.out (below_over HBB.out HB9.out)) n)
    have RB0 : Hid (Below w6.heap.size w6 w9) := Lib.hid (below_over HBo.out (below_over HBB.out HB9.out))
    clear hf
    go_upto_region 12 with fail
    go_quiet (fail)
    go_wp2_with fail
    go_roundw
    case rel => exact ⟨k + 1, by omega, by go_num, Lib.hid (RB.out _)⟩
    case measure => simp [intOf]; omega
   | some j =>
    have hjl := findI_lt hf
    obtain ⟨v, hv⟩ : ∃ v, env[j]? = some v := ⟨_, List.getElem?_eq_getElem hjl⟩
    obtain rfl : b0 = true := by rw [HBF.out, hf]; rfl
    obtain rfl : J = (j : Int) := by rw [HJ.out, hf]; rfl
    obtain rfl : y = v := by rw [HY.out]; exact gotI_at hf hv
    obtain ⟨ge, oe, At, ct, Av, cv, rfl, hge, e0, e1, e2, e3, e4, -, -, zt, -, hTy, -⟩ := (HEW.out w9 HB9'.out).ifc hv
    have Y9 := HYX.out w9 HB9.out
    have v0 := Lib.cell_of_heap Y9 0
    have v3 := Lib.cell_of_heap Y9 3
    simp at v0 v3
    have hj0 : (0 : Int) ≤ j := by omega
    have hj1 : (j : Int) < env.length := by omega
    have hj2 : ¬ (j : Int) < 0 := by omega
    have hs := str_eq y.pkg y.pkg
    rw [decide_eq_true rfl] at hs
    have HTy := Lib.hid hTy
    have HFN := Lib.hid (HFI.out y (List.mem_of_getElem? hv)).2.2.2.2.1
    have HE3 := Lib.hid e3
    clear hf e1 e2 e4 hTy Y9 HJ HBF HY hv
    go_upto_region 12 with fail
    go_quiet (fail)
    obtain ⟨wa, hwa⟩ : ∃ wa, wa = w9.drewN nq := ⟨_, rfl⟩
    rw [← hwa]
    have HBa : Hid (Below w9.heap.size w9 wa) := Lib.hid (by rw [hwa]; exact below_drewN (Below.refl _ _) _)
    clear hwa v0 v3 e0 e3 hs
    have HBa' : Hid (Below W2.heap.size W2 wa) := Lib.hid (below_over HB9'.out HBa.out)
    have X1 := HX1.out wa HBa'.out
    have HX1a := Lib.hid X1
    have KEEP : Hid (∀ wx, Below wa.heap.size wa wx → wx.cell? ⟨ge, oe + j * 5 + 3, none⟩ = some (.slice At y.types.length ct) ∧ wx.cell? ⟨w.heap.size + 1, 4, none⟩ = some (.string t.name)) := Lib.hid (fun wx hb =>
     ⟨((below_over HBa.out hb).cell (p := ⟨ge, _, none⟩) hge).trans HE3.out, Lib.cell_of_heap (HX1.out wx (below_over HBa'.out hb)) 4⟩)
    have CT := Lib.hid (fun (wx : World) (hb : Below wa.heap.size wa wx) => of8C_any At ct y.types t.name wx (HTy.out.below (below_over HBa.out hb)) zt HFN.out)
    obtain ⟨bq, hbq⟩ : ∃ bq, bq = (ofI y.types t.name).isSome := ⟨_, rfl⟩
    rw [← hbq] at CT
    have HBQ := Lib.hid hbq
    clear hbq X1
    go_upto_region 15 with fail
    go_cut [19, 20] (fun s19 s20 wx => ∃ (b : Nat) (l1 : List Value), s19 = .pointer (some ⟨b, 0, none⟩) ∧ s20 = .bool bq ∧ wx.heap[b]? = some (.cells l1.toArray 30 (0, 0)) ∧ TyAt wx l1 (gotT y.types t.name) ∧ Below wa.heap.size wa wx)
    case first =>
     have hH0 := KEEP.out wa.drew (Below.drew (Below.refl _ _))
     refine AnyX.start (fun wx => wx.cell? ⟨ge, oe + j * 5 + 3, none⟩ = some (.slice At y.types.length ct) ∧ wx.cell? ⟨w.heap.size + 1, 4, none⟩ = some (.string t.name)) (fun _ => false) (by kernel_rfl) ?_
     refine AnyX.move (i := 0) (v := ?_) rfl (by kernel_rfl) (by kernel_rfl) (by kernel_rfl) (by kernel_rfl) (fun _ _ _ h => h) (Or.inl ⟨by rfl, ?_⟩) ?_
     rotate_left
     ·(intro wS _; go_simp; try with_reducible rfl)
     simp only [List.getElem_toArray, List.getElem_cons_succ, List.getElem_cons_zero]
     simp only [Act.put, List.setIfInBounds_toArray]
     simp only [List.set_cons_zero, List.set_cons_succ]
     refine AnyX.move (i := 1) (v := ?_) rfl (by kernel_rfl) (by kernel_rfl) (by kernel_rfl) (by kernel_rfl) (fun _ _ _ h => h) (Or.inl ⟨by rfl, ?_⟩) ?_
     rotate_left
     ·(intro wS _; go_simp; try with_reducible rfl)
     simp only [List.getElem_toArray, List.getElem_cons_succ, List.getElem_cons_zero]
     simp only [Act.put, List.setIfInBounds_toArray]
     simp only [List.set_cons_zero, List.set_cons_succ]
     refine AnyX.move (i := 2) (v := ?_) rfl (by kernel_rfl) (by kernel_rfl) (by kernel_rfl) (by kernel_rfl) (fun _ _ _ h => h) (Or.inl ⟨by rfl, ?_⟩) ?_
     rotate_left
     ·(intro wS _; go_simp; try with_reducible rfl)
     simp only [List.getElem_toArray, List.getElem_cons_succ, List.getElem_cons_zero]
     simp only [Act.put, List.setIfInBounds_toArray]
     simp only [List.set_cons_zero, List.set_cons_succ]
     refine AnyX.move (i := 3) (v := ?_) rfl (by kernel_rfl) (by kernel_rfl) (by kernel_rfl) (by kernel_rfl) (fun _ _ _ h => h) (Or.inl ⟨by rfl, ?_⟩) ?_
     rotate_left
     ·(intro wS _; go_simp; try with_reducible rfl)
     simp only [List.getElem_toArray, List.getElem_cons_succ, List.getElem_cons_zero]
     simp only [Act.put, List.setIfInBounds_toArray]
     simp only [List.set_cons_zero, List.set_cons_succ]
     refine AnyX.take (i := 4) (v := ?_) rfl (by kernel_rfl) (by kernel_rfl) (by kernel_rfl) (by kernel_rfl) (by kernel_rfl) (fun _ _ _ h => h) hH0 (Or.inl ⟨by rfl, ?_⟩) ?_
     rotate_left
     ·(intro wS hS; (try obtain ⟨c0, c1⟩ := hS); go_simp; try with_reducible rfl)
     simp only [List.getElem_toArray, List.getElem_cons_succ, List.getElem_cons_zero]
     simp only [Act.put, List.setIfInBounds_toArray]
     simp only [List.set_cons_zero, List.set_cons_succ]
     refine AnyX.move (i := 5) (v := ?_) rfl (by kernel_rfl) (by kernel_rfl) (by kernel_rfl) (by kernel_rfl) (fun _ _ _ h => h) (Or.inl ⟨by rfl, ?_⟩) ?_
     rotate_left
     ·(intro wS _; go_simp; try with_reducible rfl)
     simp only [List.getElem_toArray, List.getElem_cons_succ, List.getElem_cons_zero]
     simp only [Act.put, List.setIfInBounds_toArray]
     simp only [List.set_cons_zero, List.set_cons_succ]
     refine AnyX.take (i := 6) (v := ?_) rfl (by kernel_rfl) (by kernel_rfl) (by kernel_rfl) (by kernel_rfl) (by kernel_rfl) (fun _ _ _ h => h) hH0 (Or.inl ⟨by rfl, ?_⟩) ?_
     rotate_left
     ·(intro wS hS; (try obtain ⟨c0, c1⟩ := hS); go_simp; try with_reducible rfl)
     simp only [List.getElem_toArray, List.getElem_cons_succ, List.getElem_cons_zero]
     simp only [Act.put, List.setIfInBounds_toArray]
     simp only [List.set_cons_zero, List.set_cons_succ]
     refine AnyX.go2 7 11 (by kernel_rfl) rfl rfl rfl rfl (fun K hK => ?_) (fun K hK => ?_)
     ·simp only [List.getElem_toArray, List.getElem_cons_succ, List.getElem_cons_zero]
      go_simp
      refine (CT.out wa.drew (Below.drew (Below.refl _ _))).mono ?_
      rintro e w2 ⟨l1, rfl, hT1, hb2⟩
      have hB2 : Below wa.heap.size wa w2 := Below.trans (Below.drew (Below.refl wa.heap.size wa)) hb2
      obtain ⟨u, hu⟩ : ∃ u, u = gotT y.types t.name := ⟨_, rfl⟩
      rw [← hu] at hT1
      have HU := Lib.hid hu
      clear hu
      obtain ⟨Dn, dN, Ds, dS, rfl, -⟩ := hT1.parts
      simp only []
      refine hK.out _ _ (fun hoff _ => KEEP.out w2 hB2) ?_
      clear hK
      try simp only [Act.put, List.setIfInBounds_toArray]
      try simp only [List.set_cons_zero, List.set_cons_succ]
      refine AnyX.move (i := 8) (v := ?_) rfl (by kernel_rfl) (by kernel_rfl) (by kernel_rfl) (by kernel_rfl) (fun _ _ _ h => h) (Or.inl ⟨by rfl, ?_⟩) ?_
      rotate_left
      ·(intro wS _; go_simp; try with_reducible rfl)
      simp only [List.getElem_toArray, List.getElem_cons_succ, List.getElem_cons_zero]
      simp only [Act.put, List.setIfInBounds_toArray]
      simp only [List.set_cons_zero, List.set_cons_succ]
      refine AnyX.move (i := 9) (v := ?_) rfl (by kernel_rfl) (by kernel_rfl) (by kernel_rfl) (by kernel_rfl) (fun _ _ _ h => h) (Or.inl ⟨by rfl, ?_⟩) ?_
      rotate_left
      ·(intro wS _; go_simp; try with_reducible rfl)
      simp only [List.getElem_toArray, List.getElem_cons_succ, List.getElem_cons_zero]
      simp only [Act.put, List.setIfInBounds_toArray]
      simp only [List.set_cons_zero, List.set_cons_succ]
      refine AnyX.move (i := 10) (v := ?_) rfl (by kernel_rfl) (by kernel_rfl) (by kernel_rfl) (by kernel_rfl) (fun _ _ _ h => h) (Or.inl ⟨by rfl, ?_⟩) ?_
      rotate_left
      ·(intro wS _; go_simp; try with_reducible rfl)
      simp only [List.getElem_toArray, List.getElem_cons_succ, List.getElem_cons_zero]
      simp only [Act.put, List.setIfInBounds_toArray]
      simp only [List.set_cons_zero, List.set_cons_succ]
      refine AnyX.go 11 (by kernel_rfl) rfl rfl (fun K hK => ?_)
      simp only [List.getElem_toArray, List.getElem_cons_succ, List.getElem_cons_zero]
      go_simp
      refine hK.out _ _ (fun hoff _ => KEEP.out _ (below_new hB2 _)) ?_
      clear hK
      try simp only [Act.put, List.setIfInBounds_toArray]
      try simp only [List.set_cons_zero, List.set_cons_succ]
      refine AnyX.go 12 (by kernel_rfl) rfl rfl (fun K hK => ?_)
      simp only [List.getElem_toArray, List.getElem_cons_succ, List.getElem_cons_zero]
      refine wp_store_row 30 (.tmp 19) (.tmp 126) rfl w2.heap.size #[.int .i64 u.kind, .string u.pkg, .int .i64 u.major, .string u.mod, .string u.name, .slice Dn u.names.length dN, .slice Ds u.subs.length dS] rfl rfl _ _ (heap_alloc_new w2 _) tySize rfl tyOne ?_
      refine hK.out _ _ (fun hoff _ => KEEP.out _ (setRow_below (below_new hB2 _) hB2.size _)) ?_
      clear hK
      try simp only [Act.put, List.setIfInBounds_toArray]
      try simp only [List.set_cons_zero, List.set_cons_succ]
      refine AnyX.move (i := 13) (v := ?_) rfl (by kernel_rfl) (by kernel_rfl) (by kernel_rfl) (by kernel_rfl) (fun _ _ _ h => h) (Or.inl ⟨by rfl, ?_⟩) ?_
      rotate_left
      ·(intro wS _; go_simp; try with_reducible rfl)
      simp only [List.getElem_toArray, List.getElem_cons_succ, List.getElem_cons_zero]
      simp only [Act.put, List.setIfInBounds_toArray]
      simp only [List.set_cons_zero, List.set_cons_succ]
      refine AnyX.done (by kernel_rfl) ?_ _
      go_wp2_with fail
      go_meet
      exact ⟨_, _, rfl, rfl, setRow_heap _ _ _ _ _ _ (heap_alloc_new w2 _), by rw [← HU.out]; exact hT1.free.keep (setRow_below (below_new (Below.refl _ _) _) (Nat.le_refl _) _), setRow_below (below_new hB2 _) hB2.size _⟩
     ·simp only [List.getElem_toArray, List.getElem_cons_succ, List.getElem_cons_zero]
      go_simp
      obtain ⟨wz, hwz⟩ : ∃ wz, wz = (wa.alloc (.cells #[.int .i64 0, .string ⟨#[]⟩, .int .i64 0, .string ⟨#[]⟩, .string ⟨#[]⟩, .slice none 0 0, .slice none 0 0] 30)).drew := ⟨_, rfl⟩
      have Bz : Below wa.heap.size wa wz := by rw [hwz]; exact Below.drew (below_new (Below.refl _ _) _)
      have Xz : wz.heap[wa.heap.size]? = some (.cells #[.int .i64 0, .string ⟨#[]⟩, .int .i64 0, .string ⟨#[]⟩, .string ⟨#[]⟩, .slice none 0 0, .slice none 0 0] 30 (0, 0)) := by rw [hwz]; exact heap_alloc_new wa _
      have sz : wa.heap.size < wz.heap.size := by rw [hwz]; simp
      have hHz := KEEP.out wz Bz
      refine hK.out _ _ (fun _ _ => by rw [hwz] at hHz; exact hHz) ?_
      clear hK
      try simp only [Act.put, List.setIfInBounds_toArray]
      try simp only [List.set_cons_zero, List.set_cons_succ]
      rw [← hwz]
      clear hwz
      refine AnyX.go 7 (by kernel_rfl) rfl rfl (fun K hK => ?_)
      simp only [List.getElem_toArray, List.getElem_cons_succ, List.getElem_cons_zero]
      go_simp
      refine (CT.out wz Bz).mono ?_
      rintro e w2 ⟨l1, rfl, hT1, hb2⟩
      have hB2 : Below wa.heap.size wa w2 := below_over Bz hb2
      obtain ⟨u, hu⟩ : ∃ u, u = gotT y.types t.name := ⟨_, rfl⟩
      rw [← hu] at hT1
      have HU := Lib.hid hu
      clear hu
      obtain ⟨Dn, dN, Ds, dS, rfl, -⟩ := hT1.parts
      have X2 := (hb2.block _ sz).trans Xz
      simp only []
      refine hK.out _ _ (fun hoff _ => KEEP.out w2 hB2) ?_
      clear hK
      try simp only [Act.put, List.setIfInBounds_toArray]
      try simp only [List.set_cons_zero, List.set_cons_succ]
      refine AnyX.move (i := 8) (v := ?_) rfl (by kernel_rfl) (by kernel_rfl) (by kernel_rfl) (by kernel_rfl) (fun _ _ _ h => h) (Or.inl ⟨by rfl, ?_⟩) ?_
      rotate_left
      ·(intro wS _; go_simp; try with_reducible rfl)
      simp only [List.getElem_toArray, List.getElem_cons_succ, List.getElem_cons_zero]
      simp only [Act.put, List.setIfInBounds_toArray]
      simp only [List.set_cons_zero, List.set_cons_succ]
      refine AnyX.move (i := 9) (v := ?_) rfl (by kernel_rfl) (by kernel_rfl) (by kernel_rfl) (by kernel_rfl) (fun _ _ _ h => h) (Or.inl ⟨by rfl, ?_⟩) ?_
      rotate_left
      ·(intro wS _; go_simp; try with_reducible rfl)
      simp only [List.getElem_toArray, List.getElem_cons_succ, List.getElem_cons_zero]
      simp only [Act.put, List.setIfInBounds_toArray]
      simp only [List.set_cons_zero, List.set_cons_succ]
      refine AnyX.move (i := 10) (v := ?_) rfl (by kernel_rfl) (by kernel_rfl) (by kernel_rfl) (by kernel_rfl) (fun _ _ _ h => h) (Or.inl ⟨by rfl, ?_⟩) ?_
      rotate_left
      ·(intro wS _; go_simp; try with_reducible rfl)
      simp only [List.getElem_toArray, List.getElem_cons_succ, List.getElem_cons_zero]
      simp only [Act.put, List.setIfInBounds_toArray]
      simp only [List.set_cons_zero, List.set_cons_succ]
      refine AnyX.go 12 (by kernel_rfl) rfl rfl (fun K hK => ?_)
      simp only [List.getElem_toArray, List.getElem_cons_succ, List.getElem_cons_zero]
      refine wp_store_row 30 (.tmp 19) (.tmp 126) rfl wa.heap.size #[.int .i64 u.kind, .string u.pkg, .int .i64 u.major, .string u.mod, .string u.name, .slice Dn u.names.length dN, .slice Ds u.subs.length dS] rfl rfl _ _ X2 tySize rfl tyOne ?_
      refine hK.out _ _ (fun hoff _ => KEEP.out _ (setRow_below hB2 (Nat.le_refl _) _)) ?_
      clear hK
      try simp only [Act.put, List.setIfInBounds_toArray]
      try simp only [List.set_cons_zero, List.set_cons_succ]
      refine AnyX.move (i := 13) (v := ?_) rfl (by kernel_rfl) (by kernel_rfl) (by kernel_rfl) (by kernel_rfl) (fun _ _ _ h => h) (Or.inl ⟨by rfl, ?_⟩) ?_
      rotate_left
      ·(intro wS _; go_simp; try with_reducible rfl)
      simp only [List.getElem_toArray, List.getElem_cons_succ, List.getElem_cons_zero]
      simp only [Act.put, List.setIfInBounds_toArray]
      simp only [List.set_cons_zero, List.set_cons_succ]
      refine AnyX.done (by kernel_rfl) ?_ _
      go_wp2_with fail
      go_meet
      exact ⟨_, _, rfl, rfl, setRow_heap _ _ _ _ _ _ X2, by rw [← HU.out]; exact (hT1.move (S' := fun b => b < wz.heap.size) (by rw [size_setRow]; exact Nat.le_refl _) fun b hb hS => ⟨hS, setRow_other _ _ _ _ (by omega)⟩).free, setRow_below hB2 (Nat.le_refl _) _⟩
    case rest =>
     obtain ⟨b, l1, rfl, rfl, hXb, hTb, hBc⟩ := hcut
     obtain ⟨wd, rfl⟩ : ∃ wd : World, wd = wc := ⟨_, rfl⟩
     have HBd : Hid (Below wa.heap.size wa wd) := Lib.hid hBc
     have HBd' : Hid (Below W2.heap.size W2 wd) := Lib.hid (below_over HBa'.out hBc)
     obtain ⟨I, hI⟩ : ∃ I, I = optN (ofI y.types t.name) := ⟨_, rfl⟩
     have HII := Lib.hid hI
     have cO : ∀ dd os, Calls Tryz.prog 13 #[.slice At y.types.length ct, .string t.name] (Sort.grow (redrawn wd dd) os) fun e w'' => e = .returned (.int .i64 I) ∧ ∃ pp : Regrown, w'' = Sort.grow (redrawn wd pp.d) pp.os := fun dd os => Calls.regrown_of (by rw [hI]; exact rof8_any At ct y.types t.name _ ((HTy.out.below (below_over HBa.out HBd.out)).below (below_regrown wd dd os)) zt)
     obtain ⟨k0, k1⟩ := KEEP.out wd hBc
     have HXb := Lib.hid hXb
     have HTb := Lib.hid hTb
     have HKK := Lib.hid (And.intro k0 k1)
     clear hXb hTb hBc hI CT
     go_upto_region 16 with fail
     have p1 := cell_regrown k0
     have p2 := cell_regrown k1
     clear k0 k1
     refine wp_region_quiet_below (by kernel_rfl) (by kernel_rfl) ?_
     repeat (any_goals (first | go_big_quiet_step (with_reducible exact cO _ _) | quiet_step (with_reducible exact cO _ _)))
     refine wpQuiet_nil ?_
     intro we hw'
     have HBe : Hid (Below wd.heap.size wd we) := Lib.hid (by
      obtain ⟨⟨dq, osq⟩, hw''⟩ := hw'
      rw [hw'']
      exact below_regrown wd dq osq)
     have HBe' : Hid (Below W2.heap.size W2 we) := Lib.hid (below_over HBd'.out HBe.out)
     have RB0 : Hid (Below w6.heap.size w6 we) := Lib.hid (below_over HBo.out (below_over HBB.out (below_over HB9.out (below_over HBa.out (below_over HBd.out HBe.out)))))
     clear hw' cO p1 p2
     cases hn : ofI y.types t.name with
     | none =>
      obtain rfl : bq = false := by rw [HBQ.out, hn]; rfl
      obtain rfl : I = -1 := by rw [HII.out, hn]; rfl
      clear hn
      go_upto_region 17 with fail
      go_quiet (fail)
      go_wp2_with fail
      go_roundw
      case rel => exact ⟨k + 1, by omega, by go_num, Lib.hid (below_drewN RB0.out _)⟩
      case measure => simp [intOf]; omega
     | some n =>
      have hnl := ofI_lt hn
      obtain ⟨z, hz⟩ : ∃ z, y.types[n]? = some z := ⟨_, List.getElem?_eq_getElem hnl⟩
      obtain rfl : bq = true := by rw [HBQ.out, hn]; rfl
      obtain rfl : I = (n : Int) := by rw [HII.out, hn]; rfl
      have hgt : gotT y.types t.name = z.typ := gotT_at hn hz
      have HTz := Lib.hid (show TyAt wd l1 z.typ by rw [← hgt]; exact HTb.out)
      obtain ⟨An, cA, As, cS, rfl, -⟩ := HTz.out.parts
      obtain ⟨gt, ot, Cn, cC, Cs, dC, rfl, hgt', -, f0, f1, f2, f3, f4, f5, f6, hTz', -⟩ := ((HTy.out.below (below_over HBa.out HBd.out)).below HBe.out).nm hz
      have hn0 : (0 : Int) ≤ n := by omega
      have hn1 : (n : Int) < y.types.length := by omega
      have hn2 : ¬ (n : Int) < 0 := by omega
      have q3 : we.cell? ⟨ge, oe + j * 5 + 3, none⟩ = some (.slice (some ⟨gt, ot, none⟩) y.types.length ct) := (HBe.out.cell (p := ⟨ge, _, none⟩) (World.block_lt_of_cell? _ _ HKK.out.1)).trans HKK.out.1
      have Xb := (HBe.out.block b (Array.getElem?_eq_some_iff.1 HXb.out).1).trans HXb.out
      have x0 := Lib.cell_of_heap Xb 0
      have x1 := Lib.cell_of_heap Xb 1
      have x2 := Lib.cell_of_heap Xb 2
      have x3 := Lib.cell_of_heap Xb 3
      have x4 := Lib.cell_of_heap Xb 4
      have x5 := Lib.cell_of_heap Xb 5
      have x6 := Lib.cell_of_heap Xb 6
      simp at x0 x1 x2 x3 x4 x5 x6
      have cS : ∀ dd os, Calls Tryz.prog 14 #[.agg #[.int .i64 z.typ.kind, .string z.typ.pkg, .int .i64 z.typ.major, .string z.typ.mod, .string z.typ.name, .slice An z.typ.names.length cA, .slice As z.typ.subs.length cS], .agg #[.int .i64 z.typ.kind, .string z.typ.pkg, .int .i64 z.typ.major, .string z.typ.mod, .string z.typ.name, .slice Cn z.typ.names.length cC, .slice Cs z.typ.subs.length dC]] (Sort.grow (redrawn we dd) os) fun e w'' => e = .returned (.bool true) ∧ ∃ pp : Regrown, w'' = Sort.grow (redrawn we pp.d) pp.os := fun dd os => Calls.regrown_of (by
       have h := same_any (many z.typ) z.typ z.typ (Nat.le_refl _) (.agg #[.int .i64 z.typ.kind, .string z.typ.pkg, .int .i64 z.typ.major, .string z.typ.mod, .string z.typ.name, .slice An z.typ.names.length cA, .slice As z.typ.subs.length cS]) (.agg #[.int .i64 z.typ.kind, .string z.typ.pkg, .int .i64 z.typ.major, .string z.typ.mod, .string z.typ.name, .slice Cn z.typ.names.length cC, .slice Cs z.typ.subs.length dC]) (Sort.grow (redrawn we dd) os) ⟨_, rfl, HTz.out.keep (below_over HBe.out (below_regrown we dd os))⟩ ⟨_, rfl, hTz'.keep (below_regrown we dd os)⟩
       rw [(sameT_iff z.typ z.typ).2 rfl] at h
       exact h)
      clear hn hz hgt hTz' Xb HTb
      go_upto_region 17 with fail
      have p0 := cell_regrown x0
      have p1 := cell_regrown x1
      have p2 := cell_regrown x2
      have p3 := cell_regrown x3
      have p4 := cell_regrown x4
      have p5 := cell_regrown x5
      have p6 := cell_regrown x6
      have r0 := cell_regrown f0
      have r1 := cell_regrown f1
      have r2 := cell_regrown f2
      have r3 := cell_regrown f3
      have r4 := cell_regrown f4
      have r5 := cell_regrown f5
      have r6 := cell_regrown f6
      have s3 := cell_regrown q3
      clear x0 x1 x2 x3 x4 x5 x6 f0 f1 f2 f3 f4 f5 f6 q3
      refine wp_region_quiet_below (by kernel_rfl) (by kernel_rfl) ?_
      repeat (any_goals (first | go_big_quiet_step (with_reducible exact cS _ _) | quiet_step (with_reducible exact cS _ _)))
      refine wpQuiet_nil ?_
      intro wf hw'
      have RBf : Hid (Below w6.heap.size w6 wf) := Lib.hid (by
       obtain ⟨⟨dq, osq⟩, hw''⟩ := hw'
       rw [hw'']
       exact below_over RB0.out (below_regrown we dq osq))
      clear hw' cS p0 p1 p2 p3 p4 p5 p6 r0 r1 r2 r3 r4 r5 r6 s3
      go_wp2_with fail
      go_roundw
      case rel => exact ⟨k + 1, by omega, by go_num, RBf⟩
      case measure => simp [intOf]; omega
  ·have hk1 : ¬ (k : Int) < ni := by omega
   have HNIo := HNI.out
   go_upto_region 19 with fail
   clear x1 X0
   rw [HNIo]
   have X0 := HX0.out wo HB8.out
   have X1 := HX1.out wo HB8.out
   have x0 := Lib.cell_of_heap X0 0
   have x1 := Lib.cell_of_heap X0 1
   have x2 := Lib.cell_of_heap X0 2
   have y0 := Lib.cell_of_heap X1 0
   have y1 := Lib.cell_of_heap X1 1
   have y2 := Lib.cell_of_heap X1 2
   have y3 := Lib.cell_of_heap X1 3
   have y4 := Lib.cell_of_heap X1 4
   have y5 := Lib.cell_of_heap X1 5
   have y6 := Lib.cell_of_heap X1 6
   simp at x0 x1 x2 y0 y1 y2 y3 y4 y5 y6
   clear X0 X1 HNIo
   have CE := Lib.hid (expand8_any m pkg major env Ai ci Ad cd Ae ce t _ wo (HMW.out wo HB8.out) HCAP.out hpk (HEW.out wo HB8.out) hel (HTW.out wo HB8.out) (fun d hd => (HM9.out d hd).1))
   go_wp2_with fail
   refine CE.out.mono ?_; rintro e w11 ⟨c, u, lu, hep, rfl, hTu, hb11⟩
   have hTu := hTu.free
   have HEP := Lib.hid hep
   obtain ⟨Un, un, Us, us, rfl, -⟩ := hTu.parts
   obtain ⟨w12, hw12⟩ : ∃ w12, w12 = w11.alloc (.cells #[.int .i64 u.kind, .string u.pkg, .int .i64 u.major, .string u.mod, .string u.name, .slice Un u.names.length un, .slice Us u.subs.length us] 30) := ⟨_, rfl⟩
   have B12 : Below w11.heap.size w11 w12 := by rw [hw12]; exact below_new (Below.refl _ _) _
   have Y12 : w12.heap[w11.heap.size]? = some (.cells #[.int .i64 u.kind, .string u.pkg, .int .i64 u.major, .string u.mod, .string u.name, .slice Un u.names.length un, .slice Us u.subs.length us] 30 (0, 0)) := by rw [hw12]; exact heap_alloc_new w11 _
   have hl12 : w11.heap.size < w12.heap.size := by rw [hw12]; simp
   have HBX : Hid (Below W2.heap.size W2 w12) := Lib.hid (below_over HB8.out (below_over hb11 B12))
   have HTU : Hid (∀ wx, Below w12.heap.size w12 wx → TyAt wx [.int .i64 u.kind, .string u.pkg, .int .i64 u.major, .string u.mod, .string u.name, .slice Un u.names.length un, .slice Us u.subs.length us] u) := Lib.hid (fun wx hb => (hTu.keep B12).keep hb)
   have HUX : Hid (∀ wx, Below w12.heap.size w12 wx → wx.heap[w11.heap.size]? = some (.cells #[.int .i64 u.kind, .string u.pkg, .int .i64 u.major, .string u.mod, .string u.name, .slice Un u.names.length un, .slice Us u.subs.length us] 30 (0, 0))) := Lib.hid (fun wx hb => (hb.block _ hl12).trans Y12)
   have HW12 := Lib.hid hw12
   obtain ⟨ev, hev⟩ : ∃ ev, ev = errV c := ⟨_, rfl⟩
   rw [← hev]
   have HEV := Lib.hid hev
   clear x0 x1 x2 y0 y1 y2 y3 y4 y5 y6 hep hTu hb11 B12 hw12 CE hl12 hev Y12
   go_upto_region 20 with fail
   rw [← HW12.out]
   clear HW12
   have X0 := HX0.out w12 HBX.out
   have X1 := HX1.out w12 HBX.out
   have x0 := Lib.cell_of_heap X0 0
   have x1 := Lib.cell_of_heap X0 1
   have x2 := Lib.cell_of_heap X0 2
   have y0 := Lib.cell_of_heap X1 0
   have y1 := Lib.cell_of_heap X1 1
   have y2 := Lib.cell_of_heap X1 2
   have y3 := Lib.cell_of_heap X1 3
   have y4 := Lib.cell_of_heap X1 4
   have y5 := Lib.cell_of_heap X1 5
   have y6 := Lib.cell_of_heap X1 6
   simp at x0 x1 x2 y0 y1 y2 y3 y4 y5 y6
   clear X0 X1
   have CA := Lib.hid (rall_any m _ pkg major env Ae ce t _ w12 (HMW.out w12 HBX.out) hpk (HEW.out w12 HBX.out) hel H9.out (HTW.out w12 HBX.out) (fun d hd => (HM9.out d hd).1) (by omega))
   go_wp2_with fail
   refine CA.out.mono ?_; rintro e w13 ⟨c', u', lu', hep', rfl, hTu', hb13⟩
   obtain ⟨rfl, rfl⟩ := ep_one HEP.out hep'
   obtain ⟨Vn, vn, Vs, vs, rfl, -⟩ := hTu'.parts
   obtain ⟨w14, hw14⟩ : ∃ w14, w14 = w13.alloc (.cells #[.int .i64 u.kind, .string u.pkg, .int .i64 u.major, .string u.mod, .string u.name, .slice Vn u.names.length vn, .slice Vs u.subs.length vs] 30) := ⟨_, rfl⟩
   have B14 : Below w13.heap.size w13 w14 := by rw [hw14]; exact below_new (Below.refl _ _) _
   have Y14 : w14.heap[w13.heap.size]? = some (.cells #[.int .i64 u.kind, .string u.pkg, .int .i64 u.major, .string u.mod, .string u.name, .slice Vn u.names.length vn, .slice Vs u.subs.length vs] 30 (0, 0)) := by rw [hw14]; exact heap_alloc_new w13 _
   have hl14 : w13.heap.size < w14.heap.size := by rw [hw14]; simp
   have HB14 : Hid (Below w12.heap.size w12 w14) := Lib.hid (below_over hb13 B14)
   have HTV : Hid (∀ wx, Below w14.heap.size w14 wx → TyAt wx [.int .i64 u.kind, .string u.pkg, .int .i64 u.major, .string u.mod, .string u.name, .slice Vn u.names.length vn, .slice Vs u.subs.length vs] u) := Lib.hid (fun wx hb => (hTu'.keep B14).keep hb)
   have HVX : Hid (∀ wx, Below w14.heap.size w14 wx → wx.heap[w13.heap.size]? = some (.cells #[.int .i64 u.kind, .string u.pkg, .int .i64 u.major, .string u.mod, .string u.name, .slice Vn u.names.length vn, .slice Vs u.subs.length vs] 30 (0, 0))) := Lib.hid (fun wx hb => (hb.block _ hl14).trans Y14)
   have HW14 := Lib.hid hw14
   have CC := Lib.hid (fun wx => code_errE ev c wx HEV.out (ep_code HEP.out).1)
   clear x0 x1 x2 y0 y1 y2 y3 y4 y5 y6 hep' hTu' hb13 B14 hw14 CA hl14 Y14
   go_upto_region 21 with fail
   rw [← HW14.out]
   clear HW14
   go_wp2_with fail
   refine (CC.out _).mono ?_; rintro e w15 ⟨rfl, hb15⟩
   have HB15 := Lib.hid hb15
   have X0 := HUX.out w15 (below_over HB14.out HB15.out)
   have X1 := HVX.out w15 HB15.out
   have x0 := Lib.cell_of_heap X0 0
   have x1 := Lib.cell_of_heap X0 1
   have x2 := Lib.cell_of_heap X0 2
   have x3 := Lib.cell_of_heap X0 3
   have x4 := Lib.cell_of_heap X0 4
   have x5 := Lib.cell_of_heap X0 5
   have x6 := Lib.cell_of_heap X0 6
   have y0 := Lib.cell_of_heap X1 0
   have y1 := Lib.cell_of_heap X1 1
   have y2 := Lib.cell_of_heap X1 2
   have y3 := Lib.cell_of_heap X1 3
   have y4 := Lib.cell_of_heap X1 4
   have y5 := Lib.cell_of_heap X1 5
   have y6 := Lib.cell_of_heap X1 6
   simp at x0 x1 x2 x3 x4 x5 x6 y0 y1 y2 y3 y4 y5 y6
   have CS := Lib.hid (same_any (many u) u u (Nat.le_refl _) (.agg #[.int .i64 u.kind, .string u.pkg, .int .i64 u.major, .string u.mod, .string u.name, .slice Un u.names.length un, .slice Us u.subs.length us]) (.agg #[.int .i64 u.kind, .string u.pkg, .int .i64 u.major, .string u.mod, .string u.name, .slice Vn u.names.length vn, .slice Vs u.subs.length vs]) w15 ⟨_, rfl, HTU.out w15 (below_over HB14.out HB15.out)⟩ ⟨_, rfl, HTV.out w15 HB15.out⟩)
   rw [(sameT_iff u u).2 rfl] at CS
   have hcc : (c == c) = true := by simp
   clear hb15 X0 X1
   go_wp2_with fail
   refine CS.out.mono ?_; rintro e w16 ⟨rfl, hb16⟩
   have FIN := Lib.hid (below_over HB2.out (below_over HBX.out (below_over HB14.out (below_over HB15.out hb16))))
   clear x0 x1 x2 x3 x4 x5 x6 y0 y1 y2 y3 y4 y5 y6 hb16 CS
   go_wp2_with fail
   go_ret
   exact ⟨rfl, FIN.out⟩
end Go.Proofs.YtkgmdbkcldojnaaGreatDoor

/-  -/
namespace Go.Proofs.YtkgmdbkcldojnaaGreatDoor
open Go Go.ChangeShapes Go.WideShapes Go.ChangeAt Go.RowKit
theorem own : ownKnob Tryz.prog.godebug = none := by kernel_rfl
theorem laidOut : laidOutB Tryz.prog = true := by kernel_rfl
theorem gPow : Tryz.prog.globalNamed "internal/strconv.uint64pow10" = some 0 := by kernel_rfl
theorem gPowType : (Tryz.prog.globals[0]?).map (·.type) = some 204 := by kernel_rfl
theorem cellsPow : Tryz.prog.cellsOf 204 = 20 := by kernel_rfl
theorem cellsU64 : Tryz.prog.cellsOf 192 = 1 := by kernel_rfl
theorem powData : (Rows.laid_internal_strconv_uint64pow10 : DataW Unit) = Lib.tabData .u64 Lib.pow10Tab := by kernel_rfl
theorem pow_of {W : World} (h : laidMetH Tryz.prog [("math/bits.deBruijn32tab", Rows.laid_math_bits_deBruijn32tab), ("math/bits.deBruijn64tab", Rows.laid_math_bits_deBruijn64tab), ("internal/strconv.uint64pow10", Rows.laid_internal_strconv_uint64pow10)] W) : Pow W := by
  have h1 : laidMet Tryz.prog [("math/bits.deBruijn32tab", Rows.laid_math_bits_deBruijn32tab), ("math/bits.deBruijn64tab", Rows.laid_math_bits_deBruijn64tab), ("internal/strconv.uint64pow10", Rows.laid_internal_strconv_uint64pow10)] W := h
  have h3 := h1.tail.tail
  rw [powData] at h3
  exact Lib.tabIs_of_head (rest := []) gPow gPowType Tryz.underlying204 Tryz.underlying192 cellsU64 cellsPow h3
def putTab (g : Nat) (k : IntKind) (zs : List Int) (h : Array Obj) : Array Obj := h.modify g fun o =>
  match o with
  | .cells _ t frozen => .cells (zs.map fun z => Value.int k z).toArray t frozen
  | o => o
def tab32 : List Int := [0, 1, 28, 2, 29, 14, 24, 3, 30, 22, 20, 15, 25, 17, 4, 8, 31, 27, 13, 23, 21, 19, 16, 7, 26, 12, 18, 6, 11, 5, 10, 9]
def tab64 : List Int := [0, 1, 56, 2, 57, 49, 28, 3, 61, 58, 42, 50, 38, 29, 17, 4, 62, 47, 59, 36, 45, 43, 51, 22, 53, 39, 33, 30, 24, 18, 12, 5, 63, 55, 48, 27, 60, 41, 37, 16, 46, 35, 44, 21, 52, 32, 23, 11, 54, 26, 40, 15, 34, 20, 31, 10, 25, 14, 19, 9, 13, 8, 7, 6]
noncomputable def laidWorld (os : Os) : World :=
  { World.holding Tryz.prog os ⟨#[], #[], []⟩ with heap := putTab 2 .u8 tab64 (putTab 1 .u8 tab32 (putTab 0 .u64 Lib.pow10Tab (World.holding Tryz.prog os ⟨#[], #[], []⟩).heap)) }
end Go.Proofs.YtkgmdbkcldojnaaGreatDoor

/-  -/
namespace Go.Proofs.YtkgmdbkcldojnaaGreatDoor
open Go Go.RowKit Go.WideShapes Go.ChangeShapes
section
variable {H : Type} {enc : TypeId × Value → H} {P : Program}
theorem post_of_below {f : Func} {s : ChangeSpec} {apart fresh handsOn again : Bool} {W W' : World} {args : Array Value} {v : Value} {ds gs : List (DataW H)} {before pa pv : List MemPlace}
    (hW : DataW.Whole enc P f.params.toList s.vars apart W args.toList ds gs before)
    (hres : ∀ (b : Nat) (sp : Nat → Bool) (hd : Bool), DataW.TrodAll enc P W' b sp hd f.resultTypes.toList (v.resultList f.resultTypes.size) (s.fn H (ds ++ gs)).results [])
    (hargs : ∀ sp : Nat → Bool, (∀ p ∈ before, sp p.block = true) → DataW.TrodAll enc P W' 0 sp true f.params.toList args.toList (s.fn H (ds ++ gs)).args pa)
    (hvars : ∀ sp : Nat → Bool, (∀ p ∈ before, sp p.block = true) → DataW.TrodVars enc P W' sp s.vars (s.fn H (ds ++ gs)).vars pv)
    (hps : before = pa ++ pv) (hb : Below W.heap.size W W')
    (hok : ∀ (j : Nat) (t : TypeId) (r : Value), f.resultTypes[j]? = some t → (v.resultList f.resultTypes.size)[j]? = some r → Value.okWide P W' .any 0 t r) :
    s.post enc P f apart fresh handsOn again W args v W' := by
  have hlt : ∀ p ∈ before, p.block < W.heap.size := fun p hp => hW.lt p hp
  have hold : ∀ p ∈ before, (fun b => decide (b < W.heap.size)) p.block = true := fun p hp => by simpa using hlt p hp
  refine ⟨ds, gs, before, [], pa, pv, hW, hres _ _ _, hargs _ hold, hvars _ hold, World.keptBut_mono (fun p hp => ⟨hp, ?_⟩) (hb.frame (· ∈ before)), fun _ => ?_⟩
  · rw [hps, List.mem_append] at hp
    exact Or.inr hp
  · obtain ⟨_, _, _, _, _, hz, hn⟩ := hW
    refine ⟨hok, _, _, ([] ++ pa) ++ pv, ⟨[] ++ pa, pv, trodAll_append (hargs _ (fun _ _ => rfl)) (hres _ _ _), hvars _ (fun _ _ => rfl), rfl, ?_, ?_⟩, ?_⟩
    · intro b off hp
      have hin : MemPlace.cell b off ∈ before := by rw [hps]; simpa using hp
      rw [hb.frozen (hlt _ hin)]
      exact hz b off hin
    · intro ha
      have := hn ha
      rw [hps] at this
      simpa using this
    · intro p hp _
      rw [hps]
      simpa using hp
theorem trodAll_stays (hl : laidOutB P = true) {W W' : World} {sp : Nat → Bool} (hb : Below W.heap.size W W') :
    ∀ (ts : List TypeId) (vs : List Value) (ds : List (DataW H)) (ps : List MemPlace), (∀ t ∈ ts, P.readableRec t = true ∧ t < P.types.size) →
      DataW.TrodAll enc P W 0 (fun _ => true) true ts vs ds ps → (∀ x ∈ ps, x.block < W.heap.size) → (∀ x ∈ ps, sp x.block = true) → DataW.TrodAll enc P W' 0 sp true ts vs ds ps
  | [], vs, ds, ps, _, h, _, _ => by
    obtain ⟨rfl, rfl, rfl⟩ := trodAll_nil h
    exact trodAll_mk0
  | t :: ts, vs, ds, ps, ht, h, hlt, hs => by
    obtain ⟨v, vs', d, ds', p, q, rfl, rfl, rfl, h0, h1⟩ := trodAll_cons h
    obtain ⟨hr, hrow⟩ := ht t (by simp)
    exact ⟨p, q, WideElems.Trod_stays hl hr hrow h0 (fun x hx => hb.same (hlt x (by simp [hx]))) (fun x hx => hs x (by simp [hx])),
      trodAll_stays hl hb ts vs' ds' q (fun u hu => ht u (by simp [hu])) h1 (fun x hx => hlt x (by simp [hx])) (fun x hx => hs x (by simp [hx])), rfl⟩
theorem law_post {f : Func} {s : ChangeSpec} {apart fresh handsOn again : Bool} {W W' : World} {args : Array Value} {ds gs : List (DataW H)} {before : List MemPlace} {tb : TypeId}
    (hl : laidOutB P = true) (hro : f.params.toList.all (fun t => P.readableRec t && decide (t < P.types.size)) = true) (hres : f.resultTypes = #[tb]) (hbool : P.underlying tb = some .bool) (hvars : s.vars = [])
    (hW : DataW.Whole enc P f.params.toList s.vars apart W args.toList ds gs before) (hb : Below W.heap.size W W')
    (hs : s.fn H (ds ++ gs) = { results := [.lit (.bool true)], args := ds }) :
    s.post enc P f apart fresh handsOn again W args (.bool true) W' := by
  have hW' := hW
  obtain ⟨p, q, hA, hV, hpq, _, _⟩ := hW
  rw [hvars] at hV
  obtain ⟨rfl, rfl⟩ := trodVars_none hV
  rw [List.append_nil] at hpq
  subst hpq
  have hlt : ∀ x ∈ before, x.block < W.heap.size := fun x hx => hW'.lt x hx
  have hro' : ∀ t ∈ f.params.toList, P.readableRec t = true ∧ t < P.types.size := fun t ht => by
    have := List.all_eq_true.1 hro t ht
    simpa using this
  refine post_of_below (pa := before) (pv := []) hW' ?_ ?_ ?_ (by simp) hb ?_
  · intro b sp hd
    rw [hs, hres]
    exact trodAll_mk1 (shut_bool hbool true)
  · intro sp hsp
    rw [hs]
    exact trodAll_stays hl hb _ _ _ _ hro' hA hlt hsp
  · intro sp _
    rw [hs, hvars]
    exact rfl
  · exact ok_one hres rfl (okWide_bool_mk hbool true)
end
end Go.Proofs.YtkgmdbkcldojnaaGreatDoor
