/-
  Several texts in one:  ·  ·  ·  ·  ·  ·  ·  ·  ·  · 
-/
import Derived.Test.YtkgmdbkcldojnaaGreatDoorChecked
import Derived.Test.YtkgmdbkcldojnaaGreatDoorK00
import Derived.WalkKit
import Derived.LaidEql
import Derived.Stop.Asserts
import Derived.RowKitTokens
import Derived.Lib.IfaceEq
import Derived.WalkSpells
import Derived.Laws.Pointers
import Derived.Test.YtkgmdbkcldojnaaGreatDoorK04
import Derived.Test.YtkgmdbkcldojnaaGreatDoorK05
import Derived.Lib.AppendIntMem
import Derived.Lib.ItoaLen
import Derived.Lib.IndexBytes
import Derived.Deep.RegionHeld3
import Derived.Deep.RegionWith
import Derived.IntWalk
import Derived.Laws.BitsLemmas
import Derived.Test.YtkgmdbkcldojnaaGreatDoorK03
/-  -/
namespace Go.Proofs.YtkgmdbkcldojnaaGreatDoor
open Go.RowKit Go.Extern.Stop Go.Stop Go.Extern
end Go.Proofs.YtkgmdbkcldojnaaGreatDoor

/-  -/
namespace Go.Proofs.YtkgmdbkcldojnaaGreatDoor
open Go.RowKit Go.Extern.Stop Go.Stop Go.Extern
theorem sp_comp : (Tryz.prog.info? 60).map (·.comparable) = some true := by kernel_rfl
end Go.Proofs.YtkgmdbkcldojnaaGreatDoor

/-  -/
namespace Go.Proofs.YtkgmdbkcldojnaaGreatDoor
open Go.RowKit
theorem sp_eqCode (a b : Int) (w : World) : (binOp .eql 50 (.iface 60 (.int .i64 a)) (.iface 60 (.int .i64 b))).run Tryz.prog w = .ok (.bool (a == b)) w :=
  Lib.run_eql_iface_int (P := Tryz.prog) (k := .i64) w a b Tryz.underlying50 sp_comp Tryz.underlying60
end Go.Proofs.YtkgmdbkcldojnaaGreatDoor

/-  -/
namespace Go.Proofs.YtkgmdbkcldojnaaGreatDoor
open Go.RowKit
open Go.Sort
open M
theorem noT_at (w : World) : TyV w (.agg #[.int .i64 0, .string ⟨#[]⟩, .int .i64 0, .string ⟨#[]⟩, .string ⟨#[]⟩, .slice none 0 0, .slice none 0 0]) noT := ⟨_, rfl, TyAt.zero w⟩
end Go.Proofs.YtkgmdbkcldojnaaGreatDoor

/-  -/
namespace Go.Proofs.YtkgmdbkcldojnaaGreatDoor
open Go.RowKit
open Go.Sort
open M
set_option maxRecDepth 100000 in
set_option maxHeartbeats 4000000 in
theorem rdecl0_any (k : Int) (s : ByteArray) (t : Ty) (An As : Option Addr) (cA cS : Nat) (w : World) (hT : TyAt w [.int .i64 t.kind, .string t.pkg, .int .i64 t.major, .string t.mod, .string t.name, .slice An t.names.length cA, .slice As t.subs.length cS] t) (hM : many t ≤ 9000) (z : s.size ≤ 9223372036854775807) :
    Calls Tryz.prog 105 #[.agg #[.int .i64 k, .string s, .int .i64 t.kind, .string t.pkg, .int .i64 t.major, .string t.mod, .string t.name, .slice An t.names.length cA, .slice As t.subs.length cS]] w fun e w' => e = .returned (.bool (mayD ⟨k, s, t⟩)) ∧ Below w.heap.size w w' := by
  obtain ⟨w0, hw0⟩ : ∃ w0, w0 = w.alloc (.cells #[.int .i64 k, .string s, .int .i64 t.kind, .string t.pkg, .int .i64 t.major, .string t.mod, .string t.name, .slice An t.names.length cA, .slice As t.subs.length cS] 63) := ⟨_, rfl⟩
  have B0 : Below w.heap.size w w0 := by rw [hw0]; exact below_new (Below.refl _ _) _
  have O0 : w0.heap[w.heap.size]? = some (.cells #[.int .i64 k, .string s, .int .i64 t.kind, .string t.pkg, .int .i64 t.major, .string t.mod, .string t.name, .slice An t.names.length cA, .slice As t.subs.length cS] 63 (0, 0)) := by rw [hw0]; exact heap_alloc_new w _
  have hl0 : w.heap.size < w0.heap.size := by rw [hw0]; simp
  have HV : Hid (mayD ⟨k, s, t⟩ = if k = 1 ∨ k = 2 then greatB s.data.toList && sameT t noT else if k = 3 then greatB s.data.toList && mayT t else if k = 4 then smallB s.data.toList && mayT t else false) := Lib.hid rfl
  have S0 := Lib.hid (fun w => refSmall_any s w z)
  have S1 := Lib.hid (fun w => refGreat_any s w z)
  have HT : Hid (∀ w', Below w.heap.size w w' → TyV w' (.agg #[.int .i64 t.kind, .string t.pkg, .int .i64 t.major, .string t.mod, .string t.name, .slice An t.names.length cA, .slice As t.subs.length cS]) t) := Lib.hid (fun w' hb => ⟨_, rfl, hT.keep hb⟩)
  have SM : Hid (∀ w', Below w.heap.size w w' → Calls Tryz.prog 14 #[.agg #[.int .i64 t.kind, .string t.pkg, .int .i64 t.major, .string t.mod, .string t.name, .slice An t.names.length cA, .slice As t.subs.length cS], .agg #[.int .i64 0, .string ⟨#[]⟩, .int .i64 0, .string ⟨#[]⟩, .string ⟨#[]⟩, .slice none 0 0, .slice none 0 0]] w' fun e w'' => e = .returned (.bool (sameT t noT)) ∧ Below w'.heap.size w' w'') := Lib.hid (fun w' hb => same_any _ t noT (Nat.le_refl _) _ _ w' (HT.out w' hb) (noT_at w'))
  have MY : Hid (∀ w', Below w.heap.size w w' → Calls Tryz.prog 38 #[.agg #[.int .i64 t.kind, .string t.pkg, .int .i64 t.major, .string t.mod, .string t.name, .slice An t.names.length cA, .slice As t.subs.length cS]] w' fun e w'' => e = .returned (.bool (mayT t)) ∧ Below w'.heap.size w' w'') := Lib.hid (fun w' hb => may_any t _ w' hM (HT.out w' hb))
  rw [HV.out]
  generalize smallB s.data.toList = b0 at S0
  generalize greatB s.data.toList = b1 at S1
  generalize sameT t noT = b2 at SM
  generalize mayT t = b3 at MY
  obtain ⟨V, hV⟩ : ∃ V, (if k = 1 ∨ k = 2 then b1 && b2 else if k = 3 then b1 && b3 else if k = 4 then b0 && b3 else false) = V := ⟨_, rfl⟩
  rw [hV]
  have HVV := Lib.hid hV
  clear hV
  have x1 := Lib.cell_of_heap O0 1
  simp at x1
  have HO := Lib.hid O0
  have HB := Lib.hid B0
  have HW0 := Lib.hid hw0
  clear hw0 B0 O0 HV z hT HT
  go_enter Tryz.func105, Tryz.ntmps105
  go_upto_region 1 with fail
  rw [← HW0.out]
  clear HW0
  go_wp2_with fail
  refine (S0.out _).mono ?_; rintro e w1 ⟨rfl, hb1⟩
  have O1 := (hb1.block _ hl0).trans HO.out
  have HB1 := Lib.hid (below_over HB.out hb1)
  have x1 := Lib.cell_of_heap O1 1
  simp at x1
  go_wp2_with fail
  refine (S1.out _).mono ?_; rintro e w2 ⟨rfl, rfl⟩
  have y0 := Lib.cell_of_heap O1 0
  have y1 := Lib.cell_of_heap O1 1
  have y2 := Lib.cell_of_heap O1 2
  have y3 := Lib.cell_of_heap O1 3
  have y4 := Lib.cell_of_heap O1 4
  have y5 := Lib.cell_of_heap O1 5
  have y6 := Lib.cell_of_heap O1 6
  have y7 := Lib.cell_of_heap O1 7
  have y8 := Lib.cell_of_heap O1 8
  simp at y0 y1 y2 y3 y4 y5 y6 y7 y8
  clear x1
  go_wp2_with fail
  refine (SM.out _ HB1.out).mono ?_; rintro e w3 ⟨rfl, hb3⟩
  have hl1 := Nat.lt_of_lt_of_le hl0 hb1.size
  have O3 := (hb3.block _ hl1).trans O1
  have B3 := below_over HB1.out hb3
  have HB3 := Lib.hid B3
  clear y0 y1 y2 y3 y4 y5 y6 y7 y8
  have y0 := Lib.cell_of_heap O3 0
  have y1 := Lib.cell_of_heap O3 1
  have y2 := Lib.cell_of_heap O3 2
  have y3 := Lib.cell_of_heap O3 3
  have y4 := Lib.cell_of_heap O3 4
  have y5 := Lib.cell_of_heap O3 5
  have y6 := Lib.cell_of_heap O3 6
  have y7 := Lib.cell_of_heap O3 7
  have y8 := Lib.cell_of_heap O3 8
  simp at y0 y1 y2 y3 y4 y5 y6 y7 y8
  clear O1 O3 B3 hb1 hb3 HO HB HB1 S0 S1 SM hl0 hl1
  by_cases h1 : k = 1
  · subst h1
    cases b1 <;> cases b2
    all_goals (go_wp2_with fail; go_ret; exact ⟨by rw [← HVV.out]; simp, HB3.out⟩)
  by_cases h2 : k = 2
  · subst h2
    cases b1 <;> cases b2
    all_goals (go_wp2_with fail; go_ret; exact ⟨by rw [← HVV.out]; simp, HB3.out⟩)
  have e1 : (k == 1) = false := by simpa using h1
  have e2 : (k == 2) = false := by simpa using h2
  by_cases h3 : k = 3
  · subst h3
    clear h1 h2 e1 e2
    cases b1 with
    | false => go_wp2_with fail; go_ret; exact ⟨by rw [← HVV.out]; simp, HB3.out⟩
    | true =>
      go_wp2_with fail
      refine (MY.out _ HB3.out).mono ?_; rintro e w4 ⟨rfl, hb4⟩
      have FIN := Lib.hid (below_over HB3.out hb4)
      cases b3
      all_goals (go_wp2_with fail; go_ret; exact ⟨by rw [← HVV.out]; simp, FIN.out⟩)
  have e3 : (k == 3) = false := by simpa using h3
  by_cases h4 : k = 4
  · subst h4
    clear h1 h2 h3 e1 e2 e3
    cases b0 with
    | false => go_wp2_with fail; go_ret; exact ⟨by rw [← HVV.out]; simp, HB3.out⟩
    | true =>
      go_wp2_with fail
      refine (MY.out _ HB3.out).mono ?_; rintro e w4 ⟨rfl, hb4⟩
      have FIN := Lib.hid (below_over HB3.out hb4)
      cases b3
      all_goals (go_wp2_with fail; go_ret; exact ⟨by rw [← HVV.out]; simp, FIN.out⟩)
  have e4 : (k == 4) = false := by simpa using h4
  have RV : V = false := by rw [← HVV.out, if_neg (by simp [h1, h2]), if_neg h3, if_neg h4]
  subst RV
  clear h1 h2 h3 h4
  go_wp2_with fail
  go_ret
  exact ⟨rfl, HB3.out⟩
end Go.Proofs.YtkgmdbkcldojnaaGreatDoor

/-  -/
namespace Go.Proofs.YtkgmdbkcldojnaaGreatDoor
open Go.RowKit
open Go.Sort
open M
def mayM (m : Mo) : Bool := smallB m.name.data.toList && (decide (m.imps.length ≤ 20) && (decide (m.decs.length ≤ 60) && (m.imps.all mayI && m.decs.all mayD)))
theorem all_snoc {α : Type} (p : α → Bool) (l : List α) (j : Nat) (x : α) (h : l[j]? = some x) : (l.take (j + 1)).all p = ((l.take j).all p && p x) := by
 rw [List.take_add_one, h, List.all_append]; simp
theorem all_part {α : Type} (p : α → Bool) (l : List α) (j : Nat) (h : (l.take j).all p = false) : l.all p = false := by
 rw [← List.take_append_drop j l, List.all_append, h]; rfl
set_option maxRecDepth 100000 in
set_option maxHeartbeats 8000000 in
theorem rmay6_any (m : Mo) (l : List Value) (w : World) (h : MoAt w l m) (hM : ∀ d ∈ m.decs, many d.typ ≤ 9000) : Calls Tryz.prog 73 #[.agg l.toArray] w fun e w' => e = .returned (.bool (mayM m)) ∧ Below w.heap.size w w' := by
 obtain ⟨Ai, ci, Ad, cd, rfl, z1, z2, z3, hI, hD⟩ := h
 obtain ⟨w0, hw0⟩ : ∃ w0, w0 = w.alloc (.cells #[.string m.name, .slice Ai m.imps.length ci, .slice Ad m.decs.length cd] 25) := ⟨_, rfl⟩
 have B0 : Below w.heap.size w w0 := by rw [hw0]; exact below_new (Below.refl _ _) _
 have O0 : w0.heap[w.heap.size]? = some (.cells #[.string m.name, .slice Ai m.imps.length ci, .slice Ad m.decs.length cd] 25 (0, 0)) := by rw [hw0]; exact heap_alloc_new w _
 have hl0 : w.heap.size < w0.heap.size := by rw [hw0]; simp
 have S0 := Lib.hid (fun w => refSmall_any m.name w z1)
 obtain ⟨V, hV⟩ : ∃ V, mayM m = V := ⟨_, rfl⟩
 rw [hV]
 have HV : Hid ((smallB m.name.data.toList && (decide (m.imps.length ≤ 20) && (decide (m.decs.length ≤ 60) && (m.imps.all mayI && m.decs.all mayD)))) = V) := Lib.hid hV
 obtain ⟨ni, hni⟩ : ∃ ni, ni = m.imps.length := ⟨_, rfl⟩
 obtain ⟨nd, hnd⟩ : ∃ nd, nd = m.decs.length := ⟨_, rfl⟩
 rw [← hni] at z2 O0 hw0 HV
 rw [← hnd] at z3 O0 hw0 HV
 rw [← hni, ← hnd]
 have HNI := Lib.hid hni
 have HND := Lib.hid hnd
 have HI := Lib.hid (hI.below B0)
 have HD := Lib.hid (hD.below B0)
 have HM := Lib.hid hM
 have x0 := Lib.cell_of_heap O0 0
 simp at x0
 have HO := Lib.hid O0
 have HB := Lib.hid B0
 have HW0 := Lib.hid hw0
 generalize smallB m.name.data.toList = b0 at S0 HV
 clear hV hI hD hM hw0 B0 O0 hni hnd z1
 go_enter Tryz.func73, Tryz.ntmps73
 go_upto_region 1 with fail
 rw [← HW0.out]
 clear HW0
 go_wp2_with fail
 refine (S0.out _).mono ?_; rintro e w1 ⟨rfl, hb1⟩
 have O1 := (hb1.block _ hl0).trans HO.out
 have HO1 := Lib.hid O1
 have x1 := Lib.cell_of_heap O1 1
 have x2 := Lib.cell_of_heap O1 2
 simp at x1 x2
 have HB1 := Lib.hid (below_over HB.out hb1)
 have HI1 := Lib.hid (HI.out.below hb1)
 have HD1 := Lib.hid (HD.out.below hb1)
 have hl1 := Nat.lt_of_lt_of_le hl0 hb1.size
 clear x0 hb1 O1 HB HI HD HO hl0 S0
 cases b0 with
 | false =>
  go_wp2_with fail
  go_ret
  exact ⟨by rw [← HV.out]; rfl, HB1.out⟩
 | true =>
 by_cases h20 : 20 < ni
 ·have e1 : (20 : Int) < ni := by omega
  have e2 : decide (ni ≤ 20) = false := by simp; omega
  go_wp2_with fail
  go_ret
  exact ⟨by rw [← HV.out, e2]; rfl, HB1.out⟩
 have e20 : ¬ (20 : Int) < ni := by omega
 by_cases h60 : 60 < nd
 ·have e1 : (60 : Int) < nd := by omega
  have e2 : decide (nd ≤ 60) = false := by simp; omega
  go_wp2_with fail
  go_ret
  exact ⟨by rw [← HV.out, e2]; simp, HB1.out⟩
 have e60 : ¬ (60 : Int) < nd := by omega
 have HV1 : Hid ((m.imps.all mayI && m.decs.all mayD) = V) := Lib.hid (by
  rw [← HV.out, decide_eq_true (show ni ≤ 20 by omega), decide_eq_true (show nd ≤ 60 by omega)]; rfl)
 clear HV
 go_wp2_with fail
 clear e20 e60
 go_loopw [3, 4] (fun okv iv wr => ∃ (j : Nat) (q : Bool), j ≤ ni ∧ iv = .int .i64 j ∧ okv = .bool q ∧ Hid ((m.imps.take j).all mayI = q) ∧ Below w1.heap.size w1 wr) (fun _ iv _ => ni - (intOf iv).toNat)
 case atStart => exact ⟨0, true, by omega, rfl, rfl, Lib.hid (by simp), Below.refl _ _⟩
 case round =>
  obtain ⟨j, q, hj, rfl, rfl, HQ, hb⟩ := hrel
  obtain ⟨wo, rfl⟩ : ∃ wo : World, wo = wr := ⟨_, rfl⟩
  have O := (hb.block _ hl1).trans HO1.out
  have x1 := Lib.cell_of_heap O 1
  have x2 := Lib.cell_of_heap O 2
  simp at x1 x2
  by_cases hgo : j < ni ∧ q = true
  ·obtain ⟨hlt, rfl⟩ := hgo
   obtain ⟨x, hx⟩ : ∃ x, m.imps[j]? = some x := ⟨_, List.getElem?_eq_getElem (by rw [← HNI.out]; exact hlt)⟩
   obtain ⟨g, o, rfl, -, a0, a1, a2, a3, y1, y2, y3⟩ := (HI1.out.below hb).im hx
   have IM := Lib.hid (rimport0_any x wo y1 y2 y3)
   have HX := Lib.hid hx
   have HBo := Lib.hid hb
   clear hx O x2 y1 y2 y3 hb
   go_wp2_with fail
   refine IM.out.mono ?_; rintro e w3 ⟨rfl, hb3⟩
   have HB3 := Lib.hid (below_over HBo.out hb3)
   clear hb3 a0 a1 a2 a3 x1
   go_wp2_with fail
   go_roundw
   case rel => exact ⟨j + 1, mayI x, by omega, by go_num, rfl, Lib.hid (by rw [all_snoc _ _ _ _ HX.out, HQ.out]; rfl), HB3.out⟩
   case measure => simp [intOf]; omega
  ·have hstop : ni ≤ j ∨ q = false := by
    rcases Nat.lt_or_ge j ni with a | a
    ·cases q with
     | true => exact absurd ⟨a, rfl⟩ hgo
     | false => exact .inr rfl
    ·exact .inl a
   have HQ2 : Hid (m.imps.all mayI = q) := Lib.hid (by
    rcases hstop with a | a
    ·rw [← HQ.out, List.take_of_length_le (by rw [← HNI.out]; exact a)]
    ·rw [a] at HQ ⊢
     exact all_part _ _ _ HQ.out)
   have hcase : ¬ j < ni ∨ (j < ni ∧ q = false) := by
    rcases Nat.lt_or_ge j ni with a | a
    ·rcases hstop with b | b
     ·omega
     ·exact .inr ⟨a, b⟩
    ·exact .inl (by omega)
   clear hgo hstop HQ O
   rcases hcase with hc | ⟨hc, rfl⟩
   all_goals
    go_wp2_with fail
    go_loopw [3, 5] (fun okv iv wr => ∃ (j : Nat) (p : Bool), j ≤ nd ∧ iv = .int .i64 j ∧ okv = .bool p ∧ Hid ((m.imps.all mayI && (m.decs.take j).all mayD) = p) ∧ Below w1.heap.size w1 wr) (fun _ iv _ => nd - (intOf iv).toNat)
    case atStart => exact ⟨0, _, by omega, rfl, rfl, Lib.hid (by rw [HQ2.out]; simp), hb⟩
    case round =>
     obtain ⟨k, p, hk, rfl, rfl, HP, hb2⟩ := hrel
     obtain ⟨wi, rfl⟩ : ∃ wi : World, wi = wr := ⟨_, rfl⟩
     have O := (hb2.block _ hl1).trans HO1.out
     have x2 := Lib.cell_of_heap O 2
     simp at x2
     clear x1
     by_cases hgo : k < nd ∧ p = true
     ·obtain ⟨hlt, rfl⟩ := hgo
      obtain ⟨x, hx⟩ : ∃ x, m.decs[k]? = some x := ⟨_, List.getElem?_eq_getElem (by rw [← HND.out]; exact hlt)⟩
      obtain ⟨g, o, v0, v1, v2, v3, v4, v5, v6, rfl, -, a0, a1, u0, u1, u2, u3, u4, u5, u6, us, zs⟩ := (HD1.out.below hb2).de hx
      obtain ⟨An, cA, As, cS, ev, -⟩ := us.parts
      simp only [List.cons.injEq, and_true] at ev
      obtain ⟨rfl, rfl, rfl, rfl, rfl, rfl, rfl⟩ := ev
      have RD := Lib.hid (rdecl0_any x.kind x.name x.typ An As cA cS wi us (HM.out x (List.mem_of_getElem? hx)) zs)
      have HX := Lib.hid hx
      have HBo := Lib.hid hb2
      clear hx O us zs hb2
      go_wp2_with fail
      refine RD.out.mono ?_; rintro e w3 ⟨rfl, hb3⟩
      have HB3 := Lib.hid (below_over HBo.out hb3)
      clear hb3 a0 a1 u0 u1 u2 u3 u4 u5 u6 x2
      go_wp2_with fail
      go_roundw
      case rel => exact ⟨k + 1, mayD ⟨x.kind, x.name, x.typ⟩, by omega, by go_num, rfl, Lib.hid (by
       have hp := HP.out
       rw [Bool.and_eq_true] at hp
       rw [all_snoc _ _ _ _ HX.out, hp.1, hp.2]; rfl), HB3.out⟩
      case measure => simp [intOf]; omega
     ·have hstop : nd ≤ k ∨ p = false := by
       rcases Nat.lt_or_ge k nd with a | a
       ·cases p with
        | true => exact absurd ⟨a, rfl⟩ hgo
        | false => exact .inr rfl
       ·exact .inl a
      have FV : Hid (p = V) := Lib.hid (by
       rw [← HV1.out, ← HP.out]
       rcases hstop with a | a
       ·rw [List.take_of_length_le (by rw [← HND.out]; exact a)]
       ·rw [a] at HP
        have hp := HP.out
        cases hA : m.imps.all mayI with
        | false => rfl
        | true =>
         rw [hA, Bool.true_and] at hp
         rw [Bool.true_and, Bool.true_and, hp, all_part _ _ _ hp])
      have hcase : ¬ k < nd ∨ (k < nd ∧ p = false) := by
       rcases Nat.lt_or_ge k nd with a | a
       ·rcases hstop with b | b
        ·omega
        ·exact .inr ⟨a, b⟩
       ·exact .inl (by omega)
      have FIN := Lib.hid (below_over HB1.out hb2)
      clear hgo hstop HP O
      rcases hcase with hc2 | ⟨hc2, rfl⟩
      all_goals
       go_wp2_with fail
       go_ret
       exact ⟨ret_bool FV.out.symm, FIN.out⟩
end Go.Proofs.YtkgmdbkcldojnaaGreatDoor

/-  -/
namespace Go.Proofs.YtkgmdbkcldojnaaGreatDoor
open Go.RowKit
def dec (n : Int) : ByteArray := ⟨(Lib.decDigits n.toNat).toArray⟩
theorem dec_size (n : Int) (h0 : 0 ≤ n) (h1 : n ≤ 9223372036854775807) : (dec n).size ≤ 20 := by
  unfold dec
  rw [Lib.size_eq, List.toList_toArray, Lib.decDigits_length]
  exact Lib.nDigits_le20 _ (by omega)
end Go.Proofs.YtkgmdbkcldojnaaGreatDoor

/-  -/
namespace Go.Proofs.YtkgmdbkcldojnaaGreatDoor.M
def rowOf (L : List (List UInt8)) (ns : List ByteArray) : Nat → List UInt8
  | 0 => []
  | k + 1 => (if 0 < k then rowOf L ns k ++ [44, 32] else rowOf L ns k) ++ (if 0 < ns.length then (nameAt ns k).data.toList ++ [58, 32] else []) ++ L.getD k []
def kindText (k : Int) (p : ByteArray) (m : Int) (d n : ByteArray) (ns : List ByteArray) (L : List (List UInt8)) : List UInt8 :=
  if k = 1 then [73, 110, 116]
  else if k = 2 then [84, 101, 120, 116]
  else if k = 3 then [66, 111, 111, 108]
  else if k = 4 then [76, 105, 115, 116, 40] ++ L.getD 0 [] ++ [41]
  else if k = 5 then [123] ++ rowOf L ns L.length ++ [125]
  else if k = 6 then [91] ++ rowOf L ns L.length ++ [93]
  else if k = 7 then [40] ++ rowOf L [] (L.length - 1) ++ [41, 32, 45, 62, 32] ++ L.getD (L.length - 1) []
  else if k = 9 then [60] ++ p.data.toList ++ [32] ++ (dec m).data.toList ++ [32] ++ d.data.toList ++ [32] ++ n.data.toList ++ [62]
  else if d.size = 0 then n.data.toList
  else d.data.toList ++ [46] ++ n.data.toList
mutual
def textT : Ty → List UInt8
  | .mk k p m d n ns ss => kindText k p m d n ns (textsT ss)
def textsT : List Ty → List (List UInt8)
  | [] => []
  | t :: r => textT t :: textsT r
end
theorem textT_eq (t : Ty) : textT t = kindText t.kind t.pkg t.major t.mod t.name t.names (textsT t.subs) := by cases t; rfl
theorem textsT_len : ∀ l : List Ty, (textsT l).length = l.length
  | [] => rfl
  | t :: r => by simp [textsT, textsT_len r]
theorem textsT_at : ∀ (l : List Ty) (i : Nat) (t : Ty), l[i]? = some t → (textsT l).getD i [] = textT t
  | [], i, t, h => by simp at h
  | a :: r, 0, t, h => by simp at h; subst h; rfl
  | a :: r, i + 1, t, h => by
    have := textsT_at r i t (by simpa using h)
    simpa [textsT] using this
theorem spell_len {f g : Int → Bool} {s : ByteArray} (h : spell f g s.data.toList = true) : s.size ≤ 20 := by
  have := ((spell_iff _ _ _).1 h).2.1
  rwa [len_size] at this
theorem small_len {s : ByteArray} (h : smallB s.data.toList = true) : s.size ≤ 20 := by
  unfold smallB at h
  simp only [Bool.and_eq_true] at h
  exact spell_len h.1
theorem great_len {s : ByteArray} (h : greatB s.data.toList = true) : s.size ≤ 20 := by
  unfold greatB at h
  simp only [Bool.and_eq_true] at h
  exact spell_len h.1
theorem own_names {t : Ty} (h : ownOk t = true) (i : Nat) (hi : i < t.names.length) : (nameAt t.names i).size ≤ 20 := by
  unfold ownOk at h
  simp only [Bool.and_eq_true] at h
  obtain ⟨⟨-, hn⟩, hs⟩ := h
  have hb := (namesOk_iff _ _).1 hn i hi
  unfold badName at hb
  simp only [Bool.or_eq_false_iff, Bool.and_eq_false_iff, Bool.not_eq_false'] at hb
  obtain ⟨⟨h5, h6⟩, -⟩ := hb
  by_cases k5 : t.kind = 5
  · rcases h5 with h5 | h5
    · rw [k5] at h5; cases h5
    · exact small_len h5
  by_cases k6 : t.kind = 6
  · rcases h6 with h6 | h6
    · rw [k6] at h6; cases h6
    · exact great_len h6
  exfalso
  unfold shapeOk at hs
  simp only [k5, k6, if_false] at hs
  have h0 : t.names.length ≠ 0 := by omega
  (repeat' split at hs) <;> simp_all
theorem row_len (l : List Ty) (ns : List ByteArray) (hl : ∀ s, s ∈ l → (textT s).length + 24 ≤ 124 * many s) (hn : ∀ i, i < ns.length → (nameAt ns i).size ≤ 20) :
    ∀ k, k ≤ l.length → (rowOf (textsT l) ns k).length ≤ 124 * manyL (l.take k) := by
  intro k
  induction k with
  | zero => intro _; simp [rowOf]
  | succ k ih =>
    intro hk
    have a := ih (by omega)
    obtain ⟨s, hs⟩ : ∃ s, l[k]? = some s := ⟨_, List.getElem?_eq_getElem (by omega)⟩
    have b := hl s (List.mem_of_getElem? hs)
    have c : (nameAt ns k).size ≤ 20 := by
      rcases Nat.lt_or_ge k ns.length with h | h
      · exact hn k h
      · unfold nameAt; rw [List.getD_eq_getElem?_getD, List.getElem?_eq_none h]; exact Nat.zero_le _
    have d := len_size (nameAt ns k)
    rw [manyL_take l k _ hs]
    unfold rowOf
    rw [textsT_at l k _ hs]
    split <;> split <;> simp only [List.length_append, List.length_cons, List.length_nil, d] <;> omega
theorem getD_len (l : List Ty) (k : Nat) (hk : k < l.length) (hl : ∀ s, s ∈ l → (textT s).length + 24 ≤ 124 * many s) : ((textsT l).getD k []).length + 24 + 124 * manyL (l.take k) ≤ 124 * manyL l := by
  obtain ⟨s, hs⟩ : ∃ s, l[k]? = some s := ⟨_, List.getElem?_eq_getElem hk⟩
  have b := hl s (List.mem_of_getElem? hs)
  have c := manyL_take l k _ hs
  have d := manyL_take_le l (k + 1)
  rw [textsT_at l k _ hs]
  omega
theorem own_len (t : Ty) (ho : ownOk t = true) (hl : ∀ s, s ∈ t.subs → (textT s).length + 24 ≤ 124 * many s) : (textT t).length + 24 ≤ 124 * many t := by
  have hN := own_names ho
  have hm : many t = 1 + manyL t.subs := by cases t; rfl
  have hr := row_len t.subs t.names hl hN
  have hr0 := row_len t.subs [] hl (fun i hi => by simp at hi)
  have htk : manyL (t.subs.take t.subs.length) = manyL t.subs := by rw [List.take_of_length_le (Nat.le_refl _)]
  have hLl := textsT_len t.subs
  have hs : shapeOk t = true := by
    unfold ownOk at ho
    simp only [Bool.and_eq_true] at ho
    exact ho.2
  rw [textT_eq]
  unfold kindText
  rw [hLl]
  by_cases k1 : t.kind = 1
  · simp [k1]; omega
  by_cases k2 : t.kind = 2
  · simp [k2]; omega
  by_cases k3 : t.kind = 3
  · simp [k3]; omega
  rw [if_neg k1, if_neg k2, if_neg k3]
  unfold shapeOk at hs
  rw [if_neg (by omega)] at hs
  by_cases k4 : t.kind = 4
  · rw [if_pos k4] at hs ⊢
    simp only [Bool.and_eq_true, decide_eq_true_eq] at hs
    have := getD_len t.subs 0 (by omega) hl
    simp only [List.length_append, List.length_cons, List.length_nil]
    omega
  rw [if_neg k4] at hs ⊢
  by_cases k5 : t.kind = 5
  · rw [if_pos k5]
    have := hr t.subs.length (Nat.le_refl _)
    simp only [List.length_append, List.length_cons, List.length_nil]
    omega
  rw [if_neg k5] at hs ⊢
  by_cases k6 : t.kind = 6
  · rw [if_pos k6]
    have := hr t.subs.length (Nat.le_refl _)
    simp only [List.length_append, List.length_cons, List.length_nil]
    omega
  rw [if_neg k6] at hs ⊢
  by_cases k7 : t.kind = 7
  · rw [if_pos k7] at hs ⊢
    simp only [Bool.and_eq_true, decide_eq_true_eq] at hs
    have a := hr0 (t.subs.length - 1) (by omega)
    have b := getD_len t.subs (t.subs.length - 1) (by omega) hl
    simp only [List.length_append, List.length_cons, List.length_nil]
    omega
  rw [if_neg k7] at hs ⊢
  by_cases k8 : t.kind = 8
  · rw [if_pos k8] at hs
    simp only [Bool.and_eq_true, Bool.or_eq_true] at hs
    have a := great_len hs.1.2
    have b : t.mod.size ≤ 20 := by
      rcases hs.2 with h | h
      · exact small_len h
      · have : t.mod.size = 0 := by simpa [emptyB] using h
        omega
    have c := len_size t.mod
    have d := len_size t.name
    rw [if_neg (by omega)]
    split <;> simp only [List.length_append, List.length_cons, List.length_nil, c, d] <;> omega
  rw [if_neg k8] at hs
  by_cases k9 : t.kind = 9
  · rw [if_pos k9] at hs ⊢
    simp only [Bool.and_eq_true, decide_eq_true_eq] at hs
    obtain ⟨⟨⟨⟨⟨-, h1⟩, h2⟩, h3⟩, h4⟩, h5⟩ := hs
    have a := small_len h1
    have b := small_len h2
    have c := great_len h3
    have d := dec_size t.major (by omega) (by omega)
    have e1 := len_size t.pkg
    have e2 := len_size t.mod
    have e3 := len_size t.name
    have e4 := len_size (dec t.major)
    simp only [List.length_append, List.length_cons, List.length_nil, e1, e2, e3, e4]
    omega
  · rw [if_neg k9] at hs
    cases hs
mutual
theorem text_len : ∀ t : Ty, allOk t = true → (textT t).length + 24 ≤ 124 * many t
  | .mk k p m d n ns ss, h => by
    rw [allOk_eq] at h
    simp only [Bool.and_eq_true] at h
    exact own_len _ h.1 (texts_len ss h.2)
theorem texts_len : ∀ l : List Ty, allOkL l = true → ∀ s, s ∈ l → (textT s).length + 24 ≤ 124 * many s
  | a :: r, h, s, hs => by
    unfold allOkL at h
    simp only [Bool.and_eq_true] at h
    rcases List.mem_cons.1 hs with e | hs
    · rw [e]; exact text_len a h.1
    · exact texts_len r h.2 s hs
end
end Go.Proofs.YtkgmdbkcldojnaaGreatDoor.M

/-  -/
namespace Go.Proofs.YtkgmdbkcldojnaaGreatDoor.M
open Go
def alnum (c : UInt8) : Bool := anyC (c.toNat : Int)
def Word (l : List UInt8) : Prop := ∀ c ∈ l, alnum c = true
def Halt (l : List UInt8) : Prop := ∀ c r, l = c :: r → alnum c = false
theorem halt_cons {c : UInt8} {r : List UInt8} (h : alnum c = false) : Halt (c :: r) := fun a s e => by
  simp only [List.cons.injEq] at e
  rw [← e.1]; exact h
theorem word_all {g : Int → Bool} {f : Int → Bool} {s : ByteArray} (hf : ∀ n, f n = true → anyC n = true) (hg : ∀ n, g n = true → anyC n = true) (h : spell f g s.data.toList = true) : Word s.data.toList := by
  intro c hc
  obtain ⟨j, hj, rfl⟩ := List.getElem_of_mem hc
  obtain ⟨h0, h1, h2, h3⟩ := (spell_iff _ _ _).1 h
  have e : bt s.data.toList j = (((s.data.toList)[j]).toNat : Int) := by unfold bt; rw [List.getD_eq_getElem?_getD, List.getElem?_eq_getElem hj]; rfl
  unfold alnum
  rw [← e]
  rcases Nat.eq_zero_or_pos j with h' | h'
  · subst h'; exact hf _ h2
  · exact hg _ (h3 j h' hj)
theorem low_any' (n : Int) (h : lowC n = true) : anyC n = true := by unfold anyC; rw [h]; rfl
theorem up_any' (n : Int) (h : upC n = true) : anyC n = true := by unfold anyC; rw [h]; simp
theorem lowDig_any' (n : Int) (h : lowDigC n = true) : anyC n = true := by
  unfold lowDigC at h; unfold anyC
  rcases Bool.or_eq_true _ _ ▸ h with h | h <;> rw [h] <;> simp
theorem small_spell {s : ByteArray} (h : smallB s.data.toList = true) : spell lowC lowDigC s.data.toList = true := by
  unfold smallB at h; simp only [Bool.and_eq_true] at h; exact h.1
theorem great_spell {s : ByteArray} (h : greatB s.data.toList = true) : spell upC anyC s.data.toList = true := by
  unfold greatB at h; simp only [Bool.and_eq_true] at h; exact h.1
theorem small_word {s : ByteArray} (h : smallB s.data.toList = true) : Word s.data.toList := word_all low_any' lowDig_any' (small_spell h)
theorem great_word {s : ByteArray} (h : greatB s.data.toList = true) : Word s.data.toList := word_all up_any' (fun _ h => h) (great_spell h)
theorem spell_ne {f g : Int → Bool} {l : List UInt8} (h : spell f g l = true) : l ≠ [] := by
  intro e; subst e
  have := ((spell_iff _ _ _).1 h).1
  simp at this
theorem great_not_word {l : List UInt8} (h : greatB l = true) : l ∉ words := by
  unfold greatB wordB at h
  simp only [Bool.and_eq_true, Bool.not_eq_true', List.contains_eq_mem, decide_eq_false_iff_not] at h
  exact h.2
theorem small_not_word {l : List UInt8} (h : smallB l = true) : l ∉ words := by
  intro hm
  have h1 : 97 ≤ bt l 0 := by
    unfold smallB at h
    simp only [Bool.and_eq_true, spell_iff] at h
    have := h.1.2.2.1
    unfold lowC at this
    simp only [Bool.and_eq_true, decide_eq_true_eq] at this
    exact this.1
  have h2 : ∀ l ∈ words, bt l 0 < 97 := by decide
  have := h2 l hm
  omega
def Stop (l : List UInt8) : Prop := ∀ c r, l = c :: r → c = 41 ∨ c = 44 ∨ c = 125 ∨ c = 93
theorem Stop.halt {l : List UInt8} (h : Stop l) : Halt l := fun c r e => by
  rcases h c r e with rfl | rfl | rfl | rfl <;> decide
end Go.Proofs.YtkgmdbkcldojnaaGreatDoor.M

/-  -/
namespace Go.Proofs.YtkgmdbkcldojnaaGreatDoor.M
open Go
theorem empty_bytes {s : ByteArray} (h : s.size = 0) : s = ⟨#[]⟩ := by
  apply bytes_list.1
  exact List.length_eq_zero_iff.1 (by rw [len_size]; exact h)
theorem empty_is : (⟨#[]⟩ : ByteArray) = ByteArray.empty := rfl
theorem no_more {t : Ty} (h : noMore t = true) : t.pkg = ⟨#[]⟩ ∧ t.major = 0 ∧ t.mod = ⟨#[]⟩ ∧ t.name = ⟨#[]⟩ := by
  unfold noMore emptyB at h
  simp only [Bool.and_eq_true, decide_eq_true_eq, beq_iff_eq] at h
  exact ⟨empty_bytes h.1.1.1, h.1.1.2, empty_bytes h.1.2, empty_bytes h.2⟩
theorem forms (t : Ty) (h : ownOk t = true) :
    (∃ k, (k = 1 ∨ k = 2 ∨ k = 3) ∧ t = .mk k ⟨#[]⟩ 0 ⟨#[]⟩ ⟨#[]⟩ [] []) ∨ (∃ s, t = .mk 4 ⟨#[]⟩ 0 ⟨#[]⟩ ⟨#[]⟩ [] [s]) ∨
    (∃ ns ss, t = .mk 5 ⟨#[]⟩ 0 ⟨#[]⟩ ⟨#[]⟩ ns ss ∧ ss.length = ns.length ∧ ∀ i, i < ns.length → smallB (nameAt ns i).data.toList = true) ∨
    (∃ ns ss, t = .mk 6 ⟨#[]⟩ 0 ⟨#[]⟩ ⟨#[]⟩ ns ss ∧ ss.length = ns.length ∧ ∀ i, i < ns.length → greatB (nameAt ns i).data.toList = true) ∨
    (∃ ss, t = .mk 7 ⟨#[]⟩ 0 ⟨#[]⟩ ⟨#[]⟩ [] ss ∧ 0 < ss.length) ∨
    (∃ d n, t = .mk 8 ⟨#[]⟩ 0 d n [] [] ∧ greatB n.data.toList = true ∧ (smallB d.data.toList = true ∨ d = ⟨#[]⟩)) ∨
    (∃ p m d n, t = .mk 9 p m d n [] [] ∧ smallB p.data.toList = true ∧ smallB d.data.toList = true ∧ greatB n.data.toList = true ∧ 1 ≤ m) := by
  unfold ownOk at h
  simp only [Bool.and_eq_true] at h
  obtain ⟨⟨-, hn⟩, hs⟩ := h
  have hbad := (namesOk_iff _ _).1 hn
  unfold shapeOk at hs
  by_cases k1 : t.kind = 1 ∨ t.kind = 2 ∨ t.kind = 3
  · rw [if_pos k1] at hs
    simp only [Bool.and_eq_true, decide_eq_true_eq] at hs
    obtain ⟨e1, e2, e3, e4⟩ := no_more hs.1.1
    exact .inl ⟨t.kind, k1, ty_ext rfl e1 e2 e3 e4 (List.length_eq_zero_iff.1 hs.2) (List.length_eq_zero_iff.1 hs.1.2)⟩
  rw [if_neg k1] at hs
  by_cases k4 : t.kind = 4
  · rw [if_pos k4] at hs
    simp only [Bool.and_eq_true, decide_eq_true_eq] at hs
    obtain ⟨e1, e2, e3, e4⟩ := no_more hs.1.1
    obtain ⟨s, es⟩ := List.length_eq_one_iff.1 hs.1.2
    exact .inr (.inl ⟨s, ty_ext k4 e1 e2 e3 e4 (List.length_eq_zero_iff.1 hs.2) es⟩)
  rw [if_neg k4] at hs
  by_cases k5 : t.kind = 5
  · rw [if_pos k5] at hs
    simp only [Bool.and_eq_true, decide_eq_true_eq] at hs
    obtain ⟨e1, e2, e3, e4⟩ := no_more hs.1
    refine .inr (.inr (.inl ⟨t.names, t.subs, ty_ext k5 e1 e2 e3 e4 rfl rfl, hs.2, fun i hi => ?_⟩))
    have := hbad i hi
    unfold badName at this
    rw [k5] at this
    simp only [Bool.or_eq_false_iff, Bool.and_eq_false_iff, Bool.not_eq_false'] at this
    rcases this.1.1 with a | a
    · simp at a
    · exact a
  rw [if_neg k5] at hs
  by_cases k6 : t.kind = 6
  · rw [if_pos k6] at hs
    simp only [Bool.and_eq_true, decide_eq_true_eq] at hs
    obtain ⟨e1, e2, e3, e4⟩ := no_more hs.1.1
    refine .inr (.inr (.inr (.inl ⟨t.names, t.subs, ty_ext k6 e1 e2 e3 e4 rfl rfl, hs.1.2, fun i hi => ?_⟩)))
    have := hbad i hi
    unfold badName at this
    rw [k6] at this
    simp only [Bool.or_eq_false_iff, Bool.and_eq_false_iff, Bool.not_eq_false'] at this
    rcases this.1.2 with a | a
    · simp at a
    · exact a
  rw [if_neg k6] at hs
  by_cases k7 : t.kind = 7
  · rw [if_pos k7] at hs
    simp only [Bool.and_eq_true, decide_eq_true_eq] at hs
    obtain ⟨e1, e2, e3, e4⟩ := no_more hs.1.1
    exact .inr (.inr (.inr (.inr (.inl ⟨t.subs, ty_ext k7 e1 e2 e3 e4 (List.length_eq_zero_iff.1 hs.2) rfl, hs.1.2⟩))))
  rw [if_neg k7] at hs
  by_cases k8 : t.kind = 8
  · rw [if_pos k8] at hs
    unfold emptyB at hs
    simp only [Bool.and_eq_true, Bool.or_eq_true, decide_eq_true_eq, beq_iff_eq] at hs
    obtain ⟨⟨⟨⟨⟨a, b⟩, c⟩, e⟩, f⟩, g⟩ := hs
    exact .inr (.inr (.inr (.inr (.inr (.inl ⟨t.mod, t.name, ty_ext k8 (empty_bytes c) e rfl rfl (List.length_eq_zero_iff.1 b) (List.length_eq_zero_iff.1 a), f, g.imp id empty_bytes⟩)))))
  rw [if_neg k8] at hs
  by_cases k9 : t.kind = 9
  · rw [if_pos k9] at hs
    simp only [Bool.and_eq_true, decide_eq_true_eq] at hs
    obtain ⟨⟨⟨⟨⟨⟨a, b⟩, c⟩, e⟩, f⟩, g⟩, -⟩ := hs
    exact .inr (.inr (.inr (.inr (.inr (.inr ⟨t.pkg, t.major, t.mod, t.name, ty_ext k9 rfl rfl rfl rfl (List.length_eq_zero_iff.1 b) (List.length_eq_zero_iff.1 a), c, e, f, g⟩)))))
  rw [if_neg k9] at hs
  cases hs
def tag (w r : List UInt8) : Int :=
  if w = [73, 110, 116] then 1 else if w = [84, 101, 120, 116] then 2 else if w = [66, 111, 111, 108] then 3 else if w = [76, 105, 115, 116] then 4
  else if w = [] then (if r.head? = some 123 then 5 else if r.head? = some 91 then 6 else if r.head? = some 40 then 7 else 9) else 8
theorem tag_name {l r : List UInt8} (h : l ≠ []) (hw : l ∉ words) : tag l r = 8 := by
  have h1 : l ≠ [73, 110, 116] := fun e => hw (by rw [e]; decide)
  have h2 : l ≠ [84, 101, 120, 116] := fun e => hw (by rw [e]; decide)
  have h3 : l ≠ [66, 111, 111, 108] := fun e => hw (by rw [e]; decide)
  have h4 : l ≠ [76, 105, 115, 116] := fun e => hw (by rw [e]; decide)
  unfold tag
  rw [if_neg h1, if_neg h2, if_neg h3, if_neg h4, if_neg h]
theorem split (t : Ty) (h : ownOk t = true) : ∃ w r, textT t = w ++ r ∧ Word w ∧ ∀ x, Stop x → Halt (r ++ x) ∧ tag w (r ++ x) = t.kind := by
  rcases forms t h with ⟨k, hk, rfl⟩ | ⟨s, rfl⟩ | ⟨ns, ss, rfl, -, -⟩ | ⟨ns, ss, rfl, -, -⟩ | ⟨ss, rfl, -⟩ | ⟨d, n, rfl, hn, hd⟩ | ⟨p, m, d, n, rfl, hp, hd, hn, hm⟩
  · rcases hk with rfl | rfl | rfl
    · exact ⟨[73, 110, 116], [], rfl, by unfold Word; decide, fun x hx => ⟨by simpa using hx.halt, rfl⟩⟩
    · exact ⟨[84, 101, 120, 116], [], rfl, by unfold Word; decide, fun x hx => ⟨by simpa using hx.halt, rfl⟩⟩
    · exact ⟨[66, 111, 111, 108], [], rfl, by unfold Word; decide, fun x hx => ⟨by simpa using hx.halt, rfl⟩⟩
  · exact ⟨[76, 105, 115, 116], [40] ++ textT s ++ [41], by simp [textT, kindText, textsT], by unfold Word; decide, fun x hx => ⟨halt_cons (by decide), rfl⟩⟩
  · exact ⟨[], _, (List.nil_append _).symm, by unfold Word; decide, fun x hx => by simp only [textT, kindText]; exact ⟨halt_cons (by decide), rfl⟩⟩
  · exact ⟨[], _, (List.nil_append _).symm, by unfold Word; decide, fun x hx => by simp only [textT, kindText]; exact ⟨halt_cons (by decide), rfl⟩⟩
  · exact ⟨[], _, (List.nil_append _).symm, by unfold Word; decide, fun x hx => by simp only [textT, kindText]; exact ⟨halt_cons (by decide), rfl⟩⟩
  · rcases hd with hd | rfl
    · have hne := spell_ne (small_spell hd)
      have hz : d.size ≠ 0 := fun e => hne (List.length_eq_zero_iff.1 (by rw [len_size]; exact e))
      exact ⟨d.data.toList, [46] ++ n.data.toList, by simp [textT, kindText, hz], small_word hd, fun x hx => ⟨halt_cons (by decide), tag_name hne (small_not_word hd)⟩⟩
    · exact ⟨n.data.toList, [], by simp [textT, kindText, empty_is], great_word hn, fun x hx => ⟨by simpa using hx.halt, tag_name (spell_ne (great_spell hn)) (great_not_word hn)⟩⟩
  · exact ⟨[], _, (List.nil_append _).symm, by unfold Word; decide, fun x hx => by simp only [textT, kindText]; exact ⟨halt_cons (by decide), rfl⟩⟩
end Go.Proofs.YtkgmdbkcldojnaaGreatDoor.M

/-  -/
namespace Go.Proofs.YtkgmdbkcldojnaaGreatDoor.M
open Go
abbrev Tk := Nat × List UInt8
inductive Lexes : List UInt8 → List Tk → Prop
  | nil : Lexes [] []
  | blank {c : UInt8} {r : List UInt8} {ts : List Tk} : blankC (c.toNat : Int) = true → Lexes r ts → Lexes (c :: r) ts
  | word {k : Nat} {w r : List UInt8} {ts : List Tk} : ((k = 1 ∧ lowC (bt w 0) = true) ∨ (k = 2 ∧ upC (bt w 0) = true)) → w ≠ [] → Word w → Halt r → Lexes r ts → Lexes (w ++ r) ((k, w) :: ts)
  | num {w r : List UInt8} {ts : List Tk} : w ≠ [] → (∀ c ∈ w, digC (c.toNat : Int) = true) → Halt r → Lexes r ts → Lexes (w ++ r) ((3, w) :: ts)
  | two {a b : UInt8} {r : List UInt8} {ts : List Tk} : twoC (a.toNat : Int) (b.toNat : Int) = true → Lexes r ts → Lexes (a :: b :: r) ((4, [a, b]) :: ts)
  | sign {c : UInt8} {r : List UInt8} {ts : List Tk} : signC (c.toNat : Int) = true → twoC (c.toNat : Int) (bt r 0) = false → Lexes r ts → Lexes (c :: r) ((4, [c]) :: ts)
end Go.Proofs.YtkgmdbkcldojnaaGreatDoor.M
