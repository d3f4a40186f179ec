/-
  Several texts in one:  ·  ·  ·  ·  · 
-/
import Derived.Test.YtcdmgcgjonndpaaGreatK23
import Derived.Test.YtcdmgcgjonndpaaGreatK01
import Derived.Test.YtcdmgcgjonndpaaGreatK04
import Derived.Test.YtcdmgcgjonndpaaGreatK12
import Derived.Test.YtcdmgcgjonndpaaGreatK18
import Derived.Below
import Derived.Carry
import Derived.ChangeSame
import Derived.WideKeyArgs
import Derived.ProofKit
import Derived.Test.YtcdmgcgjonndpaaGreatRows
import Derived.Lib.SmallJoins
import Derived.OpenShut
import Derived.Test.YtcdmgcgjonndpaaGreatK11
/-  -/
namespace Go.Proofs.YtcdmgcgjonndpaaGreat
open Go Go.RowKit Go.Shelf
open Go.Sort
open M
set_option maxRecDepth 100000 in
set_option maxHeartbeats 16000000 in
theorem named_true (A : Option Addr) (c : Nat) (l : List Nm) (w : World) (hR : RowIn nmR w A l) (hl : l.length ≤ 9223372036854775807) (h9 : ∀ x ∈ l, many x.typ ≤ 9000) :
  Calls Tryz.prog 17 #[.slice A l.length c, .bool true] w fun e w' => e = .returned (.bool (risesN true l)) ∧ Below w.heap.size w w' := by
 have HR := Lib.hid hR
 have H9 := Lib.hid h9
 obtain ⟨n, hn⟩ : ∃ n, n = l.length := ⟨_, rfl⟩
 have HN := Lib.hid hn
 obtain ⟨V, hV⟩ : ∃ V, V = risesN true l := ⟨_, rfl⟩
 have HV := Lib.hid hV
 rw [← hn] at hl ⊢
 rw [← hV]
 clear hR hn hV h9
 go_enter Tryz.func17, Tryz.ntmps17
 go_wp2_with fail
 go_loopw [5] (fun s5 wr => ∃ k : Nat, k ≤ n ∧ s5 = .int .i64 k ∧ Hid (∀ i, i < k → okAt true l i = true) ∧ Hid (Below w.heap.size w wr)) (fun s5 _ => n - (intOf s5).toNat)
 case atStart => exact ⟨0, by omega, rfl, Lib.hid (fun i h => by omega), Lib.hid (Below.refl _ _)⟩
 case round =>
  obtain ⟨k, hk, rfl, HP, HB⟩ := hrel
  obtain ⟨wo, rfl⟩ : ∃ wo : World, wo = wr := ⟨_, rfl⟩
  by_cases hlt : k < n
  ·obtain ⟨x, hx⟩ : ∃ x, l[k]? = some x := ⟨_, List.getElem?_eq_getElem (by rw [← HN.out]; exact hlt)⟩
   obtain ⟨g, o, Bn, cB, Bs, dB, rfl, hg, a0, a1, a2, a3, a4, a5, a6, a7, hT, hs⟩ := (HR.out.below HB.out).nm hx
   have HX := Lib.hid hx
   have HC : Hid (∀ wx, Below wo.heap.size wo wx → wx.cell? ⟨g, o + k * 8, none⟩ = some (.string x.name) ∧ wx.cell? ⟨g, o + k * 8 + 1, none⟩ = some (.int .i64 x.typ.kind) ∧ wx.cell? ⟨g, o + k * 8 + 1 + 1, none⟩ = some (.string x.typ.pkg) ∧ wx.cell? ⟨g, o + k * 8 + 1 + 2, none⟩ = some (.int .i64 x.typ.major) ∧ wx.cell? ⟨g, o + k * 8 + 1 + 3, none⟩ = some (.string x.typ.mod) ∧ wx.cell? ⟨g, o + k * 8 + 1 + 4, none⟩ = some (.string x.typ.name) ∧ wx.cell? ⟨g, o + k * 8 + 1 + 5, none⟩ = some (.slice Bn x.typ.names.length cB) ∧ wx.cell? ⟨g, o + k * 8 + 1 + 6, none⟩ = some (.slice Bs x.typ.subs.length dB)) := Lib.hid (fun wx hb => by
    have e := fun (q : Nat) (v : Value) (hv : wo.cell? ⟨g, q, none⟩ = some v) => (hb.cell (p := ⟨g, q, none⟩) hg).trans hv
    exact ⟨e _ _ a0, e _ _ a1, e _ _ a2, e _ _ a3, e _ _ a4, e _ _ a5, e _ _ a6, e _ _ a7⟩)
   have HT := Lib.hid hT
   have hk0 : (0 : Int) ≤ k := by omega
   have hk1 : (k : Int) < n := by omega
   obtain ⟨qg, hqg⟩ : ∃ q, q = greatB x.name.data.toList := ⟨_, rfl⟩
   obtain ⟨qs, hqs⟩ : ∃ q, q = smallB x.name.data.toList := ⟨_, rfl⟩
   obtain ⟨qm, hqm⟩ : ∃ q, q = mayT x.typ := ⟨_, rfl⟩
   obtain ⟨qp, hqp⟩ : ∃ q, q = plainT x.typ := ⟨_, rfl⟩
   have CG := Lib.hid (fun w' => refGreat_any x.name w' hs)
   have CS := Lib.hid (fun w' => refSmall_any x.name w' hs)
   have CM := Lib.hid (fun w' (hb : Below wo.heap.size wo w') => may_any x.typ (.agg #[.int .i64 x.typ.kind, .string x.typ.pkg, .int .i64 x.typ.major, .string x.typ.mod, .string x.typ.name, .slice Bn x.typ.names.length cB, .slice Bs x.typ.subs.length dB]) w' (H9.out x (List.mem_of_getElem? HX.out)) ⟨_, rfl, HT.out.keep hb⟩)
   have CP := Lib.hid (fun w' (hb : Below wo.heap.size wo w') => plain_any _ x.typ (Nat.le_refl _) (.agg #[.int .i64 x.typ.kind, .string x.typ.pkg, .int .i64 x.typ.major, .string x.typ.mod, .string x.typ.name, .slice Bn x.typ.names.length cB, .slice Bs x.typ.subs.length dB]) w' ⟨_, rfl, HT.out.keep hb⟩)
   rw [← hqg] at CG
   rw [← hqs] at CS
   rw [← hqm] at CM
   rw [← hqp] at CP
   have HQN : Hid (nameOk true x.name = qg) := Lib.hid (by rw [hqg]; rfl)
   have HQM := Lib.hid hqm
   have HQP := Lib.hid hqp
   clear hqg hqs hqm hqp hT hx hs
   go_wp2_with fail
   refine (CG.out _).mono ?_; rintro e w2 ⟨rfl, he2⟩
   have HB2 : Hid (Below wo.heap.size wo w2) := Lib.hid (by rw [← he2]; exact Below.refl _ _)
   obtain ⟨a0, a1, a2, a3, a4, a5, a6, a7⟩ := HC.out w2 HB2.out
   clear he2
   go_wp2_with fail
   refine (CS.out _).mono ?_; rintro e w3 ⟨rfl, hb3⟩
   have HB3 := Lib.hid (below_over HB2.out hb3)
   obtain ⟨a0, a1, a2, a3, a4, a5, a6, a7⟩ := HC.out w3 HB3.out
   clear hb3
   go_wp2_with fail
   refine (CM.out _ HB3.out).mono ?_; rintro e w4 ⟨rfl, hb4⟩
   have HB4 := Lib.hid (below_over HB3.out hb4)
   have HBw := Lib.hid (below_over HB.out HB4.out)
   obtain ⟨a0, a1, a2, a3, a4, a5, a6, a7⟩ := HC.out w4 HB4.out
   clear hb4 CG CS CM
   cases k with
   | zero =>
    have hp0 : decide ((0 : Int) < ((0 : Nat) : Int)) = false := by decide
    cases qg with
    | false =>
     have RES : V = false := by rw [HV.out]; exact rises_no (i := 0) (by have := HN.out; omega) (by rw [okAt_0 HX.out, HQN.out]; try simp)
     subst RES
     go_wp2_with fail
     go_quiet (fail)
     go_wp2_with fail
     go_ret
     exact ⟨rfl, below_drewN HBw.out _⟩
    | true =>
     cases qm with
     | false =>
      have RES : V = false := by rw [HV.out]; exact rises_no (i := 0) (by have := HN.out; omega) (by rw [okAt_0 HX.out, HQN.out, ← HQM.out]; try simp)
      subst RES
      go_wp2_with fail
      go_quiet (fail)
      go_wp2_with fail
      go_ret
      exact ⟨rfl, below_drewN HBw.out _⟩
     | true =>
      go_wp2_with fail
      go_quiet (fail)
      go_wp2_with fail
      refine (CP.out _ (below_drewN HB4.out _)).mono ?_; rintro e w5 ⟨rfl, hb5⟩
      have HB5 := Lib.hid (below_over (below_drewN HBw.out _) hb5)
      clear a0 a1 a2 a3 a4 a5 a6 a7 hb5 CP
      cases qp with
      | false =>
       have RES : V = false := by rw [HV.out]; exact rises_no (i := 0) (by have := HN.out; omega) (by rw [okAt_0 HX.out, HQN.out, ← HQM.out, ← HQP.out]; try simp)
       subst RES
       go_wp2_with fail
       go_ret
       exact ⟨rfl, HB5.out⟩
      | true =>
       have NX : Hid (∀ i, i < 0 + 1 → okAt true l i = true) := Lib.hid (fun i hi => by
        rcases Nat.lt_or_ge i (0) with c | c
        ·exact HP.out i c
        ·obtain rfl : i = 0 := by omega
         rw [okAt_0 HX.out, HQN.out, ← HQM.out, ← HQP.out]; try simp)
       go_wp2_with fail
       go_roundw
       case rel => exact ⟨0 + 1, by omega, by go_num, NX, HB5⟩
       case measure => simp [intOf]; omega
   | succ k =>
    obtain ⟨y, hy⟩ : ∃ y, l[k]? = some y := ⟨_, List.getElem?_eq_getElem (by rw [← HN.out]; omega)⟩
    obtain ⟨g', o', Dn, cD, Ds, dD, e', hg', b0, -⟩ := (HR.out.below HBw.out).nm hy
    cases e'
    have HY := Lib.hid hy
    obtain ⟨ql, hql⟩ : ∃ q, q = leS x.name y.name := ⟨_, rfl⟩
    have HQL := Lib.hid hql
    have hle : (Op.bytesLess x.name.toList y.name.toList || x.name.toList == y.name.toList) = ql := hql.symm
    have hle2 : (!Op.bytesLess y.name.toList x.name.toList) = ql := by rw [← leS_eq]; exact hql.symm
    have hle3 : Op.bytesLess y.name.toList x.name.toList = !ql := by rw [← hle2]; simp
    have hp1 : ((k : Nat) : Int) + 1 - 1 = k := by omega
    have hp1' : (((k + 1 : Nat) : Int)) - 1 = k := by omega
    have hp0 : decide ((0 : Int) < ((k + 1 : Nat) : Int)) = true := by simp; try omega
    have hp0' : decide ((0 : Int) < (k : Int) + 1) = true := by simp; try omega
    have hkk0 : (0 : Int) ≤ (k : Int) := by omega
    have hkk1 : (k : Int) < n := by omega
    clear hql hy hg' 
    cases qg with
    | false =>
     have RES : V = false := by rw [HV.out]; exact rises_no (i := k + 1) (by have := HN.out; omega) (by rw [okAt_s HX.out HY.out, HQN.out]; try simp)
     subst RES
     go_wp2_with fail
     go_quiet (fail)
     go_wp2_with fail
     go_ret
     exact ⟨rfl, below_drewN HBw.out _⟩
    | true =>
     cases qm with
     | false =>
      have RES : V = false := by rw [HV.out]; exact rises_no (i := k + 1) (by have := HN.out; omega) (by rw [okAt_s HX.out HY.out, HQN.out, ← HQM.out]; try simp)
      subst RES
      go_wp2_with fail
      go_quiet (fail)
      go_wp2_with fail
      go_ret
      exact ⟨rfl, below_drewN HBw.out _⟩
     | true =>
      cases ql with
      | true =>
       have RES : V = false := by rw [HV.out]; exact rises_no (i := k + 1) (by have := HN.out; omega) (by rw [okAt_s HX.out HY.out, HQN.out, ← HQL.out]; try simp)
       subst RES
       go_wp2_with fail
       go_quiet (fail)
       go_wp2_with fail
       go_ret
       exact ⟨rfl, below_drewN HBw.out _⟩
      | false =>
       go_wp2_with fail
       go_quiet (fail)
       go_wp2_with fail
       refine (CP.out _ (below_drewN HB4.out _)).mono ?_; rintro e w5 ⟨rfl, hb5⟩
       have HB5 := Lib.hid (below_over (below_drewN HBw.out _) hb5)
       clear a0 a1 a2 a3 a4 a5 a6 a7 hb5 CP b0
       cases qp with
       | false =>
        have RES : V = false := by rw [HV.out]; exact rises_no (i := k + 1) (by have := HN.out; omega) (by rw [okAt_s HX.out HY.out, HQN.out, ← HQL.out, ← HQM.out, ← HQP.out]; try simp)
        subst RES
        go_wp2_with fail
        go_ret
        exact ⟨rfl, HB5.out⟩
       | true =>
        have NX : Hid (∀ i, i < k + 1 + 1 → okAt true l i = true) := Lib.hid (fun i hi => by
         rcases Nat.lt_or_ge i (k + 1) with c | c
         ·exact HP.out i c
         ·obtain rfl : i = k + 1 := by omega
          rw [okAt_s HX.out HY.out, HQN.out, ← HQL.out, ← HQM.out, ← HQP.out]; try simp)
        go_wp2_with fail
        go_roundw
        case rel => exact ⟨k + 1 + 1, by omega, by go_num, NX, HB5⟩
        case measure => simp [intOf]; omega
  ·have RV : V = true := by rw [HV.out]; exact rises_yes (fun i hi => HP.out i (by have := HN.out; omega))
   subst RV
   go_wp2_with fail
   go_ret
   exact ⟨rfl, HB.out⟩
set_option maxRecDepth 100000 in
set_option maxHeartbeats 16000000 in
theorem named_false (A : Option Addr) (c : Nat) (l : List Nm) (w : World) (hR : RowIn nmR w A l) (hl : l.length ≤ 9223372036854775807) (h9 : ∀ x ∈ l, many x.typ ≤ 9000) :
  Calls Tryz.prog 17 #[.slice A l.length c, .bool false] w fun e w' => e = .returned (.bool (risesN false l)) ∧ Below w.heap.size w w' := by
 have HR := Lib.hid hR
 have H9 := Lib.hid h9
 obtain ⟨n, hn⟩ : ∃ n, n = l.length := ⟨_, rfl⟩
 have HN := Lib.hid hn
 obtain ⟨V, hV⟩ : ∃ V, V = risesN false l := ⟨_, rfl⟩
 have HV := Lib.hid hV
 rw [← hn] at hl ⊢
 rw [← hV]
 clear hR hn hV h9
 go_enter Tryz.func17, Tryz.ntmps17
 go_wp2_with fail
 go_loopw [5] (fun s5 wr => ∃ k : Nat, k ≤ n ∧ s5 = .int .i64 k ∧ Hid (∀ i, i < k → okAt false l i = true) ∧ Hid (Below w.heap.size w wr)) (fun s5 _ => n - (intOf s5).toNat)
 case atStart => exact ⟨0, by omega, rfl, Lib.hid (fun i h => by omega), Lib.hid (Below.refl _ _)⟩
 case round =>
  obtain ⟨k, hk, rfl, HP, HB⟩ := hrel
  obtain ⟨wo, rfl⟩ : ∃ wo : World, wo = wr := ⟨_, rfl⟩
  by_cases hlt : k < n
  ·obtain ⟨x, hx⟩ : ∃ x, l[k]? = some x := ⟨_, List.getElem?_eq_getElem (by rw [← HN.out]; exact hlt)⟩
   obtain ⟨g, o, Bn, cB, Bs, dB, rfl, hg, a0, a1, a2, a3, a4, a5, a6, a7, hT, hs⟩ := (HR.out.below HB.out).nm hx
   have HX := Lib.hid hx
   have HC : Hid (∀ wx, Below wo.heap.size wo wx → wx.cell? ⟨g, o + k * 8, none⟩ = some (.string x.name) ∧ wx.cell? ⟨g, o + k * 8 + 1, none⟩ = some (.int .i64 x.typ.kind) ∧ wx.cell? ⟨g, o + k * 8 + 1 + 1, none⟩ = some (.string x.typ.pkg) ∧ wx.cell? ⟨g, o + k * 8 + 1 + 2, none⟩ = some (.int .i64 x.typ.major) ∧ wx.cell? ⟨g, o + k * 8 + 1 + 3, none⟩ = some (.string x.typ.mod) ∧ wx.cell? ⟨g, o + k * 8 + 1 + 4, none⟩ = some (.string x.typ.name) ∧ wx.cell? ⟨g, o + k * 8 + 1 + 5, none⟩ = some (.slice Bn x.typ.names.length cB) ∧ wx.cell? ⟨g, o + k * 8 + 1 + 6, none⟩ = some (.slice Bs x.typ.subs.length dB)) := Lib.hid (fun wx hb => by
    have e := fun (q : Nat) (v : Value) (hv : wo.cell? ⟨g, q, none⟩ = some v) => (hb.cell (p := ⟨g, q, none⟩) hg).trans hv
    exact ⟨e _ _ a0, e _ _ a1, e _ _ a2, e _ _ a3, e _ _ a4, e _ _ a5, e _ _ a6, e _ _ a7⟩)
   have HT := Lib.hid hT
   have hk0 : (0 : Int) ≤ k := by omega
   have hk1 : (k : Int) < n := by omega
   obtain ⟨qg, hqg⟩ : ∃ q, q = greatB x.name.data.toList := ⟨_, rfl⟩
   obtain ⟨qs, hqs⟩ : ∃ q, q = smallB x.name.data.toList := ⟨_, rfl⟩
   obtain ⟨qm, hqm⟩ : ∃ q, q = mayT x.typ := ⟨_, rfl⟩
   obtain ⟨qp, hqp⟩ : ∃ q, q = plainT x.typ := ⟨_, rfl⟩
   have CG := Lib.hid (fun w' => refGreat_any x.name w' hs)
   have CS := Lib.hid (fun w' => refSmall_any x.name w' hs)
   have CM := Lib.hid (fun w' (hb : Below wo.heap.size wo w') => may_any x.typ (.agg #[.int .i64 x.typ.kind, .string x.typ.pkg, .int .i64 x.typ.major, .string x.typ.mod, .string x.typ.name, .slice Bn x.typ.names.length cB, .slice Bs x.typ.subs.length dB]) w' (H9.out x (List.mem_of_getElem? HX.out)) ⟨_, rfl, HT.out.keep hb⟩)
   have CP := Lib.hid (fun w' (hb : Below wo.heap.size wo w') => plain_any _ x.typ (Nat.le_refl _) (.agg #[.int .i64 x.typ.kind, .string x.typ.pkg, .int .i64 x.typ.major, .string x.typ.mod, .string x.typ.name, .slice Bn x.typ.names.length cB, .slice Bs x.typ.subs.length dB]) w' ⟨_, rfl, HT.out.keep hb⟩)
   rw [← hqg] at CG
   rw [← hqs] at CS
   rw [← hqm] at CM
   rw [← hqp] at CP
   have HQN : Hid (nameOk false x.name = qs) := Lib.hid (by rw [hqs]; rfl)
   have HQM := Lib.hid hqm
   have HQP := Lib.hid hqp
   clear hqg hqs hqm hqp hT hx hs
   go_wp2_with fail
   refine (CG.out _).mono ?_; rintro e w2 ⟨rfl, he2⟩
   have HB2 : Hid (Below wo.heap.size wo w2) := Lib.hid (by rw [← he2]; exact Below.refl _ _)
   obtain ⟨a0, a1, a2, a3, a4, a5, a6, a7⟩ := HC.out w2 HB2.out
   clear he2
   go_wp2_with fail
   refine (CS.out _).mono ?_; rintro e w3 ⟨rfl, hb3⟩
   have HB3 := Lib.hid (below_over HB2.out hb3)
   obtain ⟨a0, a1, a2, a3, a4, a5, a6, a7⟩ := HC.out w3 HB3.out
   clear hb3
   go_wp2_with fail
   refine (CM.out _ HB3.out).mono ?_; rintro e w4 ⟨rfl, hb4⟩
   have HB4 := Lib.hid (below_over HB3.out hb4)
   have HBw := Lib.hid (below_over HB.out HB4.out)
   obtain ⟨a0, a1, a2, a3, a4, a5, a6, a7⟩ := HC.out w4 HB4.out
   clear hb4 CG CS CM
   cases k with
   | zero =>
    have hp0 : decide ((0 : Int) < ((0 : Nat) : Int)) = false := by decide
    cases qs with
    | false =>
     have RES : V = false := by rw [HV.out]; exact rises_no (i := 0) (by have := HN.out; omega) (by rw [okAt_0 HX.out, HQN.out]; try simp)
     subst RES
     go_wp2_with fail
     go_quiet (fail)
     go_wp2_with fail
     go_ret
     exact ⟨rfl, below_drewN HBw.out _⟩
    | true =>
     cases qm with
     | false =>
      have RES : V = false := by rw [HV.out]; exact rises_no (i := 0) (by have := HN.out; omega) (by rw [okAt_0 HX.out, HQN.out, ← HQM.out]; try simp)
      subst RES
      go_wp2_with fail
      go_quiet (fail)
      go_wp2_with fail
      go_ret
      exact ⟨rfl, below_drewN HBw.out _⟩
     | true =>
      go_wp2_with fail
      go_quiet (fail)
      go_wp2_with fail
      refine (CP.out _ (below_drewN HB4.out _)).mono ?_; rintro e w5 ⟨rfl, hb5⟩
      have HB5 := Lib.hid (below_over (below_drewN HBw.out _) hb5)
      clear a0 a1 a2 a3 a4 a5 a6 a7 hb5 CP
      cases qp with
      | false =>
       have RES : V = false := by rw [HV.out]; exact rises_no (i := 0) (by have := HN.out; omega) (by rw [okAt_0 HX.out, HQN.out, ← HQM.out, ← HQP.out]; try simp)
       subst RES
       go_wp2_with fail
       go_ret
       exact ⟨rfl, HB5.out⟩
      | true =>
       have NX : Hid (∀ i, i < 0 + 1 → okAt false l i = true) := Lib.hid (fun i hi => by
        rcases Nat.lt_or_ge i (0) with c | c
        ·exact HP.out i c
        ·obtain rfl : i = 0 := by omega
         rw [okAt_0 HX.out, HQN.out, ← HQM.out, ← HQP.out]; try simp)
       go_wp2_with fail
       go_roundw
       case rel => exact ⟨0 + 1, by omega, by go_num, NX, HB5⟩
       case measure => simp [intOf]; omega
   | succ k =>
    obtain ⟨y, hy⟩ : ∃ y, l[k]? = some y := ⟨_, List.getElem?_eq_getElem (by rw [← HN.out]; omega)⟩
    obtain ⟨g', o', Dn, cD, Ds, dD, e', hg', b0, -⟩ := (HR.out.below HBw.out).nm hy
    cases e'
    have HY := Lib.hid hy
    obtain ⟨ql, hql⟩ : ∃ q, q = leS x.name y.name := ⟨_, rfl⟩
    have HQL := Lib.hid hql
    have hle : (Op.bytesLess x.name.toList y.name.toList || x.name.toList == y.name.toList) = ql := hql.symm
    have hle2 : (!Op.bytesLess y.name.toList x.name.toList) = ql := by rw [← leS_eq]; exact hql.symm
    have hle3 : Op.bytesLess y.name.toList x.name.toList = !ql := by rw [← hle2]; simp
    have hp1 : ((k : Nat) : Int) + 1 - 1 = k := by omega
    have hp1' : (((k + 1 : Nat) : Int)) - 1 = k := by omega
    have hp0 : decide ((0 : Int) < ((k + 1 : Nat) : Int)) = true := by simp; try omega
    have hp0' : decide ((0 : Int) < (k : Int) + 1) = true := by simp; try omega
    have hkk0 : (0 : Int) ≤ (k : Int) := by omega
    have hkk1 : (k : Int) < n := by omega
    clear hql hy hg' 
    cases qs with
    | false =>
     have RES : V = false := by rw [HV.out]; exact rises_no (i := k + 1) (by have := HN.out; omega) (by rw [okAt_s HX.out HY.out, HQN.out]; try simp)
     subst RES
     go_wp2_with fail
     go_quiet (fail)
     go_wp2_with fail
     go_ret
     exact ⟨rfl, below_drewN HBw.out _⟩
    | true =>
     cases qm with
     | false =>
      have RES : V = false := by rw [HV.out]; exact rises_no (i := k + 1) (by have := HN.out; omega) (by rw [okAt_s HX.out HY.out, HQN.out, ← HQM.out]; try simp)
      subst RES
      go_wp2_with fail
      go_quiet (fail)
      go_wp2_with fail
      go_ret
      exact ⟨rfl, below_drewN HBw.out _⟩
     | true =>
      cases ql with
      | true =>
       have RES : V = false := by rw [HV.out]; exact rises_no (i := k + 1) (by have := HN.out; omega) (by rw [okAt_s HX.out HY.out, HQN.out, ← HQL.out]; try simp)
       subst RES
       go_wp2_with fail
       go_quiet (fail)
       go_wp2_with fail
       go_ret
       exact ⟨rfl, below_drewN HBw.out _⟩
      | false =>
       go_wp2_with fail
       go_quiet (fail)
       go_wp2_with fail
       refine (CP.out _ (below_drewN HB4.out _)).mono ?_; rintro e w5 ⟨rfl, hb5⟩
       have HB5 := Lib.hid (below_over (below_drewN HBw.out _) hb5)
       clear a0 a1 a2 a3 a4 a5 a6 a7 hb5 CP b0
       cases qp with
       | false =>
        have RES : V = false := by rw [HV.out]; exact rises_no (i := k + 1) (by have := HN.out; omega) (by rw [okAt_s HX.out HY.out, HQN.out, ← HQL.out, ← HQM.out, ← HQP.out]; try simp)
        subst RES
        go_wp2_with fail
        go_ret
        exact ⟨rfl, HB5.out⟩
       | true =>
        have NX : Hid (∀ i, i < k + 1 + 1 → okAt false l i = true) := Lib.hid (fun i hi => by
         rcases Nat.lt_or_ge i (k + 1) with c | c
         ·exact HP.out i c
         ·obtain rfl : i = k + 1 := by omega
          rw [okAt_s HX.out HY.out, HQN.out, ← HQL.out, ← HQM.out, ← HQP.out]; try simp)
        go_wp2_with fail
        go_roundw
        case rel => exact ⟨k + 1 + 1, by omega, by go_num, NX, HB5⟩
        case measure => simp [intOf]; omega
  ·have RV : V = true := by rw [HV.out]; exact rises_yes (fun i hi => HP.out i (by have := HN.out; omega))
   subst RV
   go_wp2_with fail
   go_ret
   exact ⟨rfl, HB.out⟩
set_option maxRecDepth 100000 in
set_option maxHeartbeats 16000000 in
theorem rmay10_any (x : If) (lx : List Value) (w : World) (hx : ifE w lx x) (h9 : ∀ y ∈ x.types, many y.typ ≤ 9000) (h9v : ∀ y ∈ x.vals, many y.typ ≤ 9000) :
  Calls Tryz.prog 7 #[.agg lx.toArray] w fun e w' => e = .returned (.bool (mayIf x)) ∧ Below w.heap.size w w' := by
 obtain ⟨At, ct, Av, cv, rfl, z1, z2, z3, z4, hT, hV⟩ := hx
 obtain ⟨W, hW, B, X, sW⟩ := box1 w #[.string x.pkg, .int .i64 x.major, .string x.mod, .slice At x.types.length ct, .slice Av x.vals.length cv] 24
 have HT := Lib.hid hT
 have HV := Lib.hid hV
 have HB := Lib.hid B
 have HW := Lib.hid hW
 have H9 := Lib.hid (And.intro h9 h9v)
 have HX : Hid (∀ wx, Below W.heap.size W wx → wx.heap[w.heap.size]? = some (.cells #[.string x.pkg, .int .i64 x.major, .string x.mod, .slice At x.types.length ct, .slice Av x.vals.length cv] 24 (0, 0))) := Lib.hid (fun wx hb => (hb.block _ (by omega)).trans X)
 obtain ⟨q1, hq1⟩ : ∃ q, q = smallB x.pkg.data.toList := ⟨_, rfl⟩
 obtain ⟨q2, hq2⟩ : ∃ q, q = smallB x.mod.data.toList := ⟨_, rfl⟩
 obtain ⟨q3, hq3⟩ : ∃ q, q = risesN true x.types := ⟨_, rfl⟩
 obtain ⟨q4, hq4⟩ : ∃ q, q = risesN false x.vals := ⟨_, rfl⟩
 obtain ⟨q5, hq5⟩ : ∃ q, decide ((1 : Int) ≤ x.major) = q := ⟨_, rfl⟩
 obtain ⟨q6, hq6⟩ : ∃ q, decide (x.major ≤ (999999999 : Int)) = q := ⟨_, rfl⟩
 have e : mayIf x = (q1 && q2 && q3 && q4 && q5 && q6) := by
  unfold mayIf
  rw [may_open, ← hq1, ← hq2, ← hq3, ← hq4, hq5, hq6]
  cases q1 <;> cases q2 <;> cases q3 <;> cases q4 <;> cases q5 <;> cases q6 <;> rfl
 rw [e]
 have C1 := Lib.hid (fun w' => refSmall_any x.pkg w' z1)
 have C2 := Lib.hid (fun w' => refSmall_any x.mod w' z2)
 have C3 := Lib.hid (fun w' (hb : Below w.heap.size w w') => named_true At ct x.types w' (HT.out.below hb) z3 H9.out.1)
 have C4 := Lib.hid (fun w' (hb : Below w.heap.size w w') => named_false Av cv x.vals w' (HV.out.below hb) z4 H9.out.2)
 rw [← hq1] at C1
 rw [← hq2] at C2
 rw [← hq3] at C3
 rw [← hq4] at C4
 have x0 := Lib.cell_of_heap X 0
 have x1 := Lib.cell_of_heap X 1
 have x2 := Lib.cell_of_heap X 2
 have x3 := Lib.cell_of_heap X 3
 have x4 := Lib.cell_of_heap X 4
 simp at x0 x1 x2 x3 x4
 clear hT hV B hW X sW e hq1 hq2 hq3 hq4 h9 h9v
 go_enter Tryz.func7, Tryz.ntmps7
 go_upto_region 1 with fail
 rw [← HW.out]
 clear HW
 go_wp2_with fail
 refine (C1.out _).mono ?_; rintro e w2 ⟨rfl, hb2⟩
 have HB2w := Lib.hid hb2
 have X2 := HX.out w2 HB2w.out
 clear x0 x1 x2 x3 x4 hb2
 have x0 := Lib.cell_of_heap X2 0
 have x1 := Lib.cell_of_heap X2 1
 have x2 := Lib.cell_of_heap X2 2
 have x3 := Lib.cell_of_heap X2 3
 have x4 := Lib.cell_of_heap X2 4
 simp at x0 x1 x2 x3 x4
 clear X2
 go_wp2_with fail
 refine (C2.out _).mono ?_; rintro e w3 ⟨rfl, hb3⟩
 have HB3w := Lib.hid (below_over HB2w.out hb3)
 have X3 := HX.out w3 HB3w.out
 clear x0 x1 x2 x3 x4 hb3
 have x0 := Lib.cell_of_heap X3 0
 have x1 := Lib.cell_of_heap X3 1
 have x2 := Lib.cell_of_heap X3 2
 have x3 := Lib.cell_of_heap X3 3
 have x4 := Lib.cell_of_heap X3 4
 simp at x0 x1 x2 x3 x4
 clear X3
 go_wp2_with fail
 refine (C3.out _ (below_over HB.out HB3w.out)).mono ?_; rintro e w4 ⟨rfl, hb4⟩
 have HB4w := Lib.hid (below_over HB3w.out hb4)
 have X4 := HX.out w4 HB4w.out
 clear x0 x1 x2 x3 x4 hb4
 have x0 := Lib.cell_of_heap X4 0
 have x1 := Lib.cell_of_heap X4 1
 have x2 := Lib.cell_of_heap X4 2
 have x3 := Lib.cell_of_heap X4 3
 have x4 := Lib.cell_of_heap X4 4
 simp at x0 x1 x2 x3 x4
 clear X4
 go_wp2_with fail
 refine (C4.out _ (below_over HB.out HB4w.out)).mono ?_; rintro e w5 ⟨rfl, hb5⟩
 have HB5w := Lib.hid (below_over HB4w.out hb5)
 have HB5 := Lib.hid (below_over HB.out HB5w.out)
 have X5 := HX.out w5 HB5w.out
 clear x0 x1 x2 x3 x4 hb5 C1 C2 C3 C4
 have x0 := Lib.cell_of_heap X5 0
 have x1 := Lib.cell_of_heap X5 1
 have x2 := Lib.cell_of_heap X5 2
 have x3 := Lib.cell_of_heap X5 3
 have x4 := Lib.cell_of_heap X5 4
 simp at x0 x1 x2 x3 x4
 clear X5
 cases q1 with
 | false =>
  go_wp2_with fail
  go_ret
  exact ⟨rfl, HB5.out⟩
 | true =>
  cases q2 with
  | false =>
   go_wp2_with fail
   go_ret
   exact ⟨rfl, HB5.out⟩
  | true =>
   cases q3 with
   | false =>
    go_wp2_with fail
    go_ret
    exact ⟨rfl, HB5.out⟩
   | true =>
    cases q4 with
    | false =>
     go_wp2_with fail
     go_ret
     exact ⟨rfl, HB5.out⟩
    | true =>
     cases q5 with
     | false =>
      go_wp2_with fail
      go_ret
      exact ⟨rfl, HB5.out⟩
     | true =>
      cases q6 with
      | false =>
       go_wp2_with fail
       go_ret
       exact ⟨rfl, HB5.out⟩
      | true =>
       go_wp2_with fail
       go_ret
       exact ⟨rfl, HB5.out⟩
end Go.Proofs.YtcdmgcgjonndpaaGreat

/-  -/
namespace Go.Proofs.YtcdmgcgjonndpaaGreat
open Go Go.RowKit Go.Shelf
open Go.Sort
open M
set_option maxRecDepth 100000 in
set_option maxHeartbeats 8000000 in
theorem rsame10_list (A : Option Addr) (c n : Nat) (l : List Nm) (A' : Option Addr) (c' n' : Nat) (l' : List Nm) (w : World) (hn : l.length = n) (hn' : l'.length = n') (hz : n ≤ 9223372036854775807) (hz' : n' ≤ 9223372036854775807) (hR : RowIn nmR w A l) (hR' : RowIn nmR w A' l') :
  Calls Tryz.prog 18 #[.slice A n c, .slice A' n' c'] w fun e w' => e = .returned (.bool (sameNm l l')) ∧ Below w.heap.size w w' := by
 have HN := Lib.hid hR
 have HN' := Lib.hid hR'
 have HQ := Lib.hid hn
 have HQ' := Lib.hid hn'
 clear hR hR' hn hn'
 by_cases hqq : n = n'
 rotate_left
 ·have R : Hid (sameNm l l' = false) := Lib.hid (by
   have h1 := HQ.out
   have h2 := HQ'.out
   exact sameNm_no (fun e => by subst e; omega))
  have f1 : (((n : Nat) : Int) == ((n' : Nat) : Int)) = false := by simp; omega
  have f2 : (((n : Nat) : Int) != ((n' : Nat) : Int)) = true := by simp; omega
  rw [R.out]
  clear hqq
  as_aux_lemma =>
  go_enter Tryz.func18, Tryz.ntmps18
  go_wp2_with fail
  go_ret
  exact ⟨rfl, Below.refl _ _⟩
 subst hqq
 go_enter Tryz.func18, Tryz.ntmps18
 go_wp2_with fail
 go_loopw [5] (fun i wr => ∃ k : Nat, k ≤ n ∧ i = .int .i64 k ∧ Hid (∀ j x y, j < k → l[j]? = some x → l'[j]? = some y → x = y) ∧ Hid (Below w.heap.size w wr)) (fun i _ => n - (intOf i).toNat)
 case atStart => exact ⟨0, by omega, rfl, Lib.hid (fun j x y h => by omega), Lib.hid (Below.refl _ _)⟩
 case round =>
  obtain ⟨k, hk, rfl, HP, HB⟩ := hrel
  obtain ⟨wo, rfl⟩ : ∃ wo : World, wo = wr := ⟨_, rfl⟩
  by_cases hlt : k < n
  ·obtain ⟨x, hx⟩ : ∃ x, l[k]? = some x := ⟨_, List.getElem?_eq_getElem (by rw [HQ.out]; exact hlt)⟩
   obtain ⟨y, hy⟩ : ∃ y, l'[k]? = some y := ⟨_, List.getElem?_eq_getElem (by rw [HQ'.out]; exact hlt)⟩
   obtain ⟨g, o, Bn, cb, Bs, db, rfl, hg, a0, a1, a2, a3, a4, a5, a6, a7, hT, hs⟩ := (HN.out.below HB.out).nm hx
   obtain ⟨g', o', Dn, cd, Ds, dd', rfl, hg', e0, e1, e2, e3, e4, e5, e6, e7, hT', hs'⟩ := (HN'.out.below HB.out).nm hy
   have HX := Lib.hid hx
   have HY := Lib.hid hy
   have hk0 : (0 : Int) ≤ k := by omega
   have hk1 : (k : Int) < n := by omega
   obtain ⟨q, hq⟩ : ∃ q, q = sameT x.typ y.typ := ⟨_, rfl⟩
   obtain ⟨b1, hb1⟩ : ∃ b, b = decide (x.name = y.name) := ⟨_, rfl⟩
   have s1 := str_eq x.name y.name
   rw [← hb1] at s1
   have cS : ∀ dd os, Calls Tryz.prog 34 #[.agg #[.int .i64 x.typ.kind, .string x.typ.pkg, .int .i64 x.typ.major, .string x.typ.mod, .string x.typ.name, .slice Bn x.typ.names.length cb, .slice Bs x.typ.subs.length db], .agg #[.int .i64 y.typ.kind, .string y.typ.pkg, .int .i64 y.typ.major, .string y.typ.mod, .string y.typ.name, .slice Dn y.typ.names.length cd, .slice Ds y.typ.subs.length dd']] (Sort.grow (redrawn wo dd) os) fun e w'' => e = .returned (.bool q) ∧ ∃ pp : Regrown, w'' = Sort.grow (redrawn wo pp.d) pp.os := fun dd os => Calls.regrown_of (by
    rw [hq]; exact same_any _ x.typ y.typ (Nat.le_refl _) _ _ _ ⟨_, rfl, hT.keep (below_regrown wo dd os)⟩ ⟨_, rfl, hT'.keep (below_regrown wo dd os)⟩)
   have HQ1 := Lib.hid hq
   have HB1 := Lib.hid hb1
   have HC : Hid (∀ wx, Below wo.heap.size wo wx → wx.cell? ⟨g, o + k * 8, none⟩ = some (.string x.name) ∧ wx.cell? ⟨g', o' + k * 8, none⟩ = some (.string y.name)) := Lib.hid (fun wx hb => ⟨(hb.cell (p := ⟨g, _, none⟩) hg).trans a0, (hb.cell (p := ⟨g', _, none⟩) hg').trans e0⟩)
   clear hx hy hT hT' hg hg' hs hs' hq hb1
   go_wp2_with fail
   have p1 := cell_regrown a1
   have p2 := cell_regrown a2
   have p3 := cell_regrown a3
   have p4 := cell_regrown a4
   have p5 := cell_regrown a5
   have p6 := cell_regrown a6
   have p7 := cell_regrown a7
   have r1 := cell_regrown e1
   have r2 := cell_regrown e2
   have r3 := cell_regrown e3
   have r4 := cell_regrown e4
   have r5 := cell_regrown e5
   have r6 := cell_regrown e6
   have r7 := cell_regrown e7
   clear a0 a1 a2 a3 a4 a5 a6 a7 e0 e1 e2 e3 e4 e5 e6 e7
   refine wp_region_quiet_below (by kernel_rfl) (by kernel_rfl) ?_
   repeat (any_goals (first | go_big_quiet_step (with_reducible exact cS _ _) | quiet_step (with_reducible exact cS _ _)))
   refine wpQuiet_nil ?_
   intro w5 hw'
   have HB5w : Hid (Below wo.heap.size wo w5) := Lib.hid (by
    obtain ⟨⟨dq, osq⟩, hw''⟩ := hw'
    rw [hw'']
    exact below_regrown wo dq osq)
   have HB5 := Lib.hid (below_over HB.out HB5w.out)
   obtain ⟨a0, e0⟩ := HC.out w5 HB5w.out
   clear hw' cS p1 p2 p3 p4 p5 p6 p7 r1 r2 r3 r4 r5 r6 r7
   cases b1 with
   | false =>
    have s2 : (!(x.name.toList == y.name.toList)) = true := by rw [s1]; rfl
    have R : Hid (sameNm l l' = false) := Lib.hid (sameNm_no (fun e => by
     subst e
     have a := HX.out
     rw [HY.out] at a
     have b := HB1.out
     rw [Option.some.inj a] at b
     simp at b))
    go_wp2_with fail
    go_quiet (fail)
    go_wp2_with fail
    go_ret
    exact ⟨ret_bool R.out, below_drewN HB5.out _⟩
   | true =>
    have s2 : (!(x.name.toList == y.name.toList)) = false := by rw [s1]; rfl
    cases q with
    | false =>
     have R : Hid (sameNm l l' = false) := Lib.hid (sameNm_no (fun e => by
      subst e
      have a := HX.out
      rw [HY.out] at a
      have b := HQ1.out
      rw [Option.some.inj a, (sameT_iff x.typ x.typ).2 rfl] at b
      cases b))
     go_wp2_with fail
     go_quiet (fail)
     go_wp2_with fail
     go_ret
     exact ⟨ret_bool R.out, below_drewN HB5.out _⟩
    | true =>
     go_wp2_with fail
     go_quiet (fail)
     go_wp2_with fail
     go_roundw
     case rel => exact ⟨k + 1, by omega, by go_num, Lib.hid (fun j a b hj ha hb => by
      rcases Nat.lt_or_ge j k with e | e
      ·exact HP.out j a b e ha hb
      ·rw [show j = k by omega, HX.out] at ha
       rw [show j = k by omega, HY.out] at hb
       obtain rfl := Option.some.inj ha
       obtain rfl := Option.some.inj hb
       exact nm_ext (of_decide_eq_true HB1.out.symm) ((sameT_iff _ _).1 HQ1.out.symm)), Lib.hid (below_drewN HB5.out _)⟩
     case measure => simp [intOf]; omega
  ·have R : Hid (sameNm l l' = true) := Lib.hid (sameNm_iff.2 (List.ext_getElem? fun i => by
    have h1 := HQ.out
    have h2 := HQ'.out
    rcases Nat.lt_or_ge i n with c | c
    ·obtain ⟨x, hx⟩ : ∃ x, l[i]? = some x := ⟨_, List.getElem?_eq_getElem (by omega)⟩
     obtain ⟨y, hy⟩ : ∃ y, l'[i]? = some y := ⟨_, List.getElem?_eq_getElem (by omega)⟩
     rw [hx, hy, HP.out i x y (by omega) hx hy]
    ·rw [List.getElem?_eq_none (by omega), List.getElem?_eq_none (by omega)]))
   go_wp2_with fail
   go_ret
   exact ⟨ret_bool R.out, HB.out⟩
set_option maxRecDepth 100000 in
set_option maxHeartbeats 16000000 in
theorem rsame10_any (a b : If) (la lb : List Value) (w : World) (ha : ifE w la a) (hb : ifE w lb b) :
  Calls Tryz.prog 8 #[.agg la.toArray, .agg lb.toArray] w fun e w' => e = .returned (.bool (sameIf a b)) ∧ Below w.heap.size w w' := by
 obtain ⟨Aat, cat, Aav, cav, rfl, -, -, z3, z4, hTa, hVa⟩ := ha
 obtain ⟨Abt, cbt, Abv, cbv, rfl, -, -, y3, y4, hTb, hVb⟩ := hb
 obtain ⟨W2, hW2, B2, O0, O1, hl2⟩ := two_boxes w #[.string a.pkg, .int .i64 a.major, .string a.mod, .slice Aat a.types.length cat, .slice Aav a.vals.length cav] #[.string b.pkg, .int .i64 b.major, .string b.mod, .slice Abt b.types.length cbt, .slice Abv b.vals.length cbv] 24 24
 have HX0 : Hid (∀ wx, Below W2.heap.size W2 wx → wx.heap[w.heap.size]? = some (.cells #[.string a.pkg, .int .i64 a.major, .string a.mod, .slice Aat a.types.length cat, .slice Aav a.vals.length cav] 24 (0, 0))) := Lib.hid (fun wx hb => (hb.block _ (by omega)).trans O0)
 have HX1 : Hid (∀ wx, Below W2.heap.size W2 wx → wx.heap[w.heap.size + 1]? = some (.cells #[.string b.pkg, .int .i64 b.major, .string b.mod, .slice Abt b.types.length cbt, .slice Abv b.vals.length cbv] 24 (0, 0))) := Lib.hid (fun wx hb => (hb.block _ (by omega)).trans O1)
 have HB2 := Lib.hid B2
 have HW := Lib.hid hW2
 have C6 := Lib.hid (fun w' (hb : Below w.heap.size w w') => rsame10_list _ cat _ _ _ cbt _ _ w' rfl rfl z3 y3 (hTa.below hb) (hTb.below hb))
 have C7 := Lib.hid (fun w' (hb : Below w.heap.size w w') => rsame10_list _ cav _ _ _ cbv _ _ w' rfl rfl z4 y4 (hVa.below hb) (hVb.below hb))
 obtain ⟨q3, hq3⟩ : ∃ q, q = decide (a.pkg = b.pkg) := ⟨_, rfl⟩
 obtain ⟨q4, hq4⟩ : ∃ q, (a.major == b.major) = q := ⟨_, rfl⟩
 obtain ⟨q5, hq5⟩ : ∃ q, q = decide (a.mod = b.mod) := ⟨_, rfl⟩
 obtain ⟨q6, hq6⟩ : ∃ q, q = sameNm a.types b.types := ⟨_, rfl⟩
 obtain ⟨q7, hq7⟩ : ∃ q, q = sameNm a.vals b.vals := ⟨_, rfl⟩
 have e : sameIf a b = (q3 && (q4 && (q5 && (q6 && q7)))) := by rw [sameIf_eq, hq3, hq4, hq5, hq6, hq7]
 rw [e]
 have s3 := str_eq a.pkg b.pkg
 have s5 := str_eq a.mod b.mod
 rw [← hq3] at s3
 rw [← hq5] at s5
 rw [← hq6] at C6
 rw [← hq7] at C7
 have x0 := Lib.cell_of_heap O0 0
 have x1 := Lib.cell_of_heap O0 1
 have x2 := Lib.cell_of_heap O0 2
 have x3 := Lib.cell_of_heap O0 3
 have x4 := Lib.cell_of_heap O0 4
 simp at x0 x1 x2 x3 x4
 have y0 := Lib.cell_of_heap O1 0
 have y1 := Lib.cell_of_heap O1 1
 have y2 := Lib.cell_of_heap O1 2
 have y3 := Lib.cell_of_heap O1 3
 have y4 := Lib.cell_of_heap O1 4
 simp at y0 y1 y2 y3 y4
 clear hTa hVa hTb hVb B2 hW2 O0 O1 e hq3 hq5 hq6 hq7
 go_enter Tryz.func8, Tryz.ntmps8
 go_upto_region 1 with fail
 rw [← HW.out]
 clear HW
 cases q3 with
 | false =>
  go_wp2_with fail
  go_ret
  exact ⟨rfl, HB2.out⟩
 | true =>
  cases q4 with
  | false =>
   go_wp2_with fail
   go_ret
   exact ⟨rfl, HB2.out⟩
  | true =>
   cases q5 with
   | false =>
    go_wp2_with fail
    go_ret
    exact ⟨rfl, HB2.out⟩
   | true =>
    go_wp2_with fail
    refine (C6.out _ HB2.out).mono ?_; rintro e w5 ⟨rfl, hb5⟩
    have HB5 := Lib.hid (below_over HB2.out hb5)
    have HB5w := Lib.hid hb5
    clear x0 x1 x2 x3 x4 y0 y1 y2 y3 y4 hb5
    cases q6 with
    | false =>
     go_wp2_with fail
     go_ret
     exact ⟨rfl, HB5.out⟩
    | true =>
     have X0 := HX0.out w5 HB5w.out
     have X1 := HX1.out w5 HB5w.out
     have x0 := Lib.cell_of_heap X0 0
     have x1 := Lib.cell_of_heap X0 1
     have x2 := Lib.cell_of_heap X0 2
     have x3 := Lib.cell_of_heap X0 3
     have x4 := Lib.cell_of_heap X0 4
     simp at x0 x1 x2 x3 x4
     have y0 := Lib.cell_of_heap X1 0
     have y1 := Lib.cell_of_heap X1 1
     have y2 := Lib.cell_of_heap X1 2
     have y3 := Lib.cell_of_heap X1 3
     have y4 := Lib.cell_of_heap X1 4
     simp at y0 y1 y2 y3 y4
     clear X0 X1
     go_wp2_with fail
     refine (C7.out _ HB5.out).mono ?_; rintro e w6 ⟨rfl, hb6⟩
     have HB6 := Lib.hid (below_over HB5.out hb6)
     clear x0 x1 x2 x3 x4 y0 y1 y2 y3 y4 hb6
     go_wp2_with fail
     go_ret
     exact ⟨rfl, HB6.out⟩
end Go.Proofs.YtcdmgcgjonndpaaGreat

/-  -/
namespace Go.Proofs.YtcdmgcgjonndpaaGreat
open Go Go.RowKit Go.Shelf
open Go.Sort
open M
theorem few_ifs {env : List If} (h : fewE env = true) {x : If} (hx : x ∈ env) : (∀ y ∈ x.types, many y.typ ≤ 9000) ∧ ∀ y ∈ x.vals, many y.typ ≤ 9000 := by
 unfold fewE at h
 rw [Bool.and_eq_true, List.all_eq_true] at h
 have := h.2 x hx
 unfold fewI at this
 simp only [Bool.and_eq_true, decide_eq_true_eq, List.all_eq_true] at this
 exact ⟨fun y hy => by have := few_small (this.2.2.1 y hy); omega, fun y hy => by have := few_small (this.2.2.2 y hy); omega⟩
theorem two_ifs {w : World} {g : Nat} {a b : If} {la lb : List Value} {cs : Array Value} (ha : ifE w la a) (hb : ifE w lb b) (hc : w.heap[g]? = some (.cells cs 24 (0, 0))) (e : cs.toList = la ++ lb) : RowIn ifR w (some ⟨g, 0, none⟩) [a, b] := by
 have hg := (Array.getElem?_eq_some_iff.1 hc).1
 have la5 := ifR.len _ _ _ ha
 have l5 : la.length = 5 := la5
 have lb5 : lb.length = 5 := ifR.len _ _ _ hb
 intro i x hx
 match i, hx with
 | 0, hx =>
  simp at hx; subst hx
  refine ⟨g, 0, la, rfl, hg, fun j v hv => ?_, ha⟩
  have hj := (List.getElem?_eq_some_iff.1 hv).1
  rw [Lib.cell_of_heap hc, ← Array.getElem?_toList, e, show 0 + 0 * ifR.k + j = j by omega, List.getElem?_append_left hj]
  exact hv
 | 1, hx =>
  simp at hx; subst hx
  refine ⟨g, 0, lb, rfl, hg, fun j v hv => ?_, hb⟩
  rw [Lib.cell_of_heap hc, ← Array.getElem?_toList, e, show 0 + 1 * ifR.k + j = 5 + j by show 0 + 1 * 5 + j = 5 + j; omega, List.getElem?_append_right (by omega), l5, Nat.add_sub_cancel_left]
  exact hv
 | i + 2, hx => simp at hx
set_option maxRecDepth 100000 in
set_option maxHeartbeats 32000000 in
theorem ifaceMays_any (a b : If) (la lb : List Value) (w : World) (ha : ifE w la a) (hb : ifE w lb b) :
  Calls Tryz.prog 3 #[.agg la.toArray, .agg lb.toArray] w fun e w' => e = .returned (.bool true) ∧ Below w.heap.size w w' := by
 have HEA := Lib.hid ha
 have HEB := Lib.hid hb
 obtain ⟨Aat, cat, Aav, cav, rfl, zp, zm, -⟩ := ha
 obtain ⟨Abt, cbt, Abv, cbv, rfl, -⟩ := hb
 obtain ⟨W2, hW2, B2, O0, O1, hl2⟩ := two_boxes w #[.string a.pkg, .int .i64 a.major, .string a.mod, .slice Aat a.types.length cat, .slice Aav a.vals.length cav] #[.string b.pkg, .int .i64 b.major, .string b.mod, .slice Abt b.types.length cbt, .slice Abv b.vals.length cbv] 24 24
 have HX0 : Hid (∀ wx, Below W2.heap.size W2 wx → wx.heap[w.heap.size]? = some (.cells #[.string a.pkg, .int .i64 a.major, .string a.mod, .slice Aat a.types.length cat, .slice Aav a.vals.length cav] 24 (0, 0))) := Lib.hid (fun wx hb => (hb.block _ (by omega)).trans O0)
 have HX1 : Hid (∀ wx, Below W2.heap.size W2 wx → wx.heap[w.heap.size + 1]? = some (.cells #[.string b.pkg, .int .i64 b.major, .string b.mod, .slice Abt b.types.length cbt, .slice Abv b.vals.length cbv] 24 (0, 0))) := Lib.hid (fun wx hb => (hb.block _ (by omega)).trans O1)
 have HB2 := Lib.hid B2
 have HW := Lib.hid hW2
 have HEA2 : Hid (∀ wx, Below W2.heap.size W2 wx → ifE wx [.string a.pkg, .int .i64 a.major, .string a.mod, .slice Aat a.types.length cat, .slice Aav a.vals.length cav] a) := Lib.hid (fun wx hb => ifR.keep _ _ _ _ HEA.out (below_over HB2.out hb))
 have HEB2 : Hid (∀ wx, Below W2.heap.size W2 wx → ifE wx [.string b.pkg, .int .i64 b.major, .string b.mod, .slice Abt b.types.length cbt, .slice Abv b.vals.length cbv] b) := Lib.hid (fun wx hb => ifR.keep _ _ _ _ HEB.out (below_over HB2.out hb))
 have UP := Lib.hid (up10_any W2)
 clear hW2 B2 O0 O1 hl2
 go_enter Tryz.func3, Tryz.ntmps3
 go_upto_region 1 with fail
 rw [← HW.out]
 clear HW
 go_wp2_with fail
 refine UP.out.mono ?_; rintro e w3 ⟨rfl, hb3⟩
 have H3 := Lib.hid hb3
 have X0 := HX0.out w3 hb3
 have X1 := HX1.out w3 hb3
 have x0 := Lib.cell_of_heap X0 0
 have x1 := Lib.cell_of_heap X0 1
 have x2 := Lib.cell_of_heap X0 2
 have x3 := Lib.cell_of_heap X0 3
 have x4 := Lib.cell_of_heap X0 4
 simp at x0 x1 x2 x3 x4
 have y0 := Lib.cell_of_heap X1 0
 have y1 := Lib.cell_of_heap X1 1
 have y2 := Lib.cell_of_heap X1 2
 have y3 := Lib.cell_of_heap X1 3
 have y4 := Lib.cell_of_heap X1 4
 simp at y0 y1 y2 y3 y4
 obtain ⟨w4, hw4⟩ : ∃ w4, w4 = w3.alloc (.cells #[.string a.pkg, .int .i64 a.major, .string a.mod, .slice Aat a.types.length cat, .slice Aav a.vals.length cav, .string b.pkg, .int .i64 b.major, .string b.mod, .slice Abt b.types.length cbt, .slice Abv b.vals.length cbv] 24) := ⟨_, rfl⟩
 have B4 : Below w3.heap.size w3 w4 := by rw [hw4]; exact below_new (Below.refl _ _) _
 have Y4 : w4.heap[w3.heap.size]? = some (.cells #[.string a.pkg, .int .i64 a.major, .string a.mod, .slice Aat a.types.length cat, .slice Aav a.vals.length cav, .string b.pkg, .int .i64 b.major, .string b.mod, .slice Abt b.types.length cbt, .slice Abv b.vals.length cbv] 24 (0, 0)) := by rw [hw4]; exact heap_alloc_new w3 _
 have H4 := Lib.hid (below_over H3.out B4)
 have CF := Lib.hid (rfew8_any (some ⟨w3.heap.size, 0, none⟩) 2 [a, b] w4 (two_ifs (HEA2.out w4 H4.out) (HEB2.out w4 H4.out) Y4 rfl) (by show (2 : Nat) ≤ _; decide))
 obtain ⟨qf, hqf⟩ : ∃ q, q = fewE [a, b] := ⟨_, rfl⟩
 rw [← hqf] at CF
 have HQF := Lib.hid hqf
 clear X0 X1 hb3 UP B4 Y4 hqf
 rw [hw4] at CF
 go_wp2_with fail
 refine CF.out.mono ?_; rw [← hw4]; rintro e w5 ⟨rfl, hb5⟩
 have H5 := Lib.hid (below_over H4.out hb5)
 clear hb5 hw4 CF x0 x1 x2 x3 x4 y0 y1 y2 y3 y4
 have X0 := HX0.out w5 H5.out
 have x0 := Lib.cell_of_heap X0 0
 have x1 := Lib.cell_of_heap X0 1
 have x2 := Lib.cell_of_heap X0 2
 have x3 := Lib.cell_of_heap X0 3
 have x4 := Lib.cell_of_heap X0 4
 simp at x0 x1 x2 x3 x4
 clear X0
 cases qf with
 | false =>
  go_wp2_with fail
  go_ret
  exact ⟨rfl, below_over HB2.out H5.out⟩
 | true =>
  have FE := HQF.out.symm
  have NA := Lib.hid (few_ifs FE (x := a) (by simp))
  have NB := Lib.hid (few_ifs FE (x := b) (by simp))
  clear FE
  by_cases h1 : a.pkg.size ≤ 500
  rotate_left
  ·have hg1 : decide ((500 : Int) < (a.pkg.size : Int)) = true := by simp; omega
   go_wp2_with fail
   go_ret
   exact ⟨rfl, below_over HB2.out H5.out⟩
  have hg1 : decide ((500 : Int) < (a.pkg.size : Int)) = false := by simp; omega
  by_cases h2 : a.mod.size ≤ 500
  rotate_left
  ·have hg2 : decide ((500 : Int) < (a.mod.size : Int)) = true := by simp; omega
   go_wp2_with fail
   go_ret
   exact ⟨rfl, below_over HB2.out H5.out⟩
  have hg2 : decide ((500 : Int) < (a.mod.size : Int)) = false := by simp; omega
  obtain ⟨qa, hqa⟩ : ∃ q, q = mayIf a := ⟨_, rfl⟩
  obtain ⟨qb, hqb⟩ : ∃ q, q = mayIf b := ⟨_, rfl⟩
  obtain ⟨qs, hqs⟩ : ∃ q, q = sameIf a b := ⟨_, rfl⟩
  have haa : sameIf a a = true := sameIf_iff.2 rfl
  have RA := Lib.hid (fun wx (hb : Below W2.heap.size W2 wx) => rmay10_any a _ wx (HEA2.out wx hb) NA.out.1 NA.out.2)
  have RB := Lib.hid (fun wx (hb : Below W2.heap.size W2 wx) => rmay10_any b _ wx (HEB2.out wx hb) NB.out.1 NB.out.2)
  have RS := Lib.hid (fun wx (hb : Below W2.heap.size W2 wx) => rsame10_any a b _ _ wx (HEA2.out wx hb) (HEB2.out wx hb))
  have CM := Lib.hid (fun wx (hb : Below W2.heap.size W2 wx) => may10_any a _ wx (HEA2.out wx hb))
  have CS := Lib.hid (fun wx (hb : Below W2.heap.size W2 wx) => same10_any a b _ _ wx (HEA2.out wx hb) (HEB2.out wx hb))
  have CT := Lib.hid (fun wx (hb : Below W2.heap.size W2 wx) => same10_any a a _ _ wx (HEA2.out wx hb) (HEA2.out wx hb))
  rw [← hqa] at RA CM CS CT
  rw [← hqb] at RB CS
  rw [← hqs] at RS CS
  rw [haa] at CT
  clear hqa hqb hqs haa
  go_wp2_with fail
  refine (RA.out w5 H5.out).mono ?_; rintro e w6 ⟨rfl, hb6⟩
  have H6 := Lib.hid (below_over H5.out hb6)
  have X1 := HX1.out w6 H6.out
  clear hb6 RA x0 x1 x2 x3 x4
  have y0 := Lib.cell_of_heap X1 0
  have y1 := Lib.cell_of_heap X1 1
  have y2 := Lib.cell_of_heap X1 2
  have y3 := Lib.cell_of_heap X1 3
  have y4 := Lib.cell_of_heap X1 4
  simp at y0 y1 y2 y3 y4
  clear X1
  go_wp2_with fail
  refine (RB.out w6 H6.out).mono ?_; rintro e w7 ⟨rfl, hb7⟩
  have H7 := Lib.hid (below_over H6.out hb7)
  clear hb7 RB y0 y1 y2 y3 y4
  cases qa with
  | false =>
   have X0 := HX0.out w7 H7.out
   have x0 := Lib.cell_of_heap X0 0
   have x1 := Lib.cell_of_heap X0 1
   have x2 := Lib.cell_of_heap X0 2
   have x3 := Lib.cell_of_heap X0 3
   have x4 := Lib.cell_of_heap X0 4
   simp at x0 x1 x2 x3 x4
   clear X0
   go_wp2_with fail
   refine (CM.out w7 H7.out).mono ?_; rintro e w8 ⟨rfl, hb8⟩
   have H8 := Lib.hid (below_over H7.out hb8)
   clear hb8 x0 x1 x2 x3 x4
   have X0 := HX0.out w8 H8.out
   have x0 := Lib.cell_of_heap X0 0
   have x1 := Lib.cell_of_heap X0 1
   have x2 := Lib.cell_of_heap X0 2
   have x3 := Lib.cell_of_heap X0 3
   have x4 := Lib.cell_of_heap X0 4
   simp at x0 x1 x2 x3 x4
   have X1 := HX1.out w8 H8.out
   have y0 := Lib.cell_of_heap X1 0
   have y1 := Lib.cell_of_heap X1 1
   have y2 := Lib.cell_of_heap X1 2
   have y3 := Lib.cell_of_heap X1 3
   have y4 := Lib.cell_of_heap X1 4
   simp at y0 y1 y2 y3 y4
   clear X0 X1
   go_wp2_with fail
   refine (CS.out w8 H8.out).mono ?_; rintro e w9 ⟨rfl, hb9⟩
   have H9 := Lib.hid (below_over H8.out hb9)
   clear hb9 x0 x1 x2 x3 x4 y0 y1 y2 y3 y4
   have X0 := HX0.out w9 H9.out
   have x0 := Lib.cell_of_heap X0 0
   have x1 := Lib.cell_of_heap X0 1
   have x2 := Lib.cell_of_heap X0 2
   have x3 := Lib.cell_of_heap X0 3
   have x4 := Lib.cell_of_heap X0 4
   simp at x0 x1 x2 x3 x4
   clear X0
   go_wp2_with fail
   refine (CT.out w9 H9.out).mono ?_; rintro e w10 ⟨rfl, hb10⟩
   have H10 := Lib.hid (below_over H9.out hb10)
   clear hb10 x0 x1 x2 x3 x4
   go_wp2_with fail
   go_ret
   exact ⟨rfl, below_over HB2.out H10.out⟩
  | true =>
   cases qb with
   | false =>
    have X0 := HX0.out w7 H7.out
    have x0 := Lib.cell_of_heap X0 0
    have x1 := Lib.cell_of_heap X0 1
    have x2 := Lib.cell_of_heap X0 2
    have x3 := Lib.cell_of_heap X0 3
    have x4 := Lib.cell_of_heap X0 4
    simp at x0 x1 x2 x3 x4
    clear X0
    go_wp2_with fail
    refine (CM.out w7 H7.out).mono ?_; rintro e w8 ⟨rfl, hb8⟩
    have H8 := Lib.hid (below_over H7.out hb8)
    clear hb8 x0 x1 x2 x3 x4
    have X0 := HX0.out w8 H8.out
    have x0 := Lib.cell_of_heap X0 0
    have x1 := Lib.cell_of_heap X0 1
    have x2 := Lib.cell_of_heap X0 2
    have x3 := Lib.cell_of_heap X0 3
    have x4 := Lib.cell_of_heap X0 4
    simp at x0 x1 x2 x3 x4
    have X1 := HX1.out w8 H8.out
    have y0 := Lib.cell_of_heap X1 0
    have y1 := Lib.cell_of_heap X1 1
    have y2 := Lib.cell_of_heap X1 2
    have y3 := Lib.cell_of_heap X1 3
    have y4 := Lib.cell_of_heap X1 4
    simp at y0 y1 y2 y3 y4
    clear X0 X1
    go_wp2_with fail
    refine (CS.out w8 H8.out).mono ?_; rintro e w9 ⟨rfl, hb9⟩
    have H9 := Lib.hid (below_over H8.out hb9)
    clear hb9 x0 x1 x2 x3 x4 y0 y1 y2 y3 y4
    have X0 := HX0.out w9 H9.out
    have x0 := Lib.cell_of_heap X0 0
    have x1 := Lib.cell_of_heap X0 1
    have x2 := Lib.cell_of_heap X0 2
    have x3 := Lib.cell_of_heap X0 3
    have x4 := Lib.cell_of_heap X0 4
    simp at x0 x1 x2 x3 x4
    clear X0
    go_wp2_with fail
    refine (CT.out w9 H9.out).mono ?_; rintro e w10 ⟨rfl, hb10⟩
    have H10 := Lib.hid (below_over H9.out hb10)
    clear hb10 x0 x1 x2 x3 x4
    go_wp2_with fail
    go_ret
    exact ⟨rfl, below_over HB2.out H10.out⟩
   | true =>
    have X0 := HX0.out w7 H7.out
    have X1 := HX1.out w7 H7.out
    have x0 := Lib.cell_of_heap X0 0
    have x1 := Lib.cell_of_heap X0 1
    have x2 := Lib.cell_of_heap X0 2
    have x3 := Lib.cell_of_heap X0 3
    have x4 := Lib.cell_of_heap X0 4
    simp at x0 x1 x2 x3 x4
    have y0 := Lib.cell_of_heap X1 0
    have y1 := Lib.cell_of_heap X1 1
    have y2 := Lib.cell_of_heap X1 2
    have y3 := Lib.cell_of_heap X1 3
    have y4 := Lib.cell_of_heap X1 4
    simp at y0 y1 y2 y3 y4
    clear X0 X1
    go_wp2_with fail
    refine (RS.out w7 H7.out).mono ?_; rintro e w8 ⟨rfl, hb8⟩
    have H8 := Lib.hid (below_over H7.out hb8)
    clear hb8 x0 x1 x2 x3 x4 y0 y1 y2 y3 y4
    cases qs with
    | false =>
     have X0 := HX0.out w8 H8.out
     have x0 := Lib.cell_of_heap X0 0
     have x1 := Lib.cell_of_heap X0 1
     have x2 := Lib.cell_of_heap X0 2
     have x3 := Lib.cell_of_heap X0 3
     have x4 := Lib.cell_of_heap X0 4
     simp at x0 x1 x2 x3 x4
     clear X0
     go_wp2_with fail
     refine (CM.out w8 H8.out).mono ?_; rintro e w9 ⟨rfl, hb9⟩
     have H9 := Lib.hid (below_over H8.out hb9)
     clear hb9 x0 x1 x2 x3 x4
     have X0 := HX0.out w9 H9.out
     have x0 := Lib.cell_of_heap X0 0
     have x1 := Lib.cell_of_heap X0 1
     have x2 := Lib.cell_of_heap X0 2
     have x3 := Lib.cell_of_heap X0 3
     have x4 := Lib.cell_of_heap X0 4
     simp at x0 x1 x2 x3 x4
     have X1 := HX1.out w9 H9.out
     have y0 := Lib.cell_of_heap X1 0
     have y1 := Lib.cell_of_heap X1 1
     have y2 := Lib.cell_of_heap X1 2
     have y3 := Lib.cell_of_heap X1 3
     have y4 := Lib.cell_of_heap X1 4
     simp at y0 y1 y2 y3 y4
     clear X0 X1
     go_wp2_with fail
     refine (CS.out w9 H9.out).mono ?_; rintro e w10 ⟨rfl, hb10⟩
     have H10 := Lib.hid (below_over H9.out hb10)
     clear hb10 x0 x1 x2 x3 x4 y0 y1 y2 y3 y4
     have X0 := HX0.out w10 H10.out
     have x0 := Lib.cell_of_heap X0 0
     have x1 := Lib.cell_of_heap X0 1
     have x2 := Lib.cell_of_heap X0 2
     have x3 := Lib.cell_of_heap X0 3
     have x4 := Lib.cell_of_heap X0 4
     simp at x0 x1 x2 x3 x4
     clear X0
     go_wp2_with fail
     refine (CT.out w10 H10.out).mono ?_; rintro e w11 ⟨rfl, hb11⟩
     have H11 := Lib.hid (below_over H10.out hb11)
     clear hb11 x0 x1 x2 x3 x4
     go_wp2_with fail
     go_ret
     exact ⟨rfl, below_over HB2.out H11.out⟩
    | true =>
     have X0 := HX0.out w8 H8.out
     have x0 := Lib.cell_of_heap X0 0
     have x1 := Lib.cell_of_heap X0 1
     have x2 := Lib.cell_of_heap X0 2
     have x3 := Lib.cell_of_heap X0 3
     have x4 := Lib.cell_of_heap X0 4
     simp at x0 x1 x2 x3 x4
     clear X0
     go_wp2_with fail
     refine (CM.out w8 H8.out).mono ?_; rintro e w9 ⟨rfl, hb9⟩
     have H9 := Lib.hid (below_over H8.out hb9)
     clear hb9 x0 x1 x2 x3 x4
     have X0 := HX0.out w9 H9.out
     have x0 := Lib.cell_of_heap X0 0
     have x1 := Lib.cell_of_heap X0 1
     have x2 := Lib.cell_of_heap X0 2
     have x3 := Lib.cell_of_heap X0 3
     have x4 := Lib.cell_of_heap X0 4
     simp at x0 x1 x2 x3 x4
     have X1 := HX1.out w9 H9.out
     have y0 := Lib.cell_of_heap X1 0
     have y1 := Lib.cell_of_heap X1 1
     have y2 := Lib.cell_of_heap X1 2
     have y3 := Lib.cell_of_heap X1 3
     have y4 := Lib.cell_of_heap X1 4
     simp at y0 y1 y2 y3 y4
     clear X0 X1
     go_wp2_with fail
     refine (CS.out w9 H9.out).mono ?_; rintro e w10 ⟨rfl, hb10⟩
     have H10 := Lib.hid (below_over H9.out hb10)
     clear hb10 x0 x1 x2 x3 x4 y0 y1 y2 y3 y4
     have X0 := HX0.out w10 H10.out
     have x0 := Lib.cell_of_heap X0 0
     have x1 := Lib.cell_of_heap X0 1
     have x2 := Lib.cell_of_heap X0 2
     have x3 := Lib.cell_of_heap X0 3
     have x4 := Lib.cell_of_heap X0 4
     simp at x0 x1 x2 x3 x4
     clear X0
     go_wp2_with fail
     refine (CT.out w10 H10.out).mono ?_; rintro e w11 ⟨rfl, hb11⟩
     have H11 := Lib.hid (below_over H10.out hb11)
     clear hb11 x0 x1 x2 x3 x4
     go_wp2_with fail
     go_ret
     exact ⟨rfl, below_over HB2.out H11.out⟩
end Go.Proofs.YtcdmgcgjonndpaaGreat

/-  -/
namespace Go.Proofs.YtcdmgcgjonndpaaGreat
open Go Go.RowKit Go.WideShapes Go.ChangeShapes
section
variable {H : Type} {enc : TypeId × Value → H} {P : Program}
theorem post_of_below {f : Func} {s : ChangeSpec} {apart fresh handsOn again : Bool} {W W' : World} {args : Array Value} {v : Value} {ds gs : List (DataW H)} {before pa pv : List MemPlace}
    (hW : DataW.Whole enc P f.params.toList s.vars apart W args.toList ds gs before)
    (hres : ∀ (b : Nat) (sp : Nat → Bool) (hd : Bool), DataW.TrodAll enc P W' b sp hd f.resultTypes.toList (v.resultList f.resultTypes.size) (s.fn H (ds ++ gs)).results [])
    (hargs : ∀ sp : Nat → Bool, (∀ p ∈ before, sp p.block = true) → DataW.TrodAll enc P W' 0 sp true f.params.toList args.toList (s.fn H (ds ++ gs)).args pa)
    (hvars : ∀ sp : Nat → Bool, (∀ p ∈ before, sp p.block = true) → DataW.TrodVars enc P W' sp s.vars (s.fn H (ds ++ gs)).vars pv)
    (hps : before = pa ++ pv) (hb : Below W.heap.size W W')
    (hok : ∀ (j : Nat) (t : TypeId) (r : Value), f.resultTypes[j]? = some t → (v.resultList f.resultTypes.size)[j]? = some r → Value.okWide P W' .any 0 t r) :
    s.post enc P f apart fresh handsOn again W args v W' := by
  have hlt : ∀ p ∈ before, p.block < W.heap.size := fun p hp => hW.lt p hp
  have hold : ∀ p ∈ before, (fun b => decide (b < W.heap.size)) p.block = true := fun p hp => by simpa using hlt p hp
  refine ⟨ds, gs, before, [], pa, pv, hW, hres _ _ _, hargs _ hold, hvars _ hold, World.keptBut_mono (fun p hp => ⟨hp, ?_⟩) (hb.frame (· ∈ before)), fun _ => ?_⟩
  · rw [hps, List.mem_append] at hp
    exact Or.inr hp
  · obtain ⟨_, _, _, _, _, hz, hn⟩ := hW
    refine ⟨hok, _, _, ([] ++ pa) ++ pv, ⟨[] ++ pa, pv, trodAll_append (hargs _ (fun _ _ => rfl)) (hres _ _ _), hvars _ (fun _ _ => rfl), rfl, ?_, ?_⟩, ?_⟩
    · intro b off hp
      have hin : MemPlace.cell b off ∈ before := by rw [hps]; simpa using hp
      rw [hb.frozen (hlt _ hin)]
      exact hz b off hin
    · intro ha
      have := hn ha
      rw [hps] at this
      simpa using this
    · intro p hp _
      rw [hps]
      simpa using hp
theorem trodAll_stays (hl : laidOutB P = true) {W W' : World} {sp : Nat → Bool} (hb : Below W.heap.size W W') :
    ∀ (ts : List TypeId) (vs : List Value) (ds : List (DataW H)) (ps : List MemPlace), (∀ t ∈ ts, P.readableRec t = true ∧ t < P.types.size) →
      DataW.TrodAll enc P W 0 (fun _ => true) true ts vs ds ps → (∀ x ∈ ps, x.block < W.heap.size) → (∀ x ∈ ps, sp x.block = true) → DataW.TrodAll enc P W' 0 sp true ts vs ds ps
  | [], vs, ds, ps, _, h, _, _ => by
    obtain ⟨rfl, rfl, rfl⟩ := trodAll_nil h
    exact trodAll_mk0
  | t :: ts, vs, ds, ps, ht, h, hlt, hs => by
    obtain ⟨v, vs', d, ds', p, q, rfl, rfl, rfl, h0, h1⟩ := trodAll_cons h
    obtain ⟨hr, hrow⟩ := ht t (by simp)
    exact ⟨p, q, WideElems.Trod_stays hl hr hrow h0 (fun x hx => hb.same (hlt x (by simp [hx]))) (fun x hx => hs x (by simp [hx])),
      trodAll_stays hl hb ts vs' ds' q (fun u hu => ht u (by simp [hu])) h1 (fun x hx => hlt x (by simp [hx])) (fun x hx => hs x (by simp [hx])), rfl⟩
theorem law_post {f : Func} {s : ChangeSpec} {apart fresh handsOn again : Bool} {W W' : World} {args : Array Value} {ds gs : List (DataW H)} {before : List MemPlace} {tb : TypeId}
    (hl : laidOutB P = true) (hro : f.params.toList.all (fun t => P.readableRec t && decide (t < P.types.size)) = true) (hres : f.resultTypes = #[tb]) (hbool : P.underlying tb = some .bool) (hvars : s.vars = [])
    (hW : DataW.Whole enc P f.params.toList s.vars apart W args.toList ds gs before) (hb : Below W.heap.size W W')
    (hs : s.fn H (ds ++ gs) = { results := [.lit (.bool true)], args := ds }) :
    s.post enc P f apart fresh handsOn again W args (.bool true) W' := by
  have hW' := hW
  obtain ⟨p, q, hA, hV, hpq, _, _⟩ := hW
  rw [hvars] at hV
  obtain ⟨rfl, rfl⟩ := trodVars_none hV
  rw [List.append_nil] at hpq
  subst hpq
  have hlt : ∀ x ∈ before, x.block < W.heap.size := fun x hx => hW'.lt x hx
  have hro' : ∀ t ∈ f.params.toList, P.readableRec t = true ∧ t < P.types.size := fun t ht => by
    have := List.all_eq_true.1 hro t ht
    simpa using this
  refine post_of_below (pa := before) (pv := []) hW' ?_ ?_ ?_ (by simp) hb ?_
  · intro b sp hd
    rw [hs, hres]
    exact trodAll_mk1 (shut_bool hbool true)
  · intro sp hsp
    rw [hs]
    exact trodAll_stays hl hb _ _ _ _ hro' hA hlt hsp
  · intro sp _
    rw [hs, hvars]
    exact rfl
  · exact ok_one hres rfl (okWide_bool_mk hbool true)
end
end Go.Proofs.YtcdmgcgjonndpaaGreat

/-  -/
namespace Go.Proofs.YtcdmgcgjonndpaaGreat
open Go Go.ChangeShapes Go.WideShapes Go.ChangeAt Go.RowKit Go.Joins
theorem own : ownKnob Tryz.prog.godebug = none := by kernel_rfl
theorem laidOut : laidOutB Tryz.prog = true := by kernel_rfl
end Go.Proofs.YtcdmgcgjonndpaaGreat

/-  -/
namespace Go.Proofs.YtcdmgcgjonndpaaGreat
open Go Go.ChangeShapes Go.WideShapes Go.ChangeAt Go.RowKit Go.Joins Go.Deep
open M
section
variable {H : Type} {enc : TypeId × Value → H} {w : World} {base : Nat} {sp : Nat → Bool} {held : Bool}
set_option maxRecDepth 100000 in
theorem open_ifc {r : Go.Reach} {b0 : Nat} {v : Value} {d : DataW H} {p : List MemPlace} (hv : Value.okWide Tryz.prog w r b0 24 v) (h : DataW.Trod enc Tryz.prog w base sp held 24 v d p) : ∃ l x, v = .agg l.toArray ∧ ifE w l x := by
  obtain ⟨cs, rfl, -⟩ := okWide_struct Tryz.underlying24 hv
  obtain ⟨fuel, hf⟩ := h
  obtain ⟨x, hx⟩ := open_if fuel _ _ hf
  obtain ⟨l⟩ := cs
  exact ⟨l, x, rfl, hx⟩
end
end Go.Proofs.YtcdmgcgjonndpaaGreat
