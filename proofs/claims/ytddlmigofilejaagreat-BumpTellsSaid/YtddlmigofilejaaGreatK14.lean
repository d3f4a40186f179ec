/-
  Several texts in one.
-/
import Derived.Test.YtddlmigofilejaaGreatK13
set_option maxRecDepth 100000
set_option maxHeartbeats 16000000
namespace Go.Proofs.YtddlmigofilejaaGreat
open Go Go.RowKit Go.Shelf
open Go.Sort
open M
theorem named_true (A : Option Addr) (c : Nat) (l : List Nm) (w : World) (hR : RowIn nmR w A l) (hl : l.length <= 9223372036854775807) (h9 : ∀ x ∈ l, many x.typ <= 9000) :
  Calls Tryz.prog 51 #[.slice A l.length c, .bool true] w fun e w' => e = .returned (.bool (risesN true l)) /\ Below w.heap.size w w' := by
 have HR := hZ hR
 have H9 := hZ h9
 obtain ⟨n, hn⟩ : ∃ n, n = l.length := ⟨_, rfl⟩
 have HN := hZ hn
 obtain ⟨V, hV⟩ : ∃ V, V = risesN true l := ⟨_, rfl⟩
 have HV := hZ hV
 rw [<- hn] at hl ⊢
 rw [<- hV]
 clear hR hn hV h9
 go_enter Tryz.func51, Tryz.ntmps51
 go_wp2_with fail
 go_loopw [5] (fun s5 wr => ∃ k : Nat, k <= n /\ s5 = .int .i64 k /\ Hid (∀ i, i < k -> okAt true l i = true) /\ Hid (Below w.heap.size w wr)) (fun s5 _ => n - (intOf s5).toNat)
 case atStart => exact ⟨0, by omega, rfl, hZ (fun i h => by omega), hZ (Below.refl _ _)⟩
 case round =>
  obtain ⟨k, hk, rfl, HP, HB⟩ := hrel;obtain ⟨wo, rfl⟩ : ∃ wo : World, wo = wr := ⟨_, rfl⟩;by_cases hlt : k < n
  ·obtain ⟨x, hx⟩ : ∃ x, l[k]? = some x := ⟨_, List.getElem?_eq_getElem (by rw [<- HN.out]; exact hlt)⟩
   obtain ⟨g, o, Bn, cB, Bs, dB, rfl, hg, a0, a1, a2, a3, a4, a5, a6, a7, hT, hs⟩ := (HR.out.below HB.out).nm hx;have HX := hZ hx
   have HC : Hid (∀ wx, Below wo.heap.size wo wx -> wx.cell? ⟨g, o + k * 8, none⟩ = some (.string x.name) /\ wx.cell? ⟨g, o + k * 8 + 1, none⟩ = some (.int .i64 x.typ.kind) /\ wx.cell? ⟨g, o + k * 8 + 1 + 1, none⟩ = some (.string x.typ.pkg) /\ wx.cell? ⟨g, o + k * 8 + 1 + 2, none⟩ = some (.int .i64 x.typ.major) /\ wx.cell? ⟨g, o + k * 8 + 1 + 3, none⟩ = some (.string x.typ.mod) /\ wx.cell? ⟨g, o + k * 8 + 1 + 4, none⟩ = some (.string x.typ.name) /\ wx.cell? ⟨g, o + k * 8 + 1 + 5, none⟩ = some (.slice Bn x.typ.names.length cB) /\ wx.cell? ⟨g, o + k * 8 + 1 + 6, none⟩ = some (.slice Bs x.typ.subs.length dB)) := hZ (fun wx hb => by
    have e := fun (q : Nat) (v : Value) (hv : wo.cell? ⟨g, q, none⟩ = some v) => (hb.cell (p := ⟨g, q, none⟩) hg).trans hv
    exact ⟨e _ _ a0, e _ _ a1, e _ _ a2, e _ _ a3, e _ _ a4, e _ _ a5, e _ _ a6, e _ _ a7⟩)
   have HT := hZ hT;have hk0 : (0 : Int) <= k := by omega
   have hk1 : (k : Int) < n := by omega
   obtain ⟨qg, hqg⟩ : ∃ q, q = greatB x.name.data.toList := ⟨_, rfl⟩;obtain ⟨qs, hqs⟩ : ∃ q, q = smallB x.name.data.toList := ⟨_, rfl⟩;obtain ⟨qm, hqm⟩ : ∃ q, q = mayT x.typ := ⟨_, rfl⟩;obtain ⟨qp, hqp⟩ : ∃ q, q = plainT x.typ := ⟨_, rfl⟩;have CG := hZ (fun w' => refGreat_any x.name w' hs);have CS := hZ (fun w' => refSmall_any x.name w' hs);have CM := hZ (fun w' (hb : Below wo.heap.size wo w') => may_any x.typ (.agg #[.int .i64 x.typ.kind, .string x.typ.pkg, .int .i64 x.typ.major, .string x.typ.mod, .string x.typ.name, .slice Bn x.typ.names.length cB, .slice Bs x.typ.subs.length dB]) w' (H9.out x (List.mem_of_getElem? HX.out)) ⟨_, rfl, HT.out.keep hb⟩);have CP := hZ (fun w' (hb : Below wo.heap.size wo w') => plain_any _ x.typ (Nat.le_refl _) (.agg #[.int .i64 x.typ.kind, .string x.typ.pkg, .int .i64 x.typ.major, .string x.typ.mod, .string x.typ.name, .slice Bn x.typ.names.length cB, .slice Bs x.typ.subs.length dB]) w' ⟨_, rfl, HT.out.keep hb⟩);rw [<- hqg] at CG;rw [<- hqs] at CS;rw [<- hqm] at CM;rw [<- hqp] at CP;have HQN : Hid (nameOk true x.name = qg) := hZ (by rw [hqg]; rfl);have HQM := hZ hqm;have HQP := hZ hqp;clear hqg hqs hqm hqp hT hx hs;go_wp2_with fail
   refine (CG.out _).mono ?_; rintro e w2 ⟨rfl, he2⟩
   have HB2 : Hid (Below wo.heap.size wo w2) := hZ (by rw [<- he2]; exact Below.refl _ _);obtain ⟨a0, a1, a2, a3, a4, a5, a6, a7⟩ := HC.out w2 HB2.out;clear he2;go_wp2_with fail
   refine (CS.out _).mono ?_; rintro e w3 ⟨rfl, hb3⟩
   have HB3 := hZ (below_over HB2.out hb3);obtain ⟨a0, a1, a2, a3, a4, a5, a6, a7⟩ := HC.out w3 HB3.out;clear hb3;go_wp2_with fail
   refine (CM.out _ HB3.out).mono ?_; rintro e w4 ⟨rfl, hb4⟩
   have HB4 := hZ (below_over HB3.out hb4);have HBw := hZ (below_over HB.out HB4.out);obtain ⟨a0, a1, a2, a3, a4, a5, a6, a7⟩ := HC.out w4 HB4.out;clear hb4 CG CS CM;cases k with
   | zero =>
    have hp0 : decide ((0 : Int) < ((0 : Nat) : Int)) = false := by decide
    cases qg with
    | false =>
     have RES : V = false := by rw [HV.out]; exact rises_no (i := 0) (by have := HN.out; omega) (by rw [okAt_0 HX.out, HQN.out]; try simp)
     subst RES;go_wp2_with fail
     go_quiet (fail)
     go_wp2_with fail
     go_ret;exact ⟨rfl, below_drewN HBw.out _⟩
    | true =>
     cases qm with
     | false =>
      have RES : V = false := by rw [HV.out]; exact rises_no (i := 0) (by have := HN.out; omega) (by rw [okAt_0 HX.out, HQN.out, <- HQM.out]; try simp)
      subst RES;go_wp2_with fail
      go_quiet (fail)
      go_wp2_with fail
      go_ret;exact ⟨rfl, below_drewN HBw.out _⟩
     | true =>
      go_wp2_with fail
      go_quiet (fail)
      go_wp2_with fail
      refine (CP.out _ (below_drewN HB4.out _)).mono ?_; rintro e w5 ⟨rfl, hb5⟩
      have HB5 := hZ (below_over (below_drewN HBw.out _) hb5);clear a0 a1 a2 a3 a4 a5 a6 a7 hb5 CP;cases qp with
      | false =>
       have RES : V = false := by rw [HV.out]; exact rises_no (i := 0) (by have := HN.out; omega) (by rw [okAt_0 HX.out, HQN.out, <- HQM.out, <- HQP.out]; try simp)
       subst RES;go_wp2_with fail
       go_ret;exact ⟨rfl, HB5.out⟩
      | true =>
       have NX : Hid (∀ i, i < 0 + 1 -> okAt true l i = true) := hZ (fun i hi => by
        rcases Nat.lt_or_ge i (0) with c | c
        ·exact HP.out i c
        ·obtain rfl : i = 0 := by omega
         rw [okAt_0 HX.out, HQN.out, <- HQM.out, <- HQP.out]; try simp)
       go_wp2_with fail
       go_roundw
       case rel => exact ⟨0 + 1, by omega, by go_num, NX, HB5⟩
       case measure => simp [intOf]; omega
   | succ k =>
    obtain ⟨y, hy⟩ : ∃ y, l[k]? = some y := ⟨_, List.getElem?_eq_getElem (by rw [<- HN.out]; omega)⟩;obtain ⟨g', o', Dn, cD, Ds, dD, e', hg', b0, -⟩ := (HR.out.below HBw.out).nm hy;cases e'
    have HY := hZ hy;obtain ⟨ql, hql⟩ : ∃ q, q = leS x.name y.name := ⟨_, rfl⟩;have HQL := hZ hql;have hle : (Op.bytesLess x.name.toList y.name.toList || x.name.toList == y.name.toList) = ql := hql.symm;have hle2 : (!Op.bytesLess y.name.toList x.name.toList) = ql := by rw [<- leS_eq]; exact hql.symm
    have hle3 : Op.bytesLess y.name.toList x.name.toList = !ql := by rw [<- hle2]; simp
    have hp1 : ((k : Nat) : Int) + 1 - 1 = k := by omega
    have hp1' : (((k + 1 : Nat) : Int)) - 1 = k := by omega
    have hp0 : decide ((0 : Int) < ((k + 1 : Nat) : Int)) = true := by simp; try omega
    have hp0' : decide ((0 : Int) < (k : Int) + 1) = true := by simp; try omega
    have hkk0 : (0 : Int) <= (k : Int) := by omega
    have hkk1 : (k : Int) < n := by omega
    clear hql hy hg' ;cases qg with
    | false =>
     have RES : V = false := by rw [HV.out]; exact rises_no (i := k + 1) (by have := HN.out; omega) (by rw [okAt_s HX.out HY.out, HQN.out]; try simp)
     subst RES;go_wp2_with fail
     go_quiet (fail)
     go_wp2_with fail
     go_ret;exact ⟨rfl, below_drewN HBw.out _⟩
    | true =>
     cases qm with
     | false =>
      have RES : V = false := by rw [HV.out]; exact rises_no (i := k + 1) (by have := HN.out; omega) (by rw [okAt_s HX.out HY.out, HQN.out, <- HQM.out]; try simp)
      subst RES;go_wp2_with fail
      go_quiet (fail)
      go_wp2_with fail
      go_ret;exact ⟨rfl, below_drewN HBw.out _⟩
     | true =>
      cases ql with
      | true =>
       have RES : V = false := by rw [HV.out]; exact rises_no (i := k + 1) (by have := HN.out; omega) (by rw [okAt_s HX.out HY.out, HQN.out, <- HQL.out]; try simp)
       subst RES;go_wp2_with fail
       go_quiet (fail)
       go_wp2_with fail
       go_ret;exact ⟨rfl, below_drewN HBw.out _⟩
      | false =>
       go_wp2_with fail
       go_quiet (fail)
       go_wp2_with fail
       refine (CP.out _ (below_drewN HB4.out _)).mono ?_; rintro e w5 ⟨rfl, hb5⟩
       have HB5 := hZ (below_over (below_drewN HBw.out _) hb5);clear a0 a1 a2 a3 a4 a5 a6 a7 hb5 CP b0;cases qp with
       | false =>
        have RES : V = false := by rw [HV.out]; exact rises_no (i := k + 1) (by have := HN.out; omega) (by rw [okAt_s HX.out HY.out, HQN.out, <- HQL.out, <- HQM.out, <- HQP.out]; try simp)
        subst RES;go_wp2_with fail
        go_ret;exact ⟨rfl, HB5.out⟩
       | true =>
        have NX : Hid (∀ i, i < k + 1 + 1 -> okAt true l i = true) := hZ (fun i hi => by
         rcases Nat.lt_or_ge i (k + 1) with c | c
         ·exact HP.out i c
         ·obtain rfl : i = k + 1 := by omega
          rw [okAt_s HX.out HY.out, HQN.out, <- HQL.out, <- HQM.out, <- HQP.out]; try simp)
        go_wp2_with fail
        go_roundw
        case rel => exact ⟨k + 1 + 1, by omega, by go_num, NX, HB5⟩
        case measure => simp [intOf]; omega
  ·have RV : V = true := by rw [HV.out]; exact rises_yes (fun i hi => HP.out i (by have := HN.out; omega))
   subst RV;go_wp2_with fail
   go_ret;exact ⟨rfl, HB.out⟩
theorem named_false (A : Option Addr) (c : Nat) (l : List Nm) (w : World) (hR : RowIn nmR w A l) (hl : l.length <= 9223372036854775807) (h9 : ∀ x ∈ l, many x.typ <= 9000) :
  Calls Tryz.prog 51 #[.slice A l.length c, .bool false] w fun e w' => e = .returned (.bool (risesN false l)) /\ Below w.heap.size w w' := by
 have HR := hZ hR
 have H9 := hZ h9
 obtain ⟨n, hn⟩ : ∃ n, n = l.length := ⟨_, rfl⟩
 have HN := hZ hn
 obtain ⟨V, hV⟩ : ∃ V, V = risesN false l := ⟨_, rfl⟩
 have HV := hZ hV
 rw [<- hn] at hl ⊢
 rw [<- hV]
 clear hR hn hV h9
 go_enter Tryz.func51, Tryz.ntmps51
 go_wp2_with fail
 go_loopw [5] (fun s5 wr => ∃ k : Nat, k <= n /\ s5 = .int .i64 k /\ Hid (∀ i, i < k -> okAt false l i = true) /\ Hid (Below w.heap.size w wr)) (fun s5 _ => n - (intOf s5).toNat)
 case atStart => exact ⟨0, by omega, rfl, hZ (fun i h => by omega), hZ (Below.refl _ _)⟩
 case round =>
  obtain ⟨k, hk, rfl, HP, HB⟩ := hrel;obtain ⟨wo, rfl⟩ : ∃ wo : World, wo = wr := ⟨_, rfl⟩;by_cases hlt : k < n
  ·obtain ⟨x, hx⟩ : ∃ x, l[k]? = some x := ⟨_, List.getElem?_eq_getElem (by rw [<- HN.out]; exact hlt)⟩
   obtain ⟨g, o, Bn, cB, Bs, dB, rfl, hg, a0, a1, a2, a3, a4, a5, a6, a7, hT, hs⟩ := (HR.out.below HB.out).nm hx;have HX := hZ hx
   have HC : Hid (∀ wx, Below wo.heap.size wo wx -> wx.cell? ⟨g, o + k * 8, none⟩ = some (.string x.name) /\ wx.cell? ⟨g, o + k * 8 + 1, none⟩ = some (.int .i64 x.typ.kind) /\ wx.cell? ⟨g, o + k * 8 + 1 + 1, none⟩ = some (.string x.typ.pkg) /\ wx.cell? ⟨g, o + k * 8 + 1 + 2, none⟩ = some (.int .i64 x.typ.major) /\ wx.cell? ⟨g, o + k * 8 + 1 + 3, none⟩ = some (.string x.typ.mod) /\ wx.cell? ⟨g, o + k * 8 + 1 + 4, none⟩ = some (.string x.typ.name) /\ wx.cell? ⟨g, o + k * 8 + 1 + 5, none⟩ = some (.slice Bn x.typ.names.length cB) /\ wx.cell? ⟨g, o + k * 8 + 1 + 6, none⟩ = some (.slice Bs x.typ.subs.length dB)) := hZ (fun wx hb => by
    have e := fun (q : Nat) (v : Value) (hv : wo.cell? ⟨g, q, none⟩ = some v) => (hb.cell (p := ⟨g, q, none⟩) hg).trans hv
    exact ⟨e _ _ a0, e _ _ a1, e _ _ a2, e _ _ a3, e _ _ a4, e _ _ a5, e _ _ a6, e _ _ a7⟩)
   have HT := hZ hT;have hk0 : (0 : Int) <= k := by omega
   have hk1 : (k : Int) < n := by omega
   obtain ⟨qg, hqg⟩ : ∃ q, q = greatB x.name.data.toList := ⟨_, rfl⟩;obtain ⟨qs, hqs⟩ : ∃ q, q = smallB x.name.data.toList := ⟨_, rfl⟩;obtain ⟨qm, hqm⟩ : ∃ q, q = mayT x.typ := ⟨_, rfl⟩;obtain ⟨qp, hqp⟩ : ∃ q, q = plainT x.typ := ⟨_, rfl⟩;have CG := hZ (fun w' => refGreat_any x.name w' hs);have CS := hZ (fun w' => refSmall_any x.name w' hs);have CM := hZ (fun w' (hb : Below wo.heap.size wo w') => may_any x.typ (.agg #[.int .i64 x.typ.kind, .string x.typ.pkg, .int .i64 x.typ.major, .string x.typ.mod, .string x.typ.name, .slice Bn x.typ.names.length cB, .slice Bs x.typ.subs.length dB]) w' (H9.out x (List.mem_of_getElem? HX.out)) ⟨_, rfl, HT.out.keep hb⟩);have CP := hZ (fun w' (hb : Below wo.heap.size wo w') => plain_any _ x.typ (Nat.le_refl _) (.agg #[.int .i64 x.typ.kind, .string x.typ.pkg, .int .i64 x.typ.major, .string x.typ.mod, .string x.typ.name, .slice Bn x.typ.names.length cB, .slice Bs x.typ.subs.length dB]) w' ⟨_, rfl, HT.out.keep hb⟩);rw [<- hqg] at CG;rw [<- hqs] at CS;rw [<- hqm] at CM;rw [<- hqp] at CP;have HQN : Hid (nameOk false x.name = qs) := hZ (by rw [hqs]; rfl);have HQM := hZ hqm;have HQP := hZ hqp;clear hqg hqs hqm hqp hT hx hs;go_wp2_with fail
   refine (CG.out _).mono ?_; rintro e w2 ⟨rfl, he2⟩
   have HB2 : Hid (Below wo.heap.size wo w2) := hZ (by rw [<- he2]; exact Below.refl _ _);obtain ⟨a0, a1, a2, a3, a4, a5, a6, a7⟩ := HC.out w2 HB2.out;clear he2;go_wp2_with fail
   refine (CS.out _).mono ?_; rintro e w3 ⟨rfl, hb3⟩
   have HB3 := hZ (below_over HB2.out hb3);obtain ⟨a0, a1, a2, a3, a4, a5, a6, a7⟩ := HC.out w3 HB3.out;clear hb3;go_wp2_with fail
   refine (CM.out _ HB3.out).mono ?_; rintro e w4 ⟨rfl, hb4⟩
   have HB4 := hZ (below_over HB3.out hb4);have HBw := hZ (below_over HB.out HB4.out);obtain ⟨a0, a1, a2, a3, a4, a5, a6, a7⟩ := HC.out w4 HB4.out;clear hb4 CG CS CM;cases k with
   | zero =>
    have hp0 : decide ((0 : Int) < ((0 : Nat) : Int)) = false := by decide
    cases qs with
    | false =>
     have RES : V = false := by rw [HV.out]; exact rises_no (i := 0) (by have := HN.out; omega) (by rw [okAt_0 HX.out, HQN.out]; try simp)
     subst RES;go_wp2_with fail
     go_quiet (fail)
     go_wp2_with fail
     go_ret;exact ⟨rfl, below_drewN HBw.out _⟩
    | true =>
     cases qm with
     | false =>
      have RES : V = false := by rw [HV.out]; exact rises_no (i := 0) (by have := HN.out; omega) (by rw [okAt_0 HX.out, HQN.out, <- HQM.out]; try simp)
      subst RES;go_wp2_with fail
      go_quiet (fail)
      go_wp2_with fail
      go_ret;exact ⟨rfl, below_drewN HBw.out _⟩
     | true =>
      go_wp2_with fail
      go_quiet (fail)
      go_wp2_with fail
      refine (CP.out _ (below_drewN HB4.out _)).mono ?_; rintro e w5 ⟨rfl, hb5⟩
      have HB5 := hZ (below_over (below_drewN HBw.out _) hb5);clear a0 a1 a2 a3 a4 a5 a6 a7 hb5 CP;cases qp with
      | false =>
       have RES : V = false := by rw [HV.out]; exact rises_no (i := 0) (by have := HN.out; omega) (by rw [okAt_0 HX.out, HQN.out, <- HQM.out, <- HQP.out]; try simp)
       subst RES;go_wp2_with fail
       go_ret;exact ⟨rfl, HB5.out⟩
      | true =>
       have NX : Hid (∀ i, i < 0 + 1 -> okAt false l i = true) := hZ (fun i hi => by
        rcases Nat.lt_or_ge i (0) with c | c
        ·exact HP.out i c
        ·obtain rfl : i = 0 := by omega
         rw [okAt_0 HX.out, HQN.out, <- HQM.out, <- HQP.out]; try simp)
       go_wp2_with fail
       go_roundw
       case rel => exact ⟨0 + 1, by omega, by go_num, NX, HB5⟩
       case measure => simp [intOf]; omega
   | succ k =>
    obtain ⟨y, hy⟩ : ∃ y, l[k]? = some y := ⟨_, List.getElem?_eq_getElem (by rw [<- HN.out]; omega)⟩;obtain ⟨g', o', Dn, cD, Ds, dD, e', hg', b0, -⟩ := (HR.out.below HBw.out).nm hy;cases e'
    have HY := hZ hy;obtain ⟨ql, hql⟩ : ∃ q, q = leS x.name y.name := ⟨_, rfl⟩;have HQL := hZ hql;have hle : (Op.bytesLess x.name.toList y.name.toList || x.name.toList == y.name.toList) = ql := hql.symm;have hle2 : (!Op.bytesLess y.name.toList x.name.toList) = ql := by rw [<- leS_eq]; exact hql.symm
    have hle3 : Op.bytesLess y.name.toList x.name.toList = !ql := by rw [<- hle2]; simp
    have hp1 : ((k : Nat) : Int) + 1 - 1 = k := by omega
    have hp1' : (((k + 1 : Nat) : Int)) - 1 = k := by omega
    have hp0 : decide ((0 : Int) < ((k + 1 : Nat) : Int)) = true := by simp; try omega
    have hp0' : decide ((0 : Int) < (k : Int) + 1) = true := by simp; try omega
    have hkk0 : (0 : Int) <= (k : Int) := by omega
    have hkk1 : (k : Int) < n := by omega
    clear hql hy hg' ;cases qs with
    | false =>
     have RES : V = false := by rw [HV.out]; exact rises_no (i := k + 1) (by have := HN.out; omega) (by rw [okAt_s HX.out HY.out, HQN.out]; try simp)
     subst RES;go_wp2_with fail
     go_quiet (fail)
     go_wp2_with fail
     go_ret;exact ⟨rfl, below_drewN HBw.out _⟩
    | true =>
     cases qm with
     | false =>
      have RES : V = false := by rw [HV.out]; exact rises_no (i := k + 1) (by have := HN.out; omega) (by rw [okAt_s HX.out HY.out, HQN.out, <- HQM.out]; try simp)
      subst RES;go_wp2_with fail
      go_quiet (fail)
      go_wp2_with fail
      go_ret;exact ⟨rfl, below_drewN HBw.out _⟩
     | true =>
      cases ql with
      | true =>
       have RES : V = false := by rw [HV.out]; exact rises_no (i := k + 1) (by have := HN.out; omega) (by rw [okAt_s HX.out HY.out, HQN.out, <- HQL.out]; try simp)
       subst RES;go_wp2_with fail
       go_quiet (fail)
       go_wp2_with fail
       go_ret;exact ⟨rfl, below_drewN HBw.out _⟩
      | false =>
       go_wp2_with fail
       go_quiet (fail)
       go_wp2_with fail
       refine (CP.out _ (below_drewN HB4.out _)).mono ?_; rintro e w5 ⟨rfl, hb5⟩
       have HB5 := hZ (below_over (below_drewN HBw.out _) hb5);clear a0 a1 a2 a3 a4 a5 a6 a7 hb5 CP b0;cases qp with
       | false =>
        have RES : V = false := by rw [HV.out]; exact rises_no (i := k + 1) (by have := HN.out; omega) (by rw [okAt_s HX.out HY.out, HQN.out, <- HQL.out, <- HQM.out, <- HQP.out]; try simp)
        subst RES;go_wp2_with fail
        go_ret;exact ⟨rfl, HB5.out⟩
       | true =>
        have NX : Hid (∀ i, i < k + 1 + 1 -> okAt false l i = true) := hZ (fun i hi => by
         rcases Nat.lt_or_ge i (k + 1) with c | c
         ·exact HP.out i c
         ·obtain rfl : i = k + 1 := by omega
          rw [okAt_s HX.out HY.out, HQN.out, <- HQL.out, <- HQM.out, <- HQP.out]; try simp)
        go_wp2_with fail
        go_roundw
        case rel => exact ⟨k + 1 + 1, by omega, by go_num, NX, HB5⟩
        case measure => simp [intOf]; omega
  ·have RV : V = true := by rw [HV.out]; exact rises_yes (fun i hi => HP.out i (by have := HN.out; omega))
   subst RV;go_wp2_with fail
   go_ret;exact ⟨rfl, HB.out⟩
theorem rmay10_any (x : If) (lx : List Value) (w : World) (hx : ifE w lx x) (h9 : ∀ y ∈ x.types, many y.typ <= 9000) (h9v : ∀ y ∈ x.vals, many y.typ <= 9000) :
  Calls Tryz.prog 26 #[.agg lx.toArray] w fun e w' => e = .returned (.bool (mayIf x)) /\ Below w.heap.size w w' := by
 obtain ⟨At, ct, Av, cv, rfl, z1, z2, z3, z4, hT, hV⟩ := hx
 obtain ⟨W, hW, B, X, sW⟩ := box1 w #[.string x.pkg, .int .i64 x.major, .string x.mod, .slice At x.types.length ct, .slice Av x.vals.length cv] 44
 have HT := hZ hT
 have HV := hZ hV
 have HB := hZ B
 have HW := hZ hW
 have H9 := hZ (And.intro h9 h9v)
 have HX : Hid (∀ wx, Below W.heap.size W wx -> wx.heap[w.heap.size]? = some (.cells #[.string x.pkg, .int .i64 x.major, .string x.mod, .slice At x.types.length ct, .slice Av x.vals.length cv] 44 (0, 0))) := hZ (fun wx hb => (hb.block _ (by omega)).trans X)
 obtain ⟨q1, hq1⟩ : ∃ q, q = smallB x.pkg.data.toList := ⟨_, rfl⟩
 obtain ⟨q2, hq2⟩ : ∃ q, q = smallB x.mod.data.toList := ⟨_, rfl⟩
 obtain ⟨q3, hq3⟩ : ∃ q, q = risesN true x.types := ⟨_, rfl⟩
 obtain ⟨q4, hq4⟩ : ∃ q, q = risesN false x.vals := ⟨_, rfl⟩
 obtain ⟨q5, hq5⟩ : ∃ q, decide ((1 : Int) <= x.major) = q := ⟨_, rfl⟩
 obtain ⟨q6, hq6⟩ : ∃ q, decide (x.major <= (999999999 : Int)) = q := ⟨_, rfl⟩
 have e : mayIf x = (q1 && q2 && q3 && q4 && q5 && q6) := by
  unfold mayIf
  rw [may_open, <- hq1, <- hq2, <- hq3, <- hq4, hq5, hq6];cases q1 <;> cases q2 <;> cases q3 <;> cases q4 <;> cases q5 <;> cases q6 <;> rfl
 rw [e]
 have C1 := hZ (fun w' => refSmall_any x.pkg w' z1)
 have C2 := hZ (fun w' => refSmall_any x.mod w' z2)
 have C3 := hZ (fun w' (hb : Below w.heap.size w w') => named_true At ct x.types w' (HT.out.below hb) z3 H9.out.1)
 have C4 := hZ (fun w' (hb : Below w.heap.size w w') => named_false Av cv x.vals w' (HV.out.below hb) z4 H9.out.2)
 rw [<- hq1] at C1
 rw [<- hq2] at C2
 rw [<- hq3] at C3
 rw [<- hq4] at C4
 obtain ⟨x0, x1, x2, x3, x4⟩ := cq5 X
 simp at x0 x1 x2 x3 x4
 clear hT hV B hW X sW e hq1 hq2 hq3 hq4 h9 h9v
 go_enter Tryz.func26, Tryz.ntmps26
 go_upto_region 1 with fail
 rw [<- HW.out]
 clear HW
 go_wp2_with fail
 refine (C1.out _).mono ?_; rintro e w2 ⟨rfl, hb2⟩
 have HB2w := hZ hb2
 have X2 := HX.out w2 HB2w.out
 clear x0 x1 x2 x3 x4 hb2
 obtain ⟨x0, x1, x2, x3, x4⟩ := cq5 X2
 simp at x0 x1 x2 x3 x4
 clear X2
 go_wp2_with fail
 refine (C2.out _).mono ?_; rintro e w3 ⟨rfl, hb3⟩
 have HB3w := hZ (below_over HB2w.out hb3)
 have X3 := HX.out w3 HB3w.out
 clear x0 x1 x2 x3 x4 hb3
 obtain ⟨x0, x1, x2, x3, x4⟩ := cq5 X3
 simp at x0 x1 x2 x3 x4
 clear X3
 go_wp2_with fail
 refine (C3.out _ (below_over HB.out HB3w.out)).mono ?_; rintro e w4 ⟨rfl, hb4⟩
 have HB4w := hZ (below_over HB3w.out hb4)
 have X4 := HX.out w4 HB4w.out
 clear x0 x1 x2 x3 x4 hb4
 obtain ⟨x0, x1, x2, x3, x4⟩ := cq5 X4
 simp at x0 x1 x2 x3 x4
 clear X4
 go_wp2_with fail
 refine (C4.out _ (below_over HB.out HB4w.out)).mono ?_; rintro e w5 ⟨rfl, hb5⟩
 have HB5w := hZ (below_over HB4w.out hb5)
 have HB5 := hZ (below_over HB.out HB5w.out)
 have X5 := HX.out w5 HB5w.out
 clear x0 x1 x2 x3 x4 hb5 C1 C2 C3 C4
 obtain ⟨x0, x1, x2, x3, x4⟩ := cq5 X5
 simp at x0 x1 x2 x3 x4
 clear X5
 cases q1 with
 | false =>
  go_wp2_with fail
  go_ret;exact ⟨rfl, HB5.out⟩
 | true =>
  cases q2 with
  | false =>
   go_wp2_with fail
   go_ret;exact ⟨rfl, HB5.out⟩
  | true =>
   cases q3 with
   | false =>
    go_wp2_with fail
    go_ret;exact ⟨rfl, HB5.out⟩
   | true =>
    cases q4 with
    | false =>
     go_wp2_with fail
     go_ret;exact ⟨rfl, HB5.out⟩
    | true =>
     cases q5 with
     | false =>
      go_wp2_with fail
      go_ret;exact ⟨rfl, HB5.out⟩
     | true =>
      cases q6 with
      | false =>
       go_wp2_with fail
       go_ret;exact ⟨rfl, HB5.out⟩
      | true =>
       go_wp2_with fail
       go_ret;exact ⟨rfl, HB5.out⟩
end Go.Proofs.YtddlmigofilejaaGreat
