/-
  Several texts in one.
-/
import Derived.Test.YtddlmigofilejaaGreatK15
set_option maxRecDepth 100000
set_option maxHeartbeats 16000000
namespace Go.Proofs.YtddlmigofilejaaGreat
open Go Go.RowKit Go.Shelf
open Go.Sort
open M
def OkR (l : List If) (i : Nat) : Prop := ∀ x z : If, l[i]? = some x -> l[0]? = some z -> mayIf x = true /\ x.pkg = z.pkg /\ x.major = z.major /\ ∀ (k : Nat) (y : If), i = k + 1 -> l[k]? = some y -> LtS y.mod x.mod
theorem okR_may {l : List If} (h0 : l.length <= 20) (h : ∀ i, i < l.length -> OkR l i) : mayPk l = true := by
 refine mayPk_yes h0 fun i hi => ?_
 obtain ⟨x, hx⟩ : ∃ x, l[i]? = some x := ⟨_, List.getElem?_eq_getElem hi⟩
 obtain ⟨z, hz⟩ : ∃ z, l[0]? = some z := ⟨_, List.getElem?_eq_getElem (by omega)⟩
 obtain ⟨h1, h2, h3, h4⟩ := h i hi x z hx hz
 cases i with
 | zero => rw [okPk_0 hx]; exact h1
 | succ k =>
  obtain ⟨y, hy⟩ : ∃ y, l[k]? = some y := ⟨_, List.getElem?_eq_getElem (by omega)⟩;obtain ⟨-, g2, g3, -⟩ := h k (by omega) y z hy hz;rw [okPk_s hx hy, h1, samePk_iff.2 ⟨g2.trans h2.symm, g3.trans h3.symm⟩, decide_eq_true (h4 k y rfl hy)];rfl
theorem may_okR {l : List If} (h : mayPk l = true) (i : Nat) : OkR l i := fun x z hx hz => by
 obtain ⟨h1, h2⟩ := mayPk_first h hz i x hx
 refine ⟨mayPk_may h (List.mem_of_getElem? hx), h1, h2, fun k y e hy => ?_⟩
 subst e
 have := (mayPk_at h).2 (k + 1) (List.getElem?_eq_some_iff.1 hx).1
 rw [okPk_s hx hy, Bool.and_eq_true, Bool.and_eq_true, decide_eq_true_eq] at this
 exact this.2.2
theorem not_okR {l : List If} {i : Nat} (h : ¬ OkR l i) : mayPk l = false := by
 rw [Bool.eq_false_iff]; exact fun e => h (may_okR e i)
def SmallIf (l : List If) : Prop := ∀ x ∈ l, (∀ y ∈ x.types, many y.typ <= 9000) /\ ∀ y ∈ x.vals, many y.typ <= 9000
theorem fewE_small {l : List If} (h : fewE l = true) : SmallIf l := fun x hx => by
 unfold fewE at h
 simp only [Bool.and_eq_true, List.all_eq_true] at h
 have h1 := h.2 x hx
 unfold fewI at h1
 simp only [Bool.and_eq_true, decide_eq_true_eq, List.all_eq_true] at h1
 exact ⟨fun y hy => Nat.le_trans (few_small (t := y.typ) (h1.2.2.1 y hy)) (by decide), fun y hy => Nat.le_trans (few_small (t := y.typ) (h1.2.2.2 y hy)) (by decide)⟩
theorem rmayPk_any (A : Option Addr) (c : Nat) (l : List If) (w : World) (hR : RowIn ifR w A l) (hl : l.length <= 9223372036854775807) (h9 : SmallIf l) :
  Calls Tryz.prog 10 #[.slice A l.length c] w fun e w' => e = .returned (.bool (mayPk l)) /\ Below w.heap.size w w' := by
 have HR := hZ hR
 have H9 := hZ h9
 obtain ⟨n, hn⟩ : ∃ n, n = l.length := ⟨_, rfl⟩
 have HN := hZ hn
 obtain ⟨V, hV⟩ : ∃ V, V = mayPk l := ⟨_, rfl⟩
 have HV := hZ hV
 rw [<- hn] at hl ⊢
 rw [<- hV]
 clear hR hn hV h9
 by_cases h20 : 20 < n
 ·have e1 : (n : Int) > 20 := by omega
  have e2 : (20 : Int) < n := by omega
  have RV : V = false := by rw [HV.out]; exact mayPk_long (by rw [<- HN.out]; exact h20)
  subst RV;go_enter Tryz.func10, Tryz.ntmps10
  go_wp2_with fail
  go_ret;exact ⟨rfl, Below.refl _ _⟩
 have e1 : ¬ (n : Int) > 20 := by omega
 have e2 : ¬ (20 : Int) < n := by omega
 go_enter Tryz.func10, Tryz.ntmps10
 go_wp2_with fail
 clear e1 e2
 go_loopw [3] (fun s3 wr => ∃ k : Nat, k <= n /\ s3 = .int .i64 k /\ Hid (∀ i, i < k -> OkR l i) /\ Hid (Below w.heap.size w wr)) (fun s3 _ => n - (intOf s3).toNat)
 case atStart => exact ⟨0, by omega, rfl, hZ (fun i h => by omega), hZ (Below.refl _ _)⟩
 case round =>
  obtain ⟨k, hk, rfl, HP, HB⟩ := hrel;obtain ⟨wo, rfl⟩ : ∃ wo : World, wo = wr := ⟨_, rfl⟩;by_cases hlt : k < n
  ·obtain ⟨x, hx⟩ : ∃ x, l[k]? = some x := ⟨_, List.getElem?_eq_getElem (by rw [<- HN.out]; exact hlt)⟩
   obtain ⟨z, hz⟩ : ∃ z, l[0]? = some z := ⟨_, List.getElem?_eq_getElem (by rw [<- HN.out]; omega)⟩;obtain ⟨g, o, A1, c1, A2, c2, rfl, hg, a0, a1, a2, a3, a4, hT⟩ := (HR.out.below HB.out).ifc2 hx;have CM := hZ (rmay10_any x [.string x.pkg, .int .i64 x.major, .string x.mod, .slice A1 x.types.length c1, .slice A2 x.vals.length c2] wo hT (H9.out x (List.mem_of_getElem? hx)).1 (H9.out x (List.mem_of_getElem? hx)).2);have HX := hZ hx;have HZ := hZ hz;have hk0 : (0 : Int) <= k := by omega
   have hk1 : (k : Int) < n := by omega
   have hn0 : (0 : Int) < n := by omega
   obtain ⟨q1, hq1⟩ : ∃ q, q = mayIf x := ⟨_, rfl⟩;rw [<- hq1] at CM;have HQ1 := hZ hq1;clear hq1 hT hx hz hg;go_wp2_with fail
   refine CM.out.mono ?_; rintro e w4 ⟨rfl, hb4⟩
   have HB4 := hZ (below_over HB.out hb4);clear a0 a1 a2 a3 a4 CM hb4;obtain ⟨g1, o1, A1', c1', A2', c2', e1, hg, a0, a1, a2, a3, a4, -⟩ := (HR.out.below HB4.out).ifc2 HX.out;cases e1
   obtain ⟨g2, o2, A3, c3, A4, c4, e2, hg', b0, b1, b2, b3, b4, -⟩ := (HR.out.below HB4.out).ifc2 HZ.out;cases e2
   simp at b0 b1 b2 b3 b4;clear hg hg';cases q1 with
   | false =>
    have RES : V = false := by rw [HV.out]; exact not_okR (i := k) (fun h => by have h1 := (h x z HX.out HZ.out).1; rw [<- HQ1.out] at h1; cases h1)
    subst RES;go_wp2_with fail
    go_quiet (fail)
    go_wp2_with fail
    go_ret;exact ⟨rfl, below_drewN HB4.out _⟩
   | true =>
   have hq2 := str_eq x.pkg z.pkg;have hq2' := congrArg not hq2
   by_cases hp : x.pkg = z.pkg
   rotate_left
   ·rw [decide_eq_false hp] at hq2 hq2'
    have RES : V = false := by rw [HV.out]; exact not_okR (i := k) (fun h => hp (h x z HX.out HZ.out).2.1)
    subst RES;clear hp;go_wp2_with fail
    go_quiet (fail)
    go_wp2_with fail
    go_ret;exact ⟨rfl, below_drewN HB4.out _⟩
   rw [decide_eq_true hp] at hq2 hq2';by_cases hj : x.major = z.major
   rotate_left
   ·have hq3 : (x.major == z.major) = false := by simpa using hj
    have hq3' : (x.major != z.major) = true := by simpa using hj
    have RES : V = false := by rw [HV.out]; exact not_okR (i := k) (fun h => hj (h x z HX.out HZ.out).2.2.1)
    subst RES;clear hj hp;go_wp2_with fail
    go_quiet (fail)
    go_wp2_with fail
    go_ret;exact ⟨rfl, below_drewN HB4.out _⟩
   have hq3 : (x.major == z.major) = true := by simpa using hj
   have hq3' : (x.major != z.major) = false := by simpa using hj
   have HPJ := hZ (And.intro hp hj);clear hp hj;cases k with
   | zero =>
    have hp0 : decide ((0 : Int) < ((0 : Nat) : Int)) = false := by decide
    have NX : Hid (∀ i, i < 0 + 1 -> OkR l i) := hZ (fun i hi => by
     obtain rfl : i = 0 := by omega
     intro x' z' hx' hz';rw [HX.out] at hx'; cases hx'
     rw [HZ.out] at hz'; cases hz'
     exact ⟨HQ1.out.symm, HPJ.out.1, HPJ.out.2, fun k y e => absurd e (by omega)⟩)
    simp at a0 a1 a2 a3 a4;go_wp2_with fail
    go_quiet (fail)
    go_wp2_with fail
    go_roundw
    case rel => exact ⟨0 + 1, by omega, by go_num, NX, hZ (below_drewN HB4.out _)⟩
    case measure => simp [intOf]; omega
   | succ k =>
    obtain ⟨y, hy⟩ : ∃ y, l[k]? = some y := ⟨_, List.getElem?_eq_getElem (by rw [<- HN.out]; omega)⟩;obtain ⟨g3, o3, A5, c5, A6, c6, e', hg', d0, d1, d2, d3, d4, -⟩ := (HR.out.below HB4.out).ifc2 hy;cases e'
    have HY := hZ hy;obtain ⟨ql, hql⟩ : ∃ q, q = leS x.mod y.mod := ⟨_, rfl⟩;have HQL := hZ hql;have hle : (Op.bytesLess x.mod.toList y.mod.toList || x.mod.toList == y.mod.toList) = ql := hql.symm;have hle2 : (!Op.bytesLess y.mod.toList x.mod.toList) = ql := by rw [<- leS_eq]; exact hql.symm
    have hle3 : Op.bytesLess y.mod.toList x.mod.toList = !ql := by rw [<- hle2]; simp
    have hp1 : ((k : Nat) : Int) + 1 - 1 = k := by omega
    have hp1' : (((k + 1 : Nat) : Int)) - 1 = k := by omega
    have hp0 : decide ((0 : Int) < ((k + 1 : Nat) : Int)) = true := by simp; try omega
    have hp0' : decide ((0 : Int) < (k : Int) + 1) = true := by simp; try omega
    have hkk0 : (0 : Int) <= (k : Int) := by omega
    have hkk1 : (k : Int) < n := by omega
    have HLT : Hid (ql = !decide (LtS y.mod x.mod)) := hZ (by rw [hql, leS_lts]);clear hql hy hg';cases ql with
    | true =>
     have RES : V = false := by
      rw [HV.out];refine not_okR (i := k + 1) (fun h => ?_);have h1 := (h x z HX.out HZ.out).2.2.2 k y rfl HY.out;have h2 := HLT.out;rw [decide_eq_true h1] at h2; cases h2
     subst RES;go_wp2_with fail
     go_quiet (fail)
     go_wp2_with fail
     go_ret;exact ⟨rfl, below_drewN HB4.out _⟩
    | false =>
     have NX : Hid (∀ i, i < k + 1 + 1 -> OkR l i) := hZ (fun i hi => by
      rcases Nat.lt_or_ge i (k + 1) with c | c
      ·exact HP.out i c
      ·obtain rfl : i = k + 1 := by omega
       intro x' z' hx' hz';rw [HX.out] at hx'; cases hx'
       rw [HZ.out] at hz'; cases hz'
       refine ⟨HQ1.out.symm, HPJ.out.1, HPJ.out.2, fun k' y' e hy' => ?_⟩;obtain rfl : k' = k := by omega
       rw [HY.out] at hy'; cases hy'
       have h2 := HLT.out
       exact of_decide_eq_true (by cases hd : decide (LtS y.mod x.mod) with
        | true => rfl
        | false => rw [hd] at h2; cases h2))
     go_wp2_with fail
     go_quiet (fail)
     go_wp2_with fail
     go_roundw
     case rel => exact ⟨k + 1 + 1, by omega, by go_num, NX, hZ (below_drewN HB4.out _)⟩
     case measure => simp [intOf]; omega
  ·have RV : V = true := by rw [HV.out]; exact okR_may (by rw [<- HN.out]; omega) (fun i hi => HP.out i (by have := HN.out; omega))
   subst RV;go_wp2_with fail
   go_ret;exact ⟨rfl, HB.out⟩
theorem rfair_any (A : Option Addr) (ca : Nat) (B : Option Addr) (cb : Nat) (a b : List If) (w : World) (hA : RowIn ifR w A a) (hB : RowIn ifR w B b) (hla : a.length <= 9223372036854775807) (hlb : b.length <= 9223372036854775807) (h9a : SmallIf a) (h9b : SmallIf b) :
  Calls Tryz.prog 11 #[.slice A a.length ca, .slice B b.length cb] w fun e w' => e = .returned (.bool (fairP a b)) /\ Below w.heap.size w w' := by
 obtain ⟨q1, hq1⟩ : ∃ q, q = mayPk a := ⟨_, rfl⟩
 obtain ⟨q2, hq2⟩ : ∃ q, q = mayPk b := ⟨_, rfl⟩
 have CA : Hid (Calls Tryz.prog 10 #[.slice A a.length ca] w fun e w' => e = .returned (.bool q1) /\ Below w.heap.size w w') := hZ (by rw [hq1]; exact rmayPk_any A ca a w hA hla h9a)
 have CB : Hid (∀ wx, Below w.heap.size w wx -> Calls Tryz.prog 10 #[.slice B b.length cb] wx fun e w' => e = .returned (.bool q2) /\ Below wx.heap.size wx w') := hZ (fun wx hb => by rw [hq2]; exact rmayPk_any B cb b wx (hB.below hb) hlb h9b)
 obtain ⟨V, hV⟩ : ∃ V, V = fairP a b := ⟨_, rfl⟩
 have HV := hZ hV
 have HQ1 := hZ hq1
 have HQ2 := hZ hq2
 have HA := hZ hA
 have HB := hZ hB
 rw [<- hV]
 clear hV hq1 hq2 hA hB
 rcases Nat.eq_zero_or_pos a.length with ea | ea
 ·have HE : Hid (V = (q1 && q2)) := hZ (by rw [HV.out, fairP_nil (.inl ea), HQ1.out, HQ2.out])
  rw [ea] at CA ⊢;obtain ⟨nb, hnb⟩ : ∃ k, k = b.length := ⟨_, rfl⟩;rw [<- hnb] at CB ⊢;clear hla hlb ea hnb;go_enter Tryz.func11, Tryz.ntmps11
  go_wp2_with fail
  refine CA.out.mono ?_; rintro e w1 ⟨rfl, hb1⟩
  have HB1 := hZ hb1;clear hb1 CA;go_wp2_with fail
  refine (CB.out w1 HB1.out).mono ?_; rintro e w2 ⟨rfl, hb2⟩
  have HB2 := hZ (below_over HB1.out hb2);clear hb2 CB;cases q1 with
  | false =>
   have RV : V = false := HE.out;subst RV;go_wp2_with fail
   go_quiet (fail)
   go_wp2_with fail
   go_ret;exact ⟨rfl, below_drewN HB2.out _⟩
  | true =>
  cases q2 with
  | false =>
   have RV : V = false := HE.out;subst RV;go_wp2_with fail
   go_quiet (fail)
   go_wp2_with fail
   go_ret;exact ⟨rfl, below_drewN HB2.out _⟩
  | true =>
   have RV : V = true := HE.out;subst RV;go_wp2_with fail
   go_quiet (fail)
   go_wp2_with fail
   go_ret;exact ⟨rfl, below_drewN HB2.out _⟩
 obtain ⟨x, hx⟩ : ∃ x, a[0]? = some x := ⟨_, List.getElem?_eq_getElem ea⟩
 obtain ⟨na, hna⟩ : ∃ k, k = a.length := ⟨_, rfl⟩
 rw [<- hna] at CA ea ⊢
 have HX := hZ hx
 have ea0 : ((na : Int) == 0) = false := by simp; omega
 have ea1 : (0 : Int) < na := by omega
 rcases Nat.eq_zero_or_pos b.length with eb | eb
 ·have HE : Hid (V = (q1 && q2)) := hZ (by rw [HV.out, fairP_nil (.inr eb), HQ1.out, HQ2.out])
  rw [eb] at CB ⊢;clear hla hlb eb hna hx;go_enter Tryz.func11, Tryz.ntmps11
  go_wp2_with fail
  refine CA.out.mono ?_; rintro e w1 ⟨rfl, hb1⟩
  have HB1 := hZ hb1;clear hb1 CA;go_wp2_with fail
  refine (CB.out w1 HB1.out).mono ?_; rintro e w2 ⟨rfl, hb2⟩
  have HB2 := hZ (below_over HB1.out hb2);clear hb2 CB;cases q1 with
  | false =>
   have RV : V = false := HE.out;subst RV;go_wp2_with fail
   go_quiet (fail)
   go_wp2_with fail
   go_ret;exact ⟨rfl, below_drewN HB2.out _⟩
  | true =>
  cases q2 with
  | false =>
   have RV : V = false := HE.out;subst RV;go_wp2_with fail
   go_quiet (fail)
   go_wp2_with fail
   go_ret;exact ⟨rfl, below_drewN HB2.out _⟩
  | true =>
   have RV : V = true := HE.out;subst RV;go_wp2_with fail
   go_quiet (fail)
   go_wp2_with fail
   go_ret;exact ⟨rfl, below_drewN HB2.out _⟩
 obtain ⟨y, hy⟩ : ∃ y, b[0]? = some y := ⟨_, List.getElem?_eq_getElem eb⟩
 obtain ⟨nb, hnb⟩ : ∃ k, k = b.length := ⟨_, rfl⟩
 rw [<- hnb] at CB eb ⊢
 have HY := hZ hy
 have eb0 : ((nb : Int) == 0) = false := by simp; omega
 have eb1 : (0 : Int) < nb := by omega
 have HE0 : Hid (V = (q1 && (q2 && samePk x y))) := hZ (by rw [HV.out, fairP_eq hx hy, HQ1.out, HQ2.out])
 clear hla hlb hx hy hna hnb
 go_enter Tryz.func11, Tryz.ntmps11
 go_wp2_with fail
 refine CA.out.mono ?_; rintro e w1 ⟨rfl, hb1⟩
 have HB1 := hZ hb1
 clear hb1 CA
 go_wp2_with fail
 refine (CB.out w1 HB1.out).mono ?_; rintro e w2 ⟨rfl, hb2⟩
 have HB2 := hZ (below_over HB1.out hb2)
 clear hb2 CB
 obtain ⟨g, o, A1, c1, A2, c2, e1, hg, a0, a1, a2, a3, a4, -⟩ := (HA.out.below HB2.out).ifc2 HX.out
 subst e1
 obtain ⟨g', o', A3, c3, A4, c4, e2, hg', b0, b1, b2, b3, b4, -⟩ := (HB.out.below HB2.out).ifc2 HY.out
 subst e2
 simp at a0 a1 a2 a3 a4 b0 b1 b2 b3 b4
 clear hg hg'
 cases q1 with
 | false =>
  have HE : Hid (V = false) := hZ HE0.out;have RV : V = false := HE.out;subst RV;go_wp2_with fail
  go_quiet (fail)
  go_wp2_with fail
  go_ret;exact ⟨rfl, below_drewN HB2.out _⟩
 | true =>
 cases q2 with
 | false =>
  have HE : Hid (V = false) := hZ HE0.out;have RV : V = false := HE.out;subst RV;go_wp2_with fail
  go_quiet (fail)
  go_wp2_with fail
  go_ret;exact ⟨rfl, below_drewN HB2.out _⟩
 | true =>
 have hq2 := str_eq x.pkg y.pkg
 by_cases hp : x.pkg = y.pkg
 rotate_left
 ·rw [decide_eq_false hp] at hq2
  have HE : Hid (V = false) := hZ (by rw [HE0.out]; unfold samePk; rw [decide_eq_false hp]; rfl);clear hp;have RV : V = false := HE.out;subst RV;go_wp2_with fail
  go_quiet (fail)
  go_wp2_with fail
  go_ret;exact ⟨rfl, below_drewN HB2.out _⟩
 rw [decide_eq_true hp] at hq2
 obtain ⟨q3, hq3⟩ : ∃ q, (x.major == y.major) = q := ⟨_, rfl⟩
 have HE : Hid (V = q3) := hZ (by rw [HE0.out]; unfold samePk; rw [decide_eq_true hp, hq3]; rfl)
 clear hp
 cases q3 with
 | false =>
  have RV : V = false := HE.out;subst RV;go_wp2_with fail
  go_quiet (fail)
  go_wp2_with fail
  go_ret;exact ⟨rfl, below_drewN HB2.out _⟩
 | true =>
  have RV : V = true := HE.out;subst RV;go_wp2_with fail
  go_quiet (fail)
  go_wp2_with fail
  go_ret;exact ⟨rfl, below_drewN HB2.out _⟩
theorem rowP_at {l : List If} {s : ByteArray} {k : Nat} {x : If} (hx : l[k]? = some x) (hno : ∀ z ∈ l.take k, isMd s z = false) (hq : x.mod = s) (t : Bool) : rowP l s t = rowOf t x :=
 rowP_of (idx_find.2 ⟨k, idx_yes hx hno (decide_eq_true hq), hx⟩) t
theorem rowP_no {l : List If} {s : ByteArray} (hno : ∀ z ∈ l, isMd s z = false) (t : Bool) : rowP l s t = [] := by
 unfold rowP
 have : ofMod l s = none := by
  unfold ofMod
  rw [List.find?_eq_none];intro z hz e;have := hno z hz
  unfold isMd at this
  rw [this] at e; cases e
 rw [this]
theorem rrow_any (A : Option Addr) (c : Nat) (l : List If) (s : ByteArray) (t : Bool) (w0 w : World) (hR : RowIn ifR w0 A l) (hw : Below w0.heap.size w0 w) (hl : l.length <= 9223372036854775807) :
  Calls Tryz.prog 28 #[.slice A l.length c, .string s, .bool t] w fun e w' => ∃ (A' : Option Addr) (c' : Nat), e = .returned (.slice A' (rowP l s t).length c') /\ RowIn nmR w0 A' (rowP l s t) /\ (rowP l s t).length <= 9223372036854775807 /\ w = w' := by
 have HR := hZ hR
 have HW := hZ hw
 obtain ⟨n, hn⟩ : ∃ n, n = l.length := ⟨_, rfl⟩
 have HN := hZ hn
 rw [<- hn] at hl ⊢
 clear hR hn hw
 go_enter Tryz.func28, Tryz.ntmps28
 go_wp2_with fail
 go_loopw [7] (fun s7 wr => ∃ k : Nat, k <= n /\ s7 = .int .i64 k /\ Hid (∀ z ∈ l.take k, isMd s z = false) /\ w = wr) (fun s7 _ => n - (intOf s7).toNat)
 case atStart => exact ⟨0, by omega, rfl, hZ (by simp), rfl⟩
 case round =>
  obtain ⟨k, hk, rfl, HNO, rfl⟩ := hrel;by_cases hlt : k < n
  ·obtain ⟨x, hx⟩ : ∃ x, l[k]? = some x := ⟨_, List.getElem?_eq_getElem (by rw [<- HN.out]; exact hlt)⟩
   obtain ⟨g, o, A1, c1, A2, c2, rfl, hg, e0, e1, e2, e3, e4, z1, z2, z3, z4, rT, rV⟩ := HR.out.ifc hx;have a0 := (HW.out.cell (p := ⟨g, _, none⟩) hg).trans e0;have a1 := (HW.out.cell (p := ⟨g, _, none⟩) hg).trans e1;have a2 := (HW.out.cell (p := ⟨g, _, none⟩) hg).trans e2;have a3 := (HW.out.cell (p := ⟨g, _, none⟩) hg).trans e3;have a4 := (HW.out.cell (p := ⟨g, _, none⟩) hg).trans e4;have HX := hZ hx;have HT := hZ rT;have HVV := hZ rV;have HZ3 := hZ z3;have HZ4 := hZ z4;have hk0 : (0 : Int) <= k := by omega
   have hk1 : (k : Int) < n := by omega
   have hq := str_eq x.mod s;clear hx hg rT rV z1 z2 z3 z4 e0 e1 e2 e3 e4;by_cases hm : x.mod = s
   ·rw [decide_eq_true hm] at hq
    have RW := hZ (rowP_at HX.out HNO.out hm);clear hm;cases t with
    | true =>
     go_wp2_with fail
     go_ret;exact ⟨A1, c1, by rw [RW.out]; rfl, by rw [RW.out]; exact HT.out, by rw [RW.out]; exact HZ3.out, rfl⟩
    | false =>
     go_wp2_with fail
     go_ret;exact ⟨A2, c2, by rw [RW.out]; rfl, by rw [RW.out]; exact HVV.out, by rw [RW.out]; exact HZ4.out, rfl⟩
   ·rw [decide_eq_false hm] at hq
    have NX : Hid (∀ z ∈ l.take (k + 1), isMd s z = false) := hZ (fun z hz => by
     rw [List.take_add_one, HX.out] at hz;rcases List.mem_append.1 hz with h | h
     ·exact HNO.out z h
     ·simp at h; rw [h]; exact decide_eq_false hm)
    clear hm;go_wp2_with fail
    go_roundw
    case rel => exact ⟨k + 1, by omega, by go_num, NX, by trivial⟩
    case measure => simp [intOf]; omega
  ·have RW := hZ (rowP_no (fun z hz => HNO.out z (by rw [List.take_of_length_le (by rw [<- HN.out]; omega)]; exact hz)))
   go_wp2_with fail
   go_ret;exact ⟨none, 0, by rw [RW.out]; rfl, by rw [RW.out]; exact fun i x h => by simp at h, by rw [RW.out]; decide, rfl⟩
theorem ofI_gN {l : List Nm} {s : ByteArray} {k : Nat} {x : Nm} (h : ofI l s = some k) (hx : l[k]? = some x) : (l.find? (isNm s)).isSome = true /\ gN l s = x := by
 have := idx_find.2 ⟨k, h, hx⟩
 exact ⟨by rw [this]; rfl, by unfold gN; rw [this]; rfl⟩
theorem ofI_no {l : List Nm} {s : ByteArray} (h : ofI l s = none) : (l.find? (isNm s)).isSome = false := by
 cases e : l.find? (isNm s) with
 | none => rfl
 | some x =>
  obtain ⟨k, hk, -⟩ := idx_find.1 e;unfold ofI at h
  rw [h] at hk; cases hk
theorem has_find {l : List Nm} {s : ByteArray} (h : s ∈ l.map (·.name)) : (l.find? (isNm s)).isSome = true := by
 obtain ⟨x, hx, e⟩ := List.mem_map.1 h
 rw [List.find?_isSome]
 exact ⟨x, hx, decide_eq_true e⟩
theorem rone_any (t : Bool) (s : ByteArray) (A : Option Addr) (ca : Nat) (B : Option Addr) (cb : Nat) (old now : List Nm) (w : World) (hA : RowIn nmR w A old) (hB : RowIn nmR w B now) (ha : OkN old) (hb : OkN now) (hs : s ∈ old.map (·.name) \/ s ∈ now.map (·.name)) :
  Calls Tryz.prog 29 #[.slice A old.length ca, .slice B now.length cb, .string s, .bool t] w fun e w' => e = .returned (.int .i64 (oneP t s old now)) /\ Below w.heap.size w w' := by
 have C1 := hZ (rof8_any A ca old s w hA (by have := ha.len; omega))
 have C2 : Hid (∀ wx, Below w.heap.size w wx -> Calls Tryz.prog 52 #[.slice B now.length cb, .string s] wx fun e w' => e = .returned (.int .i64 (optN (ofI now s))) /\ Below wx.heap.size wx w') := hZ (fun wx hx => rof8_any B cb now s wx (hB.below hx) (by have := hb.len; omega))
 have HA := hZ hA
 have HB := hZ hB
 have HOA := hZ ha
 have HOB := hZ hb
 have HS := hZ hs
 obtain ⟨V, hV⟩ : ∃ V, V = oneP t s old now := ⟨_, rfl⟩
 have HV := hZ hV
 obtain ⟨na, hna⟩ : ∃ k, k = old.length := ⟨_, rfl⟩
 obtain ⟨nb, hnb⟩ : ∃ k, k = now.length := ⟨_, rfl⟩
 have HNA := hZ hna
 have HNB := hZ hnb
 have hna2 : na <= 20000 := by rw [hna]; exact ha.len
 have hnb2 : nb <= 20000 := by rw [hnb]; exact hb.len
 rw [<- hna] at C1
 rw [<- hnb] at C2
 rw [<- hna, <- hnb, <- hV]
 clear hA hB ha hb hs hV hna hnb
 go_enter Tryz.func29, Tryz.ntmps29
 go_wp2_with fail
 refine C1.out.mono ?_; rintro e w1 ⟨rfl, hb1⟩
 have HB1 := hZ hb1
 clear hb1 C1
 go_wp2_with fail
 refine (C2.out w1 HB1.out).mono ?_; rintro e w2 ⟨rfl, hb2⟩
 have HB2 := hZ (below_over HB1.out hb2)
 clear hb2 C2
 cases hi : ofI old s with
 | none =>
  have F1 := ofI_no hi
  have RV : V = 4 := by
   rw [HV.out];refine oneP_new ?_ F1;rcases HS.out with h | h
   ·rw [has_find h] at F1; cases F1
   ·exact has_find h
  subst RV;rw [show optN none = -1 from rfl];clear hi F1;go_wp2_with fail
  go_ret;exact ⟨rfl, HB2.out⟩
 | some i =>
 obtain ⟨x, hx⟩ : ∃ x, old[i]? = some x := ⟨_, List.getElem?_eq_getElem (ofI_lt hi)⟩
 obtain ⟨F1, G1⟩ := ofI_gN hi hx
 rw [show optN (some i) = (i : Int) from rfl]
 have hi0 : ¬ ((i : Int) < 0) := by omega
 cases hj : ofI now s with
 | none =>
  have F2 := ofI_no hj;have RV : V = 1 := by rw [HV.out]; exact oneP_gone F2
  subst RV;rw [show optN none = -1 from rfl];clear hi hj F1 F2 G1 hx;go_wp2_with fail
  go_ret;exact ⟨rfl, HB2.out⟩
 | some j =>
 obtain ⟨y, hy⟩ : ∃ y, now[j]? = some y := ⟨_, List.getElem?_eq_getElem (ofI_lt hj)⟩
 obtain ⟨F2, G2⟩ := ofI_gN hj hy
 rw [show optN (some j) = (j : Int) from rfl]
 have hj0 : ¬ ((j : Int) < 0) := by omega
 have HV2 : Hid (V = if sameT x.typ y.typ = true then 0 else if t = false /\ subB y.typ x.typ = true then 3 else 2) := hZ (by rw [HV.out, oneP_both F2 F1, G1, G2])
 have hi1 : (0 : Int) <= i := by omega
 have hi2 : (i : Int) < na := by have := ofI_lt hi; have := HNA.out; omega
 have hj1 : (0 : Int) <= j := by omega
 have hj2 : (j : Int) < nb := by have := ofI_lt hj; have := HNB.out; omega
 obtain ⟨mx, px⟩ := HOA.out.ok x (List.mem_of_getElem? hx)
 obtain ⟨my, py⟩ := HOB.out.ok y (List.mem_of_getElem? hy)
 obtain ⟨g, o, A1, c1, A2, c2, rfl, hg, a0, a1, a2, a3, a4, a5, a6, a7, hTx, -⟩ := (HA.out.below HB2.out).nm hx
 obtain ⟨g', o', A3, c3, A4, c4, rfl, hg', b0, b1, b2, b3, b4, b5, b6, b7, hTy, -⟩ := (HB.out.below HB2.out).nm hy
 have HTX := hZ hTx
 have HTY := hZ hTy
 obtain ⟨r1, hr1⟩ : ∃ r, sameT x.typ y.typ = r := ⟨_, rfl⟩
 have cS : ∀ dd os, Calls Tryz.prog 53 #[.agg #[.int .i64 x.typ.kind, .string x.typ.pkg, .int .i64 x.typ.major, .string x.typ.mod, .string x.typ.name, .slice A1 x.typ.names.length c1, .slice A2 x.typ.subs.length c2], .agg #[.int .i64 y.typ.kind, .string y.typ.pkg, .int .i64 y.typ.major, .string y.typ.mod, .string y.typ.name, .slice A3 y.typ.names.length c3, .slice A4 y.typ.subs.length c4]] (Sort.grow (redrawn w2 dd) os) fun e w'' => e = .returned (.bool r1) /\ ∃ pp : Regrown, w'' = Sort.grow (redrawn w2 pp.d) pp.os := fun dd os => Calls.regrown_of (by
  rw [<- hr1]; exact same_any (many x.typ) x.typ y.typ (Nat.le_refl _) _ _ _ ⟨_, rfl, HTX.out.keep (below_regrown w2 dd os)⟩ ⟨_, rfl, HTY.out.keep (below_regrown w2 dd os)⟩)
 have HR1 := hZ hr1
 have CX : Hid (∀ j v, [Value.string x.name, .int .i64 x.typ.kind, .string x.typ.pkg, .int .i64 x.typ.major, .string x.typ.mod, .string x.typ.name, .slice A1 x.typ.names.length c1, .slice A2 x.typ.subs.length c2][j]? = some v -> w2.cell? ⟨g, o + i * 8 + j, none⟩ = some v) := hZ (fun j v hv => by
  match j, hv with
  | 0, hv => simp at hv; subst hv; exact a0
  | 1, hv => simp at hv; subst hv; exact a1
  | 2, hv => simp at hv; subst hv; exact a2
  | 3, hv => simp at hv; subst hv; exact a3
  | 4, hv => simp at hv; subst hv; exact a4
  | 5, hv => simp at hv; subst hv; exact a5
  | 6, hv => simp at hv; subst hv; exact a6
  | 7, hv => simp at hv; subst hv; exact a7
  | j + 8, hv => simp at hv)
 have SB : Hid (∀ wx, Below w2.heap.size w2 wx -> Calls Tryz.prog 54 #[.agg #[.int .i64 y.typ.kind, .string y.typ.pkg, .int .i64 y.typ.major, .string y.typ.mod, .string y.typ.name, .slice A3 y.typ.names.length c3, .slice A4 y.typ.subs.length c4], .agg #[.int .i64 x.typ.kind, .string x.typ.pkg, .int .i64 x.typ.major, .string x.typ.mod, .string x.typ.name, .slice A1 x.typ.names.length c1, .slice A2 x.typ.subs.length c2]] wx fun e w' => e = .returned (.bool (subB y.typ x.typ)) /\ Below wx.heap.size wx w') := hZ (fun wx hb => rsub_any (many y.typ + many x.typ) y.typ x.typ (Nat.le_refl _) (may_9000 my) (may_9000 mx) (good_of_may my py) (good_of_may mx px) [.int .i64 y.typ.kind, .string y.typ.pkg, .int .i64 y.typ.major, .string y.typ.mod, .string y.typ.name, .slice A3 y.typ.names.length c3, .slice A4 y.typ.subs.length c4] [.int .i64 x.typ.kind, .string x.typ.pkg, .int .i64 x.typ.major, .string x.typ.mod, .string x.typ.name, .slice A1 x.typ.names.length c1, .slice A2 x.typ.subs.length c2] wx (HTY.out.keep hb) (HTX.out.keep hb))
 have KA : Hid (∀ wx, Below w2.heap.size w2 wx -> RowIn nmR wx (some ⟨g, o, none⟩) old /\ RowIn nmR wx (some ⟨g', o', none⟩) now) := hZ (fun wx hb => ⟨(HA.out.below HB2.out).below hb, (HB.out.below HB2.out).below hb⟩)
 have KX : Hid (∀ wx, Below w2.heap.size w2 wx -> ∀ q, q < 8 -> wx.cell? ⟨g, o + i * 8 + q, none⟩ = w2.cell? ⟨g, o + i * 8 + q, none⟩) := hZ (fun wx hb q _ => hb.cell (p := ⟨g, _, none⟩) hg)
 have KY : Hid (∀ wx, Below w2.heap.size w2 wx -> ∀ q, q < 8 -> wx.cell? ⟨g', o' + j * 8 + q, none⟩ = w2.cell? ⟨g', o' + j * 8 + q, none⟩) := hZ (fun wx hb q _ => hb.cell (p := ⟨g', _, none⟩) hg')
 have HAS := hZ (And.intro a1 (And.intro a2 (And.intro a3 (And.intro a4 (And.intro a5 (And.intro a6 a7))))))
 have HBS := hZ (And.intro b1 (And.intro b2 (And.intro b3 (And.intro b4 (And.intro b5 (And.intro b6 b7))))))
 have HGG := hZ (And.intro hg hg')
 have p1 := cell_regrown a1
 have p2 := cell_regrown a2
 have p3 := cell_regrown a3
 have p4 := cell_regrown a4
 have p5 := cell_regrown a5
 have p6 := cell_regrown a6
 have p7 := cell_regrown a7
 have r1' := cell_regrown b1
 have r2' := cell_regrown b2
 have r3' := cell_regrown b3
 have r4' := cell_regrown b4
 have r5' := cell_regrown b5
 have r6' := cell_regrown b6
 have r7' := cell_regrown b7
 clear hi hj hx hy F1 F2 G1 G2 mx px my py hTx hTy hg hg' hr1 a0 a1 a2 a3 a4 a5 a6 a7 b0 b1 b2 b3 b4 b5 b6 b7 KA KX KY CX
 go_upto_region 7 with fail
 refine wp_region_quiet_below (by kernel_rfl) (by kernel_rfl) ?_
 repeat (any_goals (first | go_big_quiet_step (first | with_reducible exact cS _ _) | quiet_step (first | with_reducible exact cS _ _)))
 refine wpQuiet_nil ?_
 intro w3 hw'
 have HB23 : Hid (Below w2.heap.size w2 w3) := hZ (by
  obtain ⟨⟨dq, osq⟩, hw''⟩ := hw';rw [hw''];exact below_regrown w2 dq osq)
 clear hw' cS p1 p2 p3 p4 p5 p6 p7 r1' r2' r3' r4' r5' r6' r7'
 cases r1 with
 | true =>
  have RV : V = 0 := by rw [HV2.out, if_pos HR1.out]
  subst RV;go_wp2_with fail
  go_ret;exact ⟨rfl, below_over HB2.out HB23.out⟩
 | false =>
 obtain ⟨r2, hr2⟩ : ∃ r, subB y.typ x.typ = r := ⟨_, rfl⟩
 have cU : ∀ dd os, Calls Tryz.prog 54 #[.agg #[.int .i64 y.typ.kind, .string y.typ.pkg, .int .i64 y.typ.major, .string y.typ.mod, .string y.typ.name, .slice A3 y.typ.names.length c3, .slice A4 y.typ.subs.length c4], .agg #[.int .i64 x.typ.kind, .string x.typ.pkg, .int .i64 x.typ.major, .string x.typ.mod, .string x.typ.name, .slice A1 x.typ.names.length c1, .slice A2 x.typ.subs.length c2]] (Sort.grow (redrawn w3 dd) os) fun e w'' => e = .returned (.bool r2) /\ ∃ pp : Regrown, w'' = Sort.grow (redrawn w3 pp.d) pp.os := fun dd os => Calls.regrown_of (by
  rw [<- hr2]; exact SB.out _ (below_over HB23.out (below_regrown w3 dd os)))
 have HR2 := hZ hr2
 have p1 := cell_regrown ((HB23.out.cell (p := ⟨g, _, none⟩) HGG.out.1).trans HAS.out.1)
 have r1' := cell_regrown ((HB23.out.cell (p := ⟨g', _, none⟩) HGG.out.2).trans HBS.out.1)
 have p2 := cell_regrown ((HB23.out.cell (p := ⟨g, _, none⟩) HGG.out.1).trans HAS.out.2.1)
 have r2' := cell_regrown ((HB23.out.cell (p := ⟨g', _, none⟩) HGG.out.2).trans HBS.out.2.1)
 have p3 := cell_regrown ((HB23.out.cell (p := ⟨g, _, none⟩) HGG.out.1).trans HAS.out.2.2.1)
 have r3' := cell_regrown ((HB23.out.cell (p := ⟨g', _, none⟩) HGG.out.2).trans HBS.out.2.2.1)
 have p4 := cell_regrown ((HB23.out.cell (p := ⟨g, _, none⟩) HGG.out.1).trans HAS.out.2.2.2.1)
 have r4' := cell_regrown ((HB23.out.cell (p := ⟨g', _, none⟩) HGG.out.2).trans HBS.out.2.2.2.1)
 have p5 := cell_regrown ((HB23.out.cell (p := ⟨g, _, none⟩) HGG.out.1).trans HAS.out.2.2.2.2.1)
 have r5' := cell_regrown ((HB23.out.cell (p := ⟨g', _, none⟩) HGG.out.2).trans HBS.out.2.2.2.2.1)
 have p6 := cell_regrown ((HB23.out.cell (p := ⟨g, _, none⟩) HGG.out.1).trans HAS.out.2.2.2.2.2.1)
 have r6' := cell_regrown ((HB23.out.cell (p := ⟨g', _, none⟩) HGG.out.2).trans HBS.out.2.2.2.2.2.1)
 have p7 := cell_regrown ((HB23.out.cell (p := ⟨g, _, none⟩) HGG.out.1).trans HAS.out.2.2.2.2.2.2)
 have r7' := cell_regrown ((HB23.out.cell (p := ⟨g', _, none⟩) HGG.out.2).trans HBS.out.2.2.2.2.2.2)
 clear hr2
 go_upto_region 10 with fail
 refine wp_region_quiet_below (by kernel_rfl) (by kernel_rfl) ?_
 repeat (any_goals (first | go_big_quiet_step (first | with_reducible exact cU _ _) | quiet_step (first | with_reducible exact cU _ _)))
 refine wpQuiet_nil ?_
 intro w4 hw'
 have HB4 : Hid (Below w.heap.size w w4) := hZ (by
  obtain ⟨⟨dq, osq⟩, hw''⟩ := hw';rw [hw''];exact below_over HB2.out (below_over HB23.out (below_regrown w3 dq osq)))
 clear hw' cU p1 p2 p3 p4 p5 p6 p7 r1' r2' r3' r4' r5' r6' r7'
 cases t with
 | true =>
  have RV : V = 2 := by rw [HV2.out, if_neg (by rw [HR1.out]; decide), if_neg (by rintro ⟨h, -⟩; cases h)]
  subst RV;go_wp2_with fail
  go_ret;exact ⟨rfl, HB4.out⟩
 | false =>
  cases r2 with
  | true =>
   have RV : V = 3 := by rw [HV2.out, if_neg (by rw [HR1.out]; decide), if_pos (by first | exact ⟨rfl, HR2.out⟩ | exact ⟨trivial, HR2.out⟩)]
   subst RV;go_wp2_with fail
   go_ret;exact ⟨rfl, HB4.out⟩
  | false =>
   have RV : V = 2 := by rw [HV2.out, if_neg (by rw [HR1.out]; decide), if_neg (by rw [HR2.out]; rintro ⟨-, h⟩; cases h)]
   subst RV;go_wp2_with fail
   go_ret;exact ⟨rfl, HB4.out⟩
theorem rbump_any (A : Option Addr) (c : Nat) (cs : List Ch) (w : World) (hR : RowIn chR w A cs) (hl : cs.length <= 9223372036854775807) (hk1 : ∀ x ∈ cs, 1 <= x.kind) :
  Calls Tryz.prog 14 #[.slice A cs.length c] w fun e w' => e = .returned (.int .i64 (ofP cs)) /\ Below w.heap.size w w' := by
 have HR := hZ hR
 have HK := hZ hk1
 obtain ⟨n, hn⟩ : ∃ n, n = cs.length := ⟨_, rfl⟩
 have HN := hZ hn
 obtain ⟨V, hV⟩ : ∃ V, V = ofP cs := ⟨_, rfl⟩
 have HV := hZ hV
 rw [<- hn] at hl ⊢
 rw [<- hV]
 clear hR hn hV hk1
 go_enter Tryz.func14, Tryz.ntmps14
 go_wp2_with fail
 go_loopw [3, 4] (fun s3 s4 wr => ∃ (k : Nat) (m : Int), k <= n /\ s4 = .int .i64 k /\ s3 = .int .i64 m /\ Hid (m = ofP (cs.take k)) /\ Hid (∀ x ∈ cs.take k, 2 < x.kind) /\ w = wr) (fun _ s4 _ => n - (intOf s4).toNat)
 case atStart => exact ⟨0, 1, by omega, rfl, rfl, hZ (by simp [ofP]), hZ (by simp), rfl⟩
 case round =>
  obtain ⟨k, m, hk, rfl, rfl, HM, HG, rfl⟩ := hrel;by_cases hlt : k < n
  ·obtain ⟨x, hx⟩ : ∃ x, cs[k]? = some x := ⟨_, List.getElem?_eq_getElem (by rw [<- HN.out]; exact hlt)⟩
   obtain ⟨g, o, rfl, hg, a0, a1, a2, a3⟩ := HR.out.ch hx;have HX := hZ hx;have hk0 : (0 : Int) <= k := by omega
   have hk1 : (k : Int) < n := by omega
   clear hx hg;by_cases h2 : x.kind <= 2
   ·have RV : V = 3 := by
     have h1 := HK.out x (List.mem_of_getElem? HX.out);have h3 := ofP_three cs;have h4 := (ofP_le (l := cs) (z := ofP cs) (ofP_pos cs)).1 (Int.le_refl _) x (List.mem_of_getElem? HX.out);have h5 : stepP x.kind = 3 := by unfold stepP; rw [if_pos (by omega)]
     have := HV.out; omega
    subst RV;go_wp2_with fail
    go_ret;exact ⟨rfl, Below.refl _ _⟩
   ·have NM : Hid ((2 : Int) = ofP (cs.take (k + 1))) := hZ (by
     have h5 : stepP x.kind = 2 := by unfold stepP; rw [if_neg (by omega)]
     have h6 : ofP (cs.take k) <= 2 := (ofP_le (by decide)).2 fun c hc => by
      have := HG.out c hc
      unfold stepP; rw [if_neg (by omega)]; decide
     have h7 := HM.out;rw [List.take_add_one, HX.out];show 2 = ofP (cs.take k ++ [x])
     have h8 : ofP (cs.take k ++ [x]) = max (ofP (cs.take k)) (stepP x.kind) := by simp [ofP]
     rw [h8, h5]; omega)
    have NG : Hid (∀ x ∈ cs.take (k + 1), 2 < x.kind) := hZ (fun z hz => by
     rw [List.take_add_one, HX.out] at hz;rcases List.mem_append.1 hz with h | h
     ·exact HG.out z h
     ·simp at h; rw [h]; omega)
    go_wp2_with fail
    go_roundw
    case rel => exact ⟨k + 1, 2, by omega, by go_num, rfl, NM, NG, by trivial⟩
    case measure => simp [intOf]; omega
  ·have RV : m = V := by rw [HM.out, List.take_of_length_le (by rw [<- HN.out]; omega), HV.out]
   subst RV;go_wp2_with fail
   go_ret;exact ⟨rfl, Below.refl _ _⟩
theorem rsame12_any (A : Option Addr) (ca : Nat) (B : Option Addr) (cb : Nat) (cs : List Ch) (w : World) (hA : RowIn chR w A cs) (hB : RowIn chR w B cs) (hl : cs.length <= 9223372036854775807) :
  Calls Tryz.prog 13 #[.slice A cs.length ca, .slice B cs.length cb] w fun e w' => e = .returned (.bool true) /\ Below w.heap.size w w' := by
 have HA := hZ hA
 have HB := hZ hB
 obtain ⟨n, hn⟩ : ∃ n, n = cs.length := ⟨_, rfl⟩
 have HN := hZ hn
 rw [<- hn] at hl ⊢
 clear hA hB hn
 go_enter Tryz.func13, Tryz.ntmps13
 go_wp2_with fail
 go_loopw [5] (fun s5 wr => ∃ k : Nat, k <= n /\ s5 = .int .i64 k /\ Hid (Below w.heap.size w wr)) (fun s5 _ => n - (intOf s5).toNat)
 case atStart => exact ⟨0, by omega, rfl, hZ (Below.refl _ _)⟩
 case round =>
  obtain ⟨k, hk, rfl, HBB⟩ := hrel;obtain ⟨wo, rfl⟩ : ∃ wo : World, wo = wr := ⟨_, rfl⟩;by_cases hlt : k < n
  ·obtain ⟨x, hx⟩ : ∃ x, cs[k]? = some x := ⟨_, List.getElem?_eq_getElem (by rw [<- HN.out]; exact hlt)⟩
   obtain ⟨g, o, rfl, hg, a0, a1, a2, a3⟩ := (HA.out.below HBB.out).ch hx;obtain ⟨g', o', rfl, hg', b0, b1, b2, b3⟩ := (HB.out.below HBB.out).ch hx;have hk0 : (0 : Int) <= k := by omega
   have hk1 : (k : Int) < n := by omega
   clear hx hg hg';go_wp2_with fail
   go_quiet (fail)
   go_wp2_with fail
   go_roundw
   case rel => exact ⟨k + 1, by omega, by go_num, hZ (below_drewN HBB.out _)⟩
   case measure => simp [intOf]; omega
  ·go_wp2_with fail
   go_ret;exact ⟨rfl, HBB.out⟩
end Go.Proofs.YtddlmigofilejaaGreat
