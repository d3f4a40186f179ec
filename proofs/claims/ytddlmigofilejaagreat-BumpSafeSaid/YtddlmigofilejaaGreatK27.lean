/-
  Several texts in one.
-/
import Derived.Test.YtddlmigofilejaaGreatK26
import Derived.ChangeSame
import Derived.WideKeyArgs
import Derived.Test.YtddlmigofilejaaGreatRows
open List (getElem_toArray getElem_cons_succ getElem_cons_zero set_cons_zero set_cons_succ setIfInBounds_toArray)
set_option maxRecDepth 100000
set_option maxHeartbeats 32000000
namespace Go.Proofs.YtddlmigofilejaaGreat
open Go Go.RowKit Go.Shelf
open Go.Sort Go.Maps
open M
theorem evU_nil12 {c a : Int} {v : Value} {w : World} (h : EvU c a v w) : (c = 0 /\ v = .nilIface) \/ (c ≠ 0 /\ ∃ T y, v = .iface T y) := by
 rcases h with h | ⟨h, -, e⟩ | ⟨g, i, b, h, -, -, e, -⟩
 ·exact .inl h
 ·exact .inr ⟨h, _, _, e⟩
 ·exact .inr ⟨h, _, _, e⟩
theorem fewE_len12 {env : List If} (h : fewE env = true) : env.length <= 200 := by
 unfold fewE at h
 simp only [Bool.and_eq_true, decide_eq_true_eq] at h
 exact h.1
theorem env_app {W w6 : World} {a r : List If} {CA CR : List (List Value)} {lo na nr c6 : Nat} {A6 : Option Addr} (hna : na = a.length) (hnr : nr = r.length) (own : w6.ownsRow lo 44 5 (.slice A6 (na + (nr)) c6) (na + (nr)) (CA.flatten ++ CR.flatten))
  (lA : CA.length = a.length) (kA : ∀ y, y ∈ CA -> y.length = ifR.k) (eA : ∀ (i : Nat) (y : List Value) (x : If), CA[i]? = some y -> a[i]? = some x -> ifR.E W y x)
  (lR : CR.length = r.length) (kR : ∀ y, y ∈ CR -> y.length = ifR.k) (eR : ∀ (i : Nat) (y : List Value) (x : If), CR[i]? = some y -> r[i]? = some x -> ifR.E W y x) (hB : Below W.heap.size W w6) : RowIn ifR w6 A6 (a ++ r) := by
 have hle : na + nr = (a ++ r).length := by rw [List.length_append, hna, hnr]
 rw [hle, <- List.flatten_append] at own
 refine RowIn.of_own (R := ifR) own (by rw [List.length_append, List.length_append, lA, lR]) (fun y hy => ?_) (fun i y x h1 h2 => ifR.keep _ _ _ _ ?_ hB)
 ·rcases List.mem_append.1 hy with h | h
  ·exact kA y h
  ·exact kR y h
 ·rcases Nat.lt_or_ge i a.length with h | h
  ·rw [List.getElem?_append_left (by omega)] at h1 h2
   exact eA i y x h1 h2
  ·rw [List.getElem?_append_right (by omega), lA] at h1
   rw [List.getElem?_append_right (by omega)] at h2;exact eR _ y x h1 h2
theorem bumpSafe_any (Aa : Option Addr) (ca : Nat) (Ab : Option Addr) (cb : Nat) (Ar : Option Addr) (cr : Nat) (a b rest : List If) (u : Us) (l : List Value) (w : World) (hA : RowIn ifR w Aa a) (hB : RowIn ifR w Ab b) (hR : RowIn ifR w Ar rest) (hla : a.length <= 9223372036854775807) (hlb : b.length <= 9223372036854775807) (hlr : rest.length <= 9223372036854775807) (hU : UsAt w l u) (hC : CapU l u) :
  Calls Tryz.prog 4 #[.slice Aa a.length ca, .slice Ab b.length cb, .slice Ar rest.length cr, .agg l.toArray] w fun e w' => e = .returned (.bool true) /\ Below w.heap.size w w' := by
 have HU := hZ hU
 have HC := hZ hC
 obtain ⟨Ai, ci, Ad, cd, rfl, -⟩ := hU
 obtain ⟨ni, hni⟩ : ∃ ni, ni = u.imps.length := ⟨_, rfl⟩
 obtain ⟨nd, hnd⟩ : ∃ nd, nd = u.lines.length := ⟨_, rfl⟩
 obtain ⟨na, hna⟩ : ∃ k, k = a.length := ⟨_, rfl⟩
 obtain ⟨nb, hnb⟩ : ∃ k, k = b.length := ⟨_, rfl⟩
 obtain ⟨nr, hnr⟩ : ∃ k, k = rest.length := ⟨_, rfl⟩
 have HNA := hZ hna
 have HNB := hZ hnb
 have HNR := hZ hnr
 obtain ⟨W2, hW2⟩ : ∃ W2, W2 = w.alloc (.cells #[.slice Ai ni ci, .slice Ad nd cd] 40) := ⟨_, rfl⟩
 have B2 : Below w.heap.size w W2 := by rw [hW2]; exact below_new (Below.refl _ _) _
 have O0 : W2.heap[w.heap.size]? = some (.cells #[.slice Ai ni ci, .slice Ad nd cd] 40 (0, 0)) := by rw [hW2]; exact heap_alloc_new w _
 have hl2 : w.heap.size < W2.heap.size := by rw [hW2]; simp
 have HB0 := hZ B2
 have HUX : Hid (∀ wx, Below W2.heap.size W2 wx -> wx.heap[w.heap.size]? = some (.cells #[.slice Ai ni ci, .slice Ad nd cd] 40 (0, 0))) := hZ (fun wx hb => (hb.block _ hl2).trans O0)
 have HUV : Hid (∀ wx, Below W2.heap.size W2 wx -> UsAt wx [.slice Ai ni ci, .slice Ad nd cd] u) := hZ (fun wx hb => by rw [hni, hnd]; exact HU.out.below (below_over HB0.out hb))
 have HCV : Hid (CapU [.slice Ai ni ci, .slice Ad nd cd] u) := hZ (by rw [hni, hnd]; exact HC.out)
 have HAV : Hid (∀ wx, Below W2.heap.size W2 wx -> RowIn ifR wx Aa a) := hZ (fun wx hb => hA.below (below_over HB0.out hb))
 have HBV : Hid (∀ wx, Below W2.heap.size W2 wx -> RowIn ifR wx Ab b) := hZ (fun wx hb => hB.below (below_over HB0.out hb))
 have HRV : Hid (∀ wx, Below W2.heap.size W2 wx -> RowIn ifR wx Ar rest) := hZ (fun wx hb => hR.below (below_over HB0.out hb))
 have UP := hZ (up12_any W2)
 obtain ⟨qa, hqa⟩ : ∃ q, fewE a = q := ⟨_, rfl⟩
 obtain ⟨qb, hqb⟩ : ∃ q, fewE b = q := ⟨_, rfl⟩
 obtain ⟨qr, hqr⟩ : ∃ q, fewE rest = q := ⟨_, rfl⟩
 obtain ⟨qu, hqu⟩ : ∃ q, fewU u = q := ⟨_, rfl⟩
 have FA : Hid (∀ wx, Below W2.heap.size W2 wx -> Calls Tryz.prog 6 #[.slice Aa na ca] wx fun e w' => e = .returned (.bool qa) /\ Below wx.heap.size wx w') := hZ (fun wx hb => by rw [<- hqa, hna]; exact rfew8_any Aa ca a wx (HAV.out wx hb) hla)
 have FB : Hid (∀ wx, Below W2.heap.size W2 wx -> Calls Tryz.prog 6 #[.slice Ab nb cb] wx fun e w' => e = .returned (.bool qb) /\ Below wx.heap.size wx w') := hZ (fun wx hb => by rw [<- hqb, hnb]; exact rfew8_any Ab cb b wx (HBV.out wx hb) hlb)
 have FR : Hid (∀ wx, Below W2.heap.size W2 wx -> Calls Tryz.prog 6 #[.slice Ar nr cr] wx fun e w' => e = .returned (.bool qr) /\ Below wx.heap.size wx w') := hZ (fun wx hb => by rw [<- hqr, hnr]; exact rfew8_any Ar cr rest wx (HRV.out wx hb) hlr)
 have FUU : Hid (∀ wx, Below W2.heap.size W2 wx -> Calls Tryz.prog 15 #[.agg #[.slice Ai ni ci, .slice Ad nd cd]] wx fun e w' => e = .returned (.bool qu) /\ Below wx.heap.size wx w') := hZ (fun wx hb => by rw [<- hqu]; exact rfew11_any u [.slice Ai ni ci, .slice Ad nd cd] wx (HUV.out wx hb))
 have O1 : Hid (qa = true -> qb = true -> ∀ wx, Below W2.heap.size W2 wx -> Calls Tryz.prog 8 #[.slice Aa na ca, .slice Ab nb cb] wx (BoOut a b wx)) := hZ (fun h1 h2 wx hb => by rw [hna, hnb]; exact bumpOf_any Aa ca Ab cb a b wx (HAV.out wx hb) (HBV.out wx hb) hla hlb (fewE_few (hqa.trans h1)) (fewE_few (hqb.trans h2)))
 have NLA : Hid (qa = true -> na <= 200) := hZ (fun h => by rw [hna]; exact fewE_len12 (hqa.trans h))
 have NLB : Hid (qb = true -> nb <= 200) := hZ (fun h => by rw [hnb]; exact fewE_len12 (hqb.trans h))
 have CKA : Hid (∀ (A' : Option Addr) (c' : Nat) (wx : World), na + nr <= 1000 -> Below W2.heap.size W2 wx -> RowIn ifR wx A' (a ++ rest) -> Calls Tryz.prog 16 #[.agg #[.slice Ai ni ci, .slice Ad nd cd], .slice A' (na + nr) c'] wx (CkU u (a ++ rest) wx)) := hZ (fun A' c' wx hle hb hr => by
  have e : na + nr = (a ++ rest).length := by rw [List.length_append, HNA.out, HNR.out]
  rw [e];exact ccheck11_any u (a ++ rest) [.slice Ai ni ci, .slice Ad nd cd] A' c' wx (HUV.out wx hb) HCV.out hr (by rw [<- e]; omega))
 have CKB : Hid (∀ (A' : Option Addr) (c' : Nat) (wx : World), nb + nr <= 1000 -> Below W2.heap.size W2 wx -> RowIn ifR wx A' (b ++ rest) -> Calls Tryz.prog 16 #[.agg #[.slice Ai ni ci, .slice Ad nd cd], .slice A' (nb + nr) c'] wx (CkU u (b ++ rest) wx)) := hZ (fun A' c' wx hle hb hr => by
  have e : nb + nr = (b ++ rest).length := by rw [List.length_append, HNB.out, HNR.out]
  rw [e];exact ccheck11_any u (b ++ rest) [.slice Ai ni ci, .slice Ad nd cd] A' c' wx (HUV.out wx hb) HCV.out hr (by rw [<- e]; omega))
 have HW := hZ hW2
 rw [<- hni, <- hnd, <- hna, <- hnb, <- hnr]
 rw [<- hnr] at hlr
 clear hW2 B2 O0 hA hB hR hla hlb HU HC hni hnd hna hnb hnr hC hqa hqb hqr hqu hl2
 go_enter Tryz.func4, Tryz.ntmps4
 go_upto_region 1 with fail
 rw [<- HW.out]
 clear HW
 go_wp2_with fail
 refine UP.out.mono ?_; rintro e w1 ⟨rfl, hb1⟩
 have HB1 := hZ hb1
 clear hb1 UP
 go_wp2_with fail
 refine (FA.out w1 HB1.out).mono ?_; rintro e w2 ⟨rfl, hb2⟩
 have HB2 := hZ (below_over HB1.out hb2)
 clear hb2 FA
 go_wp2_with fail
 refine (FB.out w2 HB2.out).mono ?_; rintro e w3 ⟨rfl, hb3⟩
 have HB3 := hZ (below_over HB2.out hb3)
 clear hb3 FB
 go_wp2_with fail
 refine (FR.out w3 HB3.out).mono ?_; rintro e w4 ⟨rfl, hb4⟩
 have HB4 := hZ (below_over HB3.out hb4)
 clear hb4 FR
 obtain ⟨x0, x1⟩ := cq2 (HUX.out w4 HB4.out)
 simp at x0 x1
 go_wp2_with fail
 refine (FUU.out w4 HB4.out).mono ?_; rintro e w5 ⟨rfl, hb5⟩
 have HB5 := hZ (below_over HB4.out hb5)
 clear hb5 FUU x0 x1
 cases qa with
 | false =>
  go_wp2_with fail
  go_ret;exact ⟨rfl, below_over HB0.out HB5.out⟩
 | true =>
 cases qb with
 | false =>
  go_wp2_with fail
  go_ret;exact ⟨rfl, below_over HB0.out HB5.out⟩
 | true =>
 cases qr with
 | false =>
  go_wp2_with fail
  go_ret;exact ⟨rfl, below_over HB0.out HB5.out⟩
 | true =>
 cases qu with
 | false =>
  go_wp2_with fail
  go_ret;exact ⟨rfl, below_over HB0.out HB5.out⟩
 | true =>
 by_cases h50 : 50 < nr
 ·have e1 : (50 : Int) < nr := by omega
  have e2 : (nr : Int) > 50 := by omega
  clear h50;go_wp2_with fail
  go_ret;exact ⟨rfl, below_over HB0.out HB5.out⟩
 have e1 : ¬ (50 : Int) < nr := by omega
 have e2 : ¬ (nr : Int) > 50 := by omega
 have hn2a := NLA.out (by trivial)
 have hn2b := NLB.out (by trivial)
 go_wp2_with fail
 refine (O1.out (by trivial) (by trivial) w5 HB5.out).mono ?_
 intro e w6 h
 obtain ⟨hb6, n1, v1, rfl, h1⟩ := bo_cases h
 have HB6 := hZ (below_over HB5.out hb6)
 have HH1 := hZ h1
 clear hb6 h h1 O1 e1 e2
 rcases HH1.out with ⟨-, rfl, -⟩ | ⟨f1, rfl, r1⟩
 ·
  go_wp2_with fail
  go_ret;exact ⟨rfl, below_over HB0.out HB6.out⟩
 have HF1 := hZ (And.intro f1 r1)
 clear f1 r1 HH1
 by_cases hn3 : n1 = 3
 ·subst hn3
  clear HF1;go_wp2_with fail
  go_ret;exact ⟨rfl, below_over HB0.out HB6.out⟩
 have e3 : (n1 == 3) = false := by simpa using hn3
 have HLE : Hid (ofP (chP a b) <= 2) := hZ (by have := ofP_three (chP a b); have := HF1.out.2; omega)
 clear hn3
 rcases Nat.eq_zero_or_pos na with ea | ea
 ·subst ea
  go_wp2_with fail
  go_ret;exact ⟨rfl, below_over HB0.out HB6.out⟩
 have ea0 : ((na : Int) == 0) = false := by simp; omega
 obtain ⟨z, hz⟩ : ∃ z, a[0]? = some z := ⟨_, List.getElem?_eq_getElem (by rw [<- HNA.out]; exact ea)⟩
 have HZ := hZ hz
 clear hz
 go_wp2_with fail
 clear e3 ea0
 go_loopw [16] (fun s16 wr => ∃ k : Nat, k <= nr /\ s16 = .int .i64 k /\ Hid (∀ (i : Nat) (x : If), i < k -> rest[i]? = some x -> ¬ (x.pkg = z.pkg /\ x.major = z.major)) /\ Hid (Below w6.heap.size w6 wr)) (fun s16 _ => nr - (intOf s16).toNat)
 case atStart => exact ⟨0, by omega, rfl, hZ (fun i x h => by omega), hZ (Below.refl _ _)⟩
 case round =>
  obtain ⟨k, hk, rfl, HP, HB⟩ := hrel;obtain ⟨wo, rfl⟩ : ∃ wo : World, wo = wr := ⟨_, rfl⟩;have HBo := hZ (below_over HB6.out HB.out);by_cases hlt : k < nr
  ·obtain ⟨x, hx⟩ : ∃ x, rest[k]? = some x := ⟨_, List.getElem?_eq_getElem (by rw [<- HNR.out]; exact hlt)⟩
   obtain ⟨g, o, A1, c1, A2, c2, rfl, hg, a0, a1, a2, a3, a4, -⟩ := (HRV.out wo HBo.out).ifc2 hx;obtain ⟨g', o', A3, c3, A4, c4, rfl, hg', b0, b1, b2, b3, b4, -⟩ := (HAV.out wo HBo.out).ifc2 HZ.out;simp at b0 b1 b2 b3 b4;have HX := hZ hx;have hk0 : (0 : Int) <= k := by omega
   have hk1 : (k : Int) < nr := by omega
   have ea1 : (0 : Int) < na := by omega
   have hq := str_eq x.pkg z.pkg;obtain ⟨q1, hq1⟩ : ∃ q, q = decide (x.pkg = z.pkg) := ⟨_, rfl⟩;obtain ⟨q2, hq2⟩ : ∃ q, (x.major == z.major) = q := ⟨_, rfl⟩;rw [<- hq1] at hq;have HQ1 := hZ hq1;have HQ2 := hZ hq2;clear hx hg hg' hq1;cases q1 with
   | false =>
    have NX : Hid (∀ (i : Nat) (x : If), i < k + 1 -> rest[i]? = some x -> ¬ (x.pkg = z.pkg /\ x.major = z.major)) := hZ (fun i y hi hy => by
     rcases Nat.lt_or_ge i k with c | c
     ·exact HP.out i y c hy
     ·obtain rfl : i = k := by omega
      rw [HX.out] at hy; cases hy
      rintro ⟨h1, -⟩;exact absurd h1 (of_decide_eq_false HQ1.out.symm))
    go_wp2_with fail
    go_quiet (fail)
    go_wp2_with fail
    go_roundw
    case rel => exact ⟨k + 1, by omega, by go_num, NX, hZ (below_drewN HB.out _)⟩
    case measure => simp [intOf]; omega
   | true =>
    cases q2 with
    | false =>
     have NX : Hid (∀ (i : Nat) (x : If), i < k + 1 -> rest[i]? = some x -> ¬ (x.pkg = z.pkg /\ x.major = z.major)) := hZ (fun i y hi hy => by
      rcases Nat.lt_or_ge i k with c | c
      ·exact HP.out i y c hy
      ·obtain rfl : i = k := by omega
       rw [HX.out] at hy; cases hy
       rintro ⟨-, h1⟩;have := HQ2.out
       rw [h1] at this;simp at this)
     go_wp2_with fail
     go_quiet (fail)
     go_wp2_with fail
     go_roundw
     case rel => exact ⟨k + 1, by omega, by go_num, NX, hZ (below_drewN HB.out _)⟩
     case measure => simp [intOf]; omega
    | true =>
     go_wp2_with fail
     go_quiet (fail)
     go_wp2_with fail
     go_ret;exact ⟨rfl, below_over HB0.out (below_drewN HBo.out _)⟩
  ·obtain rfl : nr = k := by omega
   have NONE : Hid (∀ x ∈ rest, ¬ (x.pkg = z.pkg /\ x.major = z.major)) := hZ (fun x hx => by
    obtain ⟨i, hi⟩ := List.getElem?_of_mem hx;exact HP.out i x (by rw [HNR.out]; exact (List.getElem?_eq_some_iff.1 hi).1) hi)
   have SAFE : Hid (∀ c : Int, UkIs u (a ++ rest) 0 c -> UkIs u (b ++ rest) 0 (-1)) := hZ (fun c h => bump_safe HF1.out.1 HLE.out HZ.out (by rw [<- HNR.out]; omega) NONE.out h);clear HP HB NONE HLE HF1 HZ
   have KU : Hid (∀ wx : World, Below wo.heap.size wo wx -> wx.cell? ⟨w.heap.size, 0, none⟩ = some (.slice Ai ni ci) /\ wx.cell? ⟨w.heap.size, 1, none⟩ = some (.slice Ad nd cd)) := hZ (fun wx hb => by
    have X := HUX.out wx (below_over HBo.out hb);exact ⟨cZ X 0, cZ X 1⟩)
   go_upto_region 16 with fail
   go_cut [17] (fun s17 wx => ∃ (c a0 : Int) (v : Value), s17 = v /\ UkIs u (a ++ rest) c a0 /\ EvU c a0 v wx /\ Below wo.heap.size wo wx)
   case first =>
    have hH0 := KU.out wo.drew (Below.drew (Below.refl _ _));refine AnyX.start (fun wx => wx.cell? ⟨w.heap.size, 0, none⟩ = some (.slice Ai ni ci) /\ wx.cell? ⟨w.heap.size, 1, none⟩ = some (.slice Ad nd cd)) (fun k => decide (6 <= k)) (by kernel_rfl) ?_;refine AnyX.tk (i := 0) (v := ?_) rfl (fun _ _ _ h => h) hH0 (Or.inl ⟨by rfl, ?_⟩) ?_;rotate_left
    ·(intro wS hS; (try obtain ⟨p0, p1⟩ := hS); go_simp; try with_reducible rfl)
    simp only [getElem_toArray, getElem_cons_succ, getElem_cons_zero];simp only [Act.put, setIfInBounds_toArray, set_cons_zero, set_cons_succ];refine AnyX.mv (i := 2) (v := ?_) rfl (fun _ _ _ h => h) (Or.inl ⟨by rfl, ?_⟩) ?_;rotate_left
    ·(intro wS _; go_simp; try with_reducible rfl)
    simp only [getElem_toArray, getElem_cons_succ, getElem_cons_zero];simp only [Act.put, setIfInBounds_toArray, set_cons_zero, set_cons_succ];refine AnyX.mv (i := 4) (v := ?_) rfl (fun _ _ _ h => h) (Or.inl ⟨by rfl, ?_⟩) ?_;rotate_left
    ·(intro wS _; go_simp; try with_reducible rfl)
    simp only [getElem_toArray, getElem_cons_succ, getElem_cons_zero];simp only [Act.put, setIfInBounds_toArray, set_cons_zero, set_cons_succ];clear hH0;obtain ⟨inf, hi1, hy0, hy1, hy2⟩ := info_parts if_info11;obtain ⟨CA, lA, kA, eA, zA, sA⟩ := (HAV.out wo HBo.out).src (by decide);obtain ⟨CR, lR, kR, eR, zR, sR⟩ := (HRV.out wo HBo.out).src (by decide);have hlA : CA.flatten.length = na * 5 := by rw [flatk_len kA, lA, <- HNA.out]; rfl
    have hlR : CR.flatten.length = nr * 5 := by rw [flatk_len kR, lR, <- HNR.out]; rfl
    have hoA := all_one_cells lA eA (fun y z h => if_one h);have hoR := all_one_cells lR eR (fun y z h => if_one h);refine AnyX.go 1 (by kernel_rfl) rfl rfl (fun K hK => ?_);simp only [getElem_toArray, getElem_cons_succ, getElem_cons_zero];go_simp
    obtain ⟨v1, hv1⟩ : ∃ wa, wa = (wo.alloc (.cells #[] 44)).drew := ⟨_, rfl⟩;have hB1 : Below wo.heap.size wo v1 := by rw [hv1]; exact Below.drew (below_new (Below.refl _ _) _)
    have X1 : v1.heap[wo.heap.size]? = some (.cells #[] 44 (0, 0)) := by rw [hv1]; exact heap_alloc_new wo _
    have sz1 : wo.heap.size + 1 <= v1.heap.size /\ v1.heap.size <= wo.heap.size + 1 := by rw [hv1]; simp
    have ge1 : wo.heap.size <= wo.heap.size := Nat.le_refl _;have own1 : v1.ownsRow wo.heap.size 44 5 (.slice (some ⟨wo.heap.size, 0, none⟩) 0 0) 0 [] := by rw [hv1]; exact World.ownsRow_lit (base := wo.heap.size) (e := 44) (size := 5) wo #[] 0 (Nat.le_refl _) (by decide) rfl
    have hHa1 := KU.out v1 hB1;rw [hv1] at hHa1;refine hK.out _ _ (fun hoff _ => hHa1) ?_;clear hK;(try simp only [Act.put, setIfInBounds_toArray, set_cons_zero, set_cons_succ]);rw [<- hv1];clear hHa1 hv1;refine AnyX.go 3 (by kernel_rfl) rfl rfl (fun K hK => ?_);simp only [getElem_toArray, getElem_cons_succ, getElem_cons_zero];refine wp_append_src (.tmp 96) (.tmp 97) 22 rfl (wo.heap.size) 44 inf _ 5 88 Tryz.underlying22 hi1 hy0 hy1 hy2 (by rfl) (Nat.zero_lt_succ 4) (.slice (some ⟨wo.heap.size, 0, none⟩) 0 0) (0) [] rfl own1 Aa (na) (ca) CA.flatten rfl (fun e => by have := zA e; have := HNA.out; omega) hlA (sA _ hB1) hoA (by unfold maxLen; omega) (by omega) (by have := hB1.size; omega) ?_;intro V2 v2 own2 gr2;rw [Nat.zero_add, List.nil_append] at own2;have ob2 : ∀ b, Value.ownBlock (.slice (some ⟨wo.heap.size, 0, none⟩) 0 0) = some b -> wo.heap.size <= b := fun b e => (own1.lt b e).1
    have hB2 : Below wo.heap.size wo v2 := hB1.trans ⟨gr2.os, gr2.tape, gr2.output, gr2.size, fun b hb => gr2.block b (by have := hB1.size; omega) (fun e => by have := ob2 b e.symm; omega)⟩;refine hK.out _ _ (fun hoff _ => KU.out _ hB2) ?_;clear hK;(try simp only [Act.put, setIfInBounds_toArray, set_cons_zero, set_cons_succ]);refine AnyX.go 5 (by kernel_rfl) rfl rfl (fun K hK => ?_);simp only [getElem_toArray, getElem_cons_succ, getElem_cons_zero];refine wp_append_src (.tmp 98) (.tmp 99) 22 rfl (wo.heap.size) 44 inf _ 5 88 Tryz.underlying22 hi1 hy0 hy1 hy2 (by rfl) (Nat.zero_lt_succ 4) V2 (na) CA.flatten rfl own2 Ar (nr) (cr) CR.flatten rfl (fun e => by have := zR e; have := HNR.out; omega) hlR (sR _ hB2) hoR (by unfold maxLen; omega) (by omega) (by have := hB2.size; omega) ?_;intro V3 v3 own3 gr3;have ob3 : ∀ b, Value.ownBlock V2 = some b -> wo.heap.size <= b := fun b e => (own2.lt b e).1
    have hB3 : Below wo.heap.size wo v3 := hB2.trans ⟨gr3.os, gr3.tape, gr3.output, gr3.size, fun b hb => gr3.block b (by have := hB2.size; omega) (fun e => by have := ob3 b e.symm; omega)⟩;obtain ⟨A6, c6, rfl⟩ := own_slice own3;refine hK.out _ _ (fun hoff _ => KU.out _ hB3) ?_;clear hK;(try simp only [Act.put, setIfInBounds_toArray, set_cons_zero, set_cons_succ]);have hrow : RowIn ifR v3 A6 (a ++ rest) := env_app HNA.out HNR.out own3 lA kA eA lR kR eR hB3;refine AnyX.go 6 (by kernel_rfl) rfl rfl (fun K hK => ?_);simp only [getElem_toArray, getElem_cons_succ, getElem_cons_zero];go_simp
    refine (CKA.out A6 c6 v3 (by omega) (below_over HBo.out hB3) hrow).mono ?_; rintro e w99 ⟨c, a0, v, hk, rfl, hev, hb99⟩
    simp only [];refine hK.out _ _ (fun hoff _ => absurd hoff (by decide)) ?_;clear hK;(try simp only [Act.put, setIfInBounds_toArray, set_cons_zero, set_cons_succ]);refine AnyX.mv (i := 7) (v := ?_) rfl (fun _ _ _ h => h) (Or.inl ⟨by rfl, ?_⟩) ?_;rotate_left
    ·(intro wS _; go_simp; try with_reducible rfl)
    simp only [getElem_toArray, getElem_cons_succ, getElem_cons_zero];simp only [Act.put, setIfInBounds_toArray, set_cons_zero, set_cons_succ];refine AnyX.done (by kernel_rfl) ?_ _;go_wp2_with fail
    go_meet
    exact ⟨c, a0, v, rfl, hk, hev, below_over hB3 hb99⟩
   case rest =>
   obtain ⟨c, a0, v, rfl, hk1, hev1, hbc⟩ := hcut;obtain ⟨w7, rfl⟩ : ∃ w7 : World, w7 = wc := ⟨_, rfl⟩;have HB7 := hZ (below_over HBo.out hbc);have HEV := hZ hev1;have HK1 := hZ hk1;clear KU CKA hbc hev1 hk1
   have KU : Hid (∀ wx : World, Below w7.heap.size w7 wx -> wx.cell? ⟨w.heap.size, 0, none⟩ = some (.slice Ai ni ci) /\ wx.cell? ⟨w.heap.size, 1, none⟩ = some (.slice Ad nd cd)) := hZ (fun wx hb => by
    have X := HUX.out wx (below_over HB7.out hb);exact ⟨cZ X 0, cZ X 1⟩)
   go_upto_region 17 with fail
   go_cut [18] (fun s18 wx => ∃ (c a0 : Int) (v : Value), s18 = v /\ UkIs u (b ++ rest) c a0 /\ EvU c a0 v wx /\ Below w7.heap.size w7 wx)
   case first =>
    have hH0 := KU.out w7.drew (Below.drew (Below.refl _ _));refine AnyX.start (fun wx => wx.cell? ⟨w.heap.size, 0, none⟩ = some (.slice Ai ni ci) /\ wx.cell? ⟨w.heap.size, 1, none⟩ = some (.slice Ad nd cd)) (fun k => decide (6 <= k)) (by kernel_rfl) ?_;refine AnyX.tk (i := 0) (v := ?_) rfl (fun _ _ _ h => h) hH0 (Or.inl ⟨by rfl, ?_⟩) ?_;rotate_left
    ·(intro wS hS; (try obtain ⟨p0, p1⟩ := hS); go_simp; try with_reducible rfl)
    simp only [getElem_toArray, getElem_cons_succ, getElem_cons_zero];simp only [Act.put, setIfInBounds_toArray, set_cons_zero, set_cons_succ];refine AnyX.mv (i := 2) (v := ?_) rfl (fun _ _ _ h => h) (Or.inl ⟨by rfl, ?_⟩) ?_;rotate_left
    ·(intro wS _; go_simp; try with_reducible rfl)
    simp only [getElem_toArray, getElem_cons_succ, getElem_cons_zero];simp only [Act.put, setIfInBounds_toArray, set_cons_zero, set_cons_succ];refine AnyX.mv (i := 4) (v := ?_) rfl (fun _ _ _ h => h) (Or.inl ⟨by rfl, ?_⟩) ?_;rotate_left
    ·(intro wS _; go_simp; try with_reducible rfl)
    simp only [getElem_toArray, getElem_cons_succ, getElem_cons_zero];simp only [Act.put, setIfInBounds_toArray, set_cons_zero, set_cons_succ];clear hH0;obtain ⟨inf, hi1, hy0, hy1, hy2⟩ := info_parts if_info11;obtain ⟨CA, lA, kA, eA, zA, sA⟩ := (HBV.out w7 HB7.out).src (by decide);obtain ⟨CR, lR, kR, eR, zR, sR⟩ := (HRV.out w7 HB7.out).src (by decide);have hlA : CA.flatten.length = nb * 5 := by rw [flatk_len kA, lA, <- HNB.out]; rfl
    have hlR : CR.flatten.length = nr * 5 := by rw [flatk_len kR, lR, <- HNR.out]; rfl
    have hoA := all_one_cells lA eA (fun y z h => if_one h);have hoR := all_one_cells lR eR (fun y z h => if_one h);refine AnyX.go 1 (by kernel_rfl) rfl rfl (fun K hK => ?_);simp only [getElem_toArray, getElem_cons_succ, getElem_cons_zero];go_simp
    obtain ⟨v1, hv1⟩ : ∃ wa, wa = (w7.alloc (.cells #[] 44)).drew := ⟨_, rfl⟩;have hB1 : Below w7.heap.size w7 v1 := by rw [hv1]; exact Below.drew (below_new (Below.refl _ _) _)
    have X1 : v1.heap[w7.heap.size]? = some (.cells #[] 44 (0, 0)) := by rw [hv1]; exact heap_alloc_new w7 _
    have sz1 : w7.heap.size + 1 <= v1.heap.size /\ v1.heap.size <= w7.heap.size + 1 := by rw [hv1]; simp
    have ge1 : w7.heap.size <= w7.heap.size := Nat.le_refl _;have own1 : v1.ownsRow w7.heap.size 44 5 (.slice (some ⟨w7.heap.size, 0, none⟩) 0 0) 0 [] := by rw [hv1]; exact World.ownsRow_lit (base := w7.heap.size) (e := 44) (size := 5) w7 #[] 0 (Nat.le_refl _) (by decide) rfl
    have hHa1 := KU.out v1 hB1;rw [hv1] at hHa1;refine hK.out _ _ (fun hoff _ => hHa1) ?_;clear hK;(try simp only [Act.put, setIfInBounds_toArray, set_cons_zero, set_cons_succ]);rw [<- hv1];clear hHa1 hv1;refine AnyX.go 3 (by kernel_rfl) rfl rfl (fun K hK => ?_);simp only [getElem_toArray, getElem_cons_succ, getElem_cons_zero];refine wp_append_src (.tmp 103) (.tmp 104) 22 rfl (w7.heap.size) 44 inf _ 5 88 Tryz.underlying22 hi1 hy0 hy1 hy2 (by rfl) (Nat.zero_lt_succ 4) (.slice (some ⟨w7.heap.size, 0, none⟩) 0 0) (0) [] rfl own1 Ab (nb) (cb) CA.flatten rfl (fun e => by have := zA e; have := HNB.out; omega) hlA (sA _ hB1) hoA (by unfold maxLen; omega) (by omega) (by have := hB1.size; omega) ?_;intro V2 v2 own2 gr2;rw [Nat.zero_add, List.nil_append] at own2;have ob2 : ∀ b, Value.ownBlock (.slice (some ⟨w7.heap.size, 0, none⟩) 0 0) = some b -> w7.heap.size <= b := fun b e => (own1.lt b e).1
    have hB2 : Below w7.heap.size w7 v2 := hB1.trans ⟨gr2.os, gr2.tape, gr2.output, gr2.size, fun b hb => gr2.block b (by have := hB1.size; omega) (fun e => by have := ob2 b e.symm; omega)⟩;refine hK.out _ _ (fun hoff _ => KU.out _ hB2) ?_;clear hK;(try simp only [Act.put, setIfInBounds_toArray, set_cons_zero, set_cons_succ]);refine AnyX.go 5 (by kernel_rfl) rfl rfl (fun K hK => ?_);simp only [getElem_toArray, getElem_cons_succ, getElem_cons_zero];refine wp_append_src (.tmp 105) (.tmp 106) 22 rfl (w7.heap.size) 44 inf _ 5 88 Tryz.underlying22 hi1 hy0 hy1 hy2 (by rfl) (Nat.zero_lt_succ 4) V2 (nb) CA.flatten rfl own2 Ar (nr) (cr) CR.flatten rfl (fun e => by have := zR e; have := HNR.out; omega) hlR (sR _ hB2) hoR (by unfold maxLen; omega) (by omega) (by have := hB2.size; omega) ?_;intro V3 v3 own3 gr3;have ob3 : ∀ b, Value.ownBlock V2 = some b -> w7.heap.size <= b := fun b e => (own2.lt b e).1
    have hB3 : Below w7.heap.size w7 v3 := hB2.trans ⟨gr3.os, gr3.tape, gr3.output, gr3.size, fun b hb => gr3.block b (by have := hB2.size; omega) (fun e => by have := ob3 b e.symm; omega)⟩;obtain ⟨A6, c6, rfl⟩ := own_slice own3;refine hK.out _ _ (fun hoff _ => KU.out _ hB3) ?_;clear hK;(try simp only [Act.put, setIfInBounds_toArray, set_cons_zero, set_cons_succ]);have hrow : RowIn ifR v3 A6 (b ++ rest) := env_app HNB.out HNR.out own3 lA kA eA lR kR eR hB3;refine AnyX.go 6 (by kernel_rfl) rfl rfl (fun K hK => ?_);simp only [getElem_toArray, getElem_cons_succ, getElem_cons_zero];go_simp
    refine (CKB.out A6 c6 v3 (by omega) (below_over HB7.out hB3) hrow).mono ?_; rintro e w99 ⟨c, a0, v, hk, rfl, hev, hb99⟩
    simp only [];refine hK.out _ _ (fun hoff _ => absurd hoff (by decide)) ?_;clear hK;(try simp only [Act.put, setIfInBounds_toArray, set_cons_zero, set_cons_succ]);refine AnyX.mv (i := 7) (v := ?_) rfl (fun _ _ _ h => h) (Or.inl ⟨by rfl, ?_⟩) ?_;rotate_left
    ·(intro wS _; go_simp; try with_reducible rfl)
    simp only [getElem_toArray, getElem_cons_succ, getElem_cons_zero];simp only [Act.put, setIfInBounds_toArray, set_cons_zero, set_cons_succ];refine AnyX.done (by kernel_rfl) ?_ _;go_wp2_with fail
    go_meet
    exact ⟨c, a0, v, rfl, hk, hev, below_over hB3 hb99⟩
   case rest =>
   obtain ⟨c', a1, v', rfl, hk2, hev2, hbc⟩ := hcut;obtain ⟨w8, rfl⟩ : ∃ w8 : World, w8 = wc := ⟨_, rfl⟩;have HB8 := hZ (below_over HB7.out hbc);clear KU CKB hbc;rcases evU_nil12 HEV.out with ⟨rfl, rfl⟩ | ⟨-, T, y, rfl⟩
   ·have h0 : c' = 0 := (hk2.one (SAFE.out _ HK1.out)).1
    subst h0;rcases evU_nil12 hev2 with ⟨-, rfl⟩ | ⟨h, -⟩
    rotate_left
    ·exact absurd rfl h
    clear hk2 hev2;go_wp2_with fail
    go_ret;exact ⟨rfl, below_over HB0.out HB8.out⟩
   ·clear hk2 hev2
    go_wp2_with fail
    go_ret;exact ⟨rfl, below_over HB0.out HB8.out⟩
end Go.Proofs.YtddlmigofilejaaGreat
namespace Go.Proofs.YtddlmigofilejaaGreat
open Go Go.RowKit Go.WideShapes Go.ChangeShapes
section
variable {H : Type} {enc : TypeId × Value -> H} {P : Program}
theorem post_of_below {f : Func} {s : ChangeSpec} {apart fresh handsOn again : Bool} {W W' : World} {args : Array Value} {v : Value} {ds gs : List (DataW H)} {before pa pv : List MemPlace}
    (hW : DataW.Whole enc P f.params.toList s.vars apart W args.toList ds gs before)
    (hres : ∀ (b : Nat) (sp : Nat -> Bool) (hd : Bool), DataW.TrodAll enc P W' b sp hd f.resultTypes.toList (v.resultList f.resultTypes.size) (s.fn H (ds ++ gs)).results [])
    (hargs : ∀ sp : Nat -> Bool, (∀ p ∈ before, sp p.block = true) -> DataW.TrodAll enc P W' 0 sp true f.params.toList args.toList (s.fn H (ds ++ gs)).args pa)
    (hvars : ∀ sp : Nat -> Bool, (∀ p ∈ before, sp p.block = true) -> DataW.TrodVars enc P W' sp s.vars (s.fn H (ds ++ gs)).vars pv)
    (hps : before = pa ++ pv) (hb : Below W.heap.size W W')
    (hok : ∀ (j : Nat) (t : TypeId) (r : Value), f.resultTypes[j]? = some t -> (v.resultList f.resultTypes.size)[j]? = some r -> Value.okWide P W' .any 0 t r) :
    s.post enc P f apart fresh handsOn again W args v W' := by
  have hlt : ∀ p ∈ before, p.block < W.heap.size := fun p hp => hW.lt p hp
  have hold : ∀ p ∈ before, (fun b => decide (b < W.heap.size)) p.block = true := fun p hp => by simpa using hlt p hp
  refine ⟨ds, gs, before, [], pa, pv, hW, hres _ _ _, hargs _ hold, hvars _ hold, World.keptBut_mono (fun p hp => ⟨hp, ?_⟩) (hb.frame (· ∈ before)), fun _ => ?_⟩
  · rw [hps, List.mem_append] at hp
    exact Or.inr hp
  · obtain ⟨_, _, _, _, _, hz, hn⟩ := hW
    refine ⟨hok, _, _, ([] ++ pa) ++ pv, ⟨[] ++ pa, pv, trodAll_append (hargs _ (fun _ _ => rfl)) (hres _ _ _), hvars _ (fun _ _ => rfl), rfl, ?_, ?_⟩, ?_⟩
    · intro b off hp
      have hin : MemPlace.cell b off ∈ before := by rw [hps]; simpa using hp
      rw [hb.frozen (hlt _ hin)];exact hz b off hin
    · intro ha
      have := hn ha
      rw [hps] at this;simpa using this
    · intro p hp _
      rw [hps];simpa using hp
theorem trodAll_stays (hl : laidOutB P = true) {W W' : World} {sp : Nat -> Bool} (hb : Below W.heap.size W W') :
    ∀ (ts : List TypeId) (vs : List Value) (ds : List (DataW H)) (ps : List MemPlace), (∀ t ∈ ts, P.readableRec t = true /\ t < P.types.size) ->
      DataW.TrodAll enc P W 0 (fun _ => true) true ts vs ds ps -> (∀ x ∈ ps, x.block < W.heap.size) -> (∀ x ∈ ps, sp x.block = true) -> DataW.TrodAll enc P W' 0 sp true ts vs ds ps
  | [], vs, ds, ps, _, h, _, _ => by
    obtain ⟨rfl, rfl, rfl⟩ := trodAll_nil h;exact trodAll_mk0
  | t :: ts, vs, ds, ps, ht, h, hlt, hs => by
    obtain ⟨v, vs', d, ds', p, q, rfl, rfl, rfl, h0, h1⟩ := trodAll_cons h;obtain ⟨hr, hrow⟩ := ht t (by simp)
    exact ⟨p, q, WideElems.Trod_stays hl hr hrow h0 (fun x hx => hb.same (hlt x (by simp [hx]))) (fun x hx => hs x (by simp [hx])),
      trodAll_stays hl hb ts vs' ds' q (fun u hu => ht u (by simp [hu])) h1 (fun x hx => hlt x (by simp [hx])) (fun x hx => hs x (by simp [hx])), rfl⟩
theorem law_post {f : Func} {s : ChangeSpec} {apart fresh handsOn again : Bool} {W W' : World} {args : Array Value} {ds gs : List (DataW H)} {before : List MemPlace} {tb : TypeId}
    (hl : laidOutB P = true) (hro : f.params.toList.all (fun t => P.readableRec t && decide (t < P.types.size)) = true) (hres : f.resultTypes = #[tb]) (hbool : P.underlying tb = some .bool) (hvars : s.vars = [])
    (hW : DataW.Whole enc P f.params.toList s.vars apart W args.toList ds gs before) (hb : Below W.heap.size W W')
    (hs : s.fn H (ds ++ gs) = { results := [.lit (.bool true)], args := ds }) :
    s.post enc P f apart fresh handsOn again W args (.bool true) W' := by
  have hW' := hW
  obtain ⟨p, q, hA, hV, hpq, _, _⟩ := hW;rw [hvars] at hV;obtain ⟨rfl, rfl⟩ := trodVars_none hV;rw [List.append_nil] at hpq;subst hpq;have hlt : ∀ x ∈ before, x.block < W.heap.size := fun x hx => hW'.lt x hx
  have hro' : ∀ t ∈ f.params.toList, P.readableRec t = true /\ t < P.types.size := fun t ht => by
    have := List.all_eq_true.1 hro t ht
    simpa using this
  refine post_of_below (pa := before) (pv := []) hW' ?_ ?_ ?_ (by simp) hb ?_
  · intro b sp hd
    rw [hs, hres];exact trodAll_mk1 (shut_bool hbool true)
  · intro sp hsp
    rw [hs];exact trodAll_stays hl hb _ _ _ _ hro' hA hlt hsp
  · intro sp _
    rw [hs, hvars];exact rfl
  · exact ok_one hres rfl (okWide_bool_mk hbool true)
end
end Go.Proofs.YtddlmigofilejaaGreat
namespace Go.Proofs.YtddlmigofilejaaGreat
open Go Go.ChangeShapes Go.WideShapes Go.ChangeAt Go.RowKit Go.Joins
theorem own : ownKnob Tryz.prog.godebug = none := by kernel_rfl
theorem laidOut : laidOutB Tryz.prog = true := by kernel_rfl
end Go.Proofs.YtddlmigofilejaaGreat
