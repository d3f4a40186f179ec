/-
  Several texts in one.
-/
import Derived.Test.YteecgiebimdbhaaGreatDoorK28
set_option maxRecDepth 100000
set_option maxHeartbeats 16000000
namespace Go.Proofs.YteecgiebimdbhaaGreatDoor
open Go.RowKit
open Go.Sort
open M
theorem indexL11_any (A : Option Addr) (c n : Nat) (xs : List Ln) (w : World) (hn : xs.length = n) (hz : n <= 9223372036854775807) (hS : RowIn lnR w A xs) :
    Calls Tryz.prog 60 #[.slice A n c, .func (.func 31) #[] #[]] w fun e w' => ∃ r : Int, e = .returned (.int .i64 r) /\ decide (0 <= r) = !xs.all mayLn /\ Below w.heap.size w w' := by
  have HS := hZ hS;have HN := hZ hn;clear hS hn;go_enter Tryz.func60, Tryz.ntmps60
  go_wp2_with fail
  go_loopw [8] (fun i wr => ∃ k : Nat, k <= n /\ i = .int .i64 k /\ Hid ((xs.take k).all mayLn = true) /\ Below w.heap.size w wr) (fun i _ => n - (intOf i).toNat)
  case atStart => exact ⟨0, by omega, rfl, hZ (by simp), Below.refl _ _⟩
  case round =>
    obtain ⟨k, hk, rfl, HP, hb⟩ := hrel;obtain ⟨wo, rfl⟩ : ∃ wo : World, wo = wr := ⟨_, rfl⟩;by_cases hlt : k < n
    · obtain ⟨x, hx⟩ : ∃ x, xs[k]? = some x := ⟨_, List.getElem?_eq_getElem (by rw [HN.out]; exact hlt)⟩
      obtain ⟨g, o, v0, v1, v2, v3, v4, v5, v6, rfl, -, a0, am, a1, u0, u1, u2, u3, u4, u5, u6, us, zm, zs⟩ := (HS.out.below hb).ln hx;obtain ⟨An, cA, As, cS, ev, -⟩ := us.parts;simp only [List.cons.injEq, and_true] at ev;obtain ⟨rfl, rfl, rfl, rfl, rfl, rfl, rfl⟩ := ev;have IM := hZ (cmayNotL_any x.kind x.mod x.name x.typ An As cA cS wo us zm zs);have HX := hZ hx;clear hx us zm zs;obtain ⟨q, hq⟩ : ∃ q, mayLn ⟨x.kind, x.mod, x.name, x.typ⟩ = q := ⟨_, rfl⟩;rw [hq] at IM;have HQ := hZ hq;clear hq;cases q with
      | false =>
        have R : Hid (decide (0 <= (k : Int)) = !xs.all mayLn) := hZ (by
          have : xs.all mayLn = false := by rw [List.all_eq_false]; exact ⟨x, List.mem_of_getElem? HX.out, by rw [show mayLn x = false from HQ.out]; decide⟩
          rw [this]; simp)
        go_wp2_with fail
        refine IM.out.mono ?_; rintro e w2 ⟨rfl, hb2⟩
        have hb3 := below_over hb hb2;clear a0 am a1 u0 u1 u2 u3 u4 u5 u6 hb hb2;go_wp2_with fail
        go_ret;exact ⟨_, rfl, R.out, hb3⟩
      | true =>
        go_wp2_with fail
        refine IM.out.mono ?_; rintro e w2 ⟨rfl, hb2⟩
        have hb3 := below_over hb hb2;clear a0 am a1 u0 u1 u2 u3 u4 u5 u6 hb hb2;go_wp2_with fail
        go_roundw
        case rel => exact ⟨k + 1, by omega, by go_num, hZ (by rw [all_snoc _ _ _ _ HX.out, HP.out, show mayLn x = true from HQ.out]; rfl), hb3⟩
        case measure => simp [intOf]; omega
    · have R : Hid (decide (0 <= (-1 : Int)) = !xs.all mayLn) := hZ (by
        have h := HP.out;rw [List.take_of_length_le (by rw [HN.out]; omega)] at h;rw [h]; rfl)
      go_wp2_with fail
      go_ret;exact ⟨_, rfl, R.out, hb⟩
theorem containsL11_any (A : Option Addr) (c n : Nat) (xs : List Ln) (w : World) (hn : xs.length = n) (hz : n <= 9223372036854775807) (hS : RowIn lnR w A xs) :
    Calls Tryz.prog 30 #[.slice A n c, .func (.func 31) #[] #[]] w fun e w' => e = .returned (.bool (!xs.all mayLn)) /\ Below w.heap.size w w' := by
  have HC := hZ (indexL11_any A c n xs w hn hz hS);clear hn hS;go_enter Tryz.func30, Tryz.ntmps30
  go_wp2_with fail
  refine HC.out.mono ?_; rintro e w2 ⟨r, rfl, hr, hb2⟩
  have HR := hZ hr;clear hr HC;go_wp2_with fail
  go_ret;exact ⟨ret_bool HR.out.symm, hb2⟩
theorem cmay11_any (u : Us) (l : List Value) (w : World) (h : UsAt w l u) : Calls Tryz.prog 11 #[.agg l.toArray] w fun e w' => e = .returned (.bool (mayU u)) /\ Below w.heap.size w w' := by
  obtain ⟨Ai, ci, Ad, cd, rfl, z2, z3, hI, hD⟩ := h;obtain ⟨w0, hw0⟩ : ∃ w0, w0 = w.alloc (.cells #[.slice Ai u.imps.length ci, .slice Ad u.lines.length cd] 25) := ⟨_, rfl⟩;have B0 : Below w.heap.size w w0 := by rw [hw0]; exact below_new (Below.refl _ _) _
  have O0 : w0.heap[w.heap.size]? = some (.cells #[.slice Ai u.imps.length ci, .slice Ad u.lines.length cd] 25 (0, 0)) := by rw [hw0]; exact heap_alloc_new w _
  have hl0 : w.heap.size < w0.heap.size := by rw [hw0]; simp
  have SI : Hid (∀ w', Below w.heap.size w w' -> Calls Tryz.prog 29 #[.slice Ai u.imps.length ci] w' fun e w'' => e = .returned (.bool (decide (u.imps.length <= 20) && u.imps.all mayI)) /\ Below w'.heap.size w' w'') := hZ (fun w' hb => cmayI_any Ai ci _ u.imps w' rfl z2 (hI.below hb));have SD : Hid (∀ w', Below w.heap.size w w' -> Calls Tryz.prog 30 #[.slice Ad u.lines.length cd, .func (.func 31) #[] #[]] w' fun e w'' => e = .returned (.bool (!u.lines.all mayLn)) /\ Below w'.heap.size w' w'') := hZ (fun w' hb => containsL11_any Ad cd _ u.lines w' rfl z3 (hD.below hb));obtain ⟨V, hV⟩ : ∃ V, mayU u = V := ⟨_, rfl⟩;rw [hV];have HV : Hid ((decide (u.imps.length <= 20) && (decide (u.lines.length <= 60) && (u.imps.all mayI && u.lines.all mayLn))) = V) := hZ hV;generalize u.imps.length = ni at *
  generalize u.lines.length = nd at *
  generalize u.imps.all mayI = b1 at SI HV
  generalize u.lines.all mayLn = b2 at SD HV
  have HV0 : Hid (((decide (ni <= 20) && b1) && (decide (nd <= 60) && b2)) = V) := hZ (by
    rw [<- HV.out];cases b1 <;> cases b2 <;> cases decide (ni <= 20) <;> cases decide (nd <= 60) <;> rfl)
  generalize (decide (ni <= 20) && b1) = q at SI HV0
  have x0 := cZ O0 0;simp at x0;have HO := hZ O0;have HB := hZ B0;have HW0 := hZ hw0;clear hV hI hD hw0 B0 O0 z2 HV;go_enter Tryz.func11, Tryz.ntmps11
  go_upto_region 1 with fail
  rw [<- HW0.out];clear HW0;go_wp2_with fail
  refine (SI.out _ HB.out).mono ?_; rintro e w2 ⟨rfl, hb2⟩
  have O2 := (hb2.block _ hl0).trans HO.out;have x2 := cZ O2 1;simp at x2;have HB2 := hZ (below_over HB.out hb2);clear x0 hb2 HB O2 SI;cases q with
  | false => go_wp2_with fail; go_ret; exact ⟨by rw [<- HV0.out]; rfl, HB2.out⟩
  | true =>
  by_cases hd : nd <= 60
  rotate_left
  · have e1 : ¬ (nd : Int) <= 60 := by omega
    go_wp2_with fail
    go_ret;exact ⟨by rw [<- HV0.out, decide_eq_false hd]; simp <;> omega, HB2.out⟩
  have e1 : (nd : Int) <= 60 := by omega
  go_wp2_with fail
  refine (SD.out _ HB2.out).mono ?_; rintro e w3 ⟨rfl, hb3⟩
  have HB3 := hZ (below_over HB2.out hb3);have HV3 : Hid (b2 = V) := hZ (by rw [<- HV0.out, decide_eq_true hd]; simp);clear x2 hb3 HB2 SD HV0;go_wp2_with fail
  go_ret;exact ⟨by rw [<- HV3.out]; cases b2 <;> simp, HB3.out⟩
end Go.Proofs.YteecgiebimdbhaaGreatDoor
namespace Go.Proofs.YteecgiebimdbhaaGreatDoor
open Go Go.RowKit Go.Shelf
open Go.Sort Go.Maps
open M
theorem fst_cases (p : Nat -> Bool) : ∀ n, (∀ i, i < n -> p i = false) \/ ∃ k, k < n /\ p k = true /\ ∀ i, i < k -> p i = false
 | 0 => .inl fun i h => by omega
 | n + 1 => by
  rcases fst_cases p n with h | ⟨k, h1, h2, h3⟩
  ·cases e : p n with
   | false =>
    refine .inl fun i hi => ?_
    by_cases hn : i = n
    ·rw [hn]; exact e
    ·exact h i (by omega)
   | true => exact .inr ⟨n, by omega, e, h⟩
  ·exact .inr ⟨k, by omega, h2, h3⟩
def EvU (c j : Int) (v : Value) (w : World) : Prop :=
 (c = 0 /\ v = .nilIface) \/ (c ≠ 0 /\ j = -1 /\ v = .iface 32 (.int .i64 c)) \/ (∃ g i b : Nat, c ≠ 0 /\ j = i /\ c = b /\ v = .iface 89 (.pointer (some ⟨g, 0, none⟩)) /\ SpC g i b w)
theorem ep_nat11 {m : Mo} {pkg : ByteArray} {major : Int} {env : List If} {t u : Ty} {c : Int} (h : EpIs m pkg major env t c u) : ∃ b : Nat, c = b := by
 rcases (ep_code h).1 with rfl | rfl | rfl | rfl | rfl
 ·exact ⟨0, rfl⟩
 ·exact ⟨1, rfl⟩
 ·exact ⟨3, rfl⟩
 ·exact ⟨4, rfl⟩
 ·exact ⟨9, rfl⟩
theorem ln_nat {u : Us} {env : List If} {d : Ln} {c : Int} (h : LnIs u env d c) : ∃ b : Nat, c = b := by
 rcases h with ⟨-, rfl⟩ | ⟨e, t, h, rfl⟩
 ·exact ⟨4, rfl⟩
 obtain ⟨b, rfl⟩ := ep_nat11 h
 unfold lineC
 repeat' split
 all_goals first
  | exact ⟨4, rfl⟩
  | exact ⟨9, rfl⟩
  | exact ⟨12, rfl⟩
  | exact ⟨0, rfl⟩
  | exact ⟨b, rfl⟩
def CkU (u : Us) (env : List If) (w : World) (e : Ending) (w' : World) : Prop := ∃ (c a : Int) (v : Value), UkIs u env c a /\ e = .returned v /\ EvU c a v w' /\ Below w.heap.size w w'
theorem sp_new {w : World} {i : Int} {b : Nat} : SpC w.heap.size i b (w.alloc (.cells #[.int .i64 i, .iface 32 (.int .i64 b)] 94)) := SpAt.cells (show SpAt w.heap.size i b _ from heap_alloc_new w _)
theorem mayU_kind {u : Us} (h : mayU u = true) {i : Nat} {d : Ln} (hd : u.lines[i]? = some d) : d.kind = 1 \/ d.kind = 2 := by
 obtain ⟨-, -, -, h4⟩ := mayU_parts h
 obtain ⟨-, -, h⟩ := mayLn_sorts (h4 d (List.mem_of_getElem? hd))
 exact h.imp (·.1) (·.1)
theorem ccheck11_any (u : Us) (env : List If) (l : List Value) (Ae : Option Addr) (ce : Nat) (w : World) (hU : UsAt w l u) (hC : CapU l u) (hE : RowIn ifR w Ae env) (hel : env.length <= 9223372036854775807) :
  Calls Tryz.prog 20 #[.agg l.toArray, .slice Ae env.length ce] w (CkU u env w) := by
 have HU := hZ hU
 obtain ⟨Ai, ci, Ad, cd, rfl, z2, z3, hI, hD⟩ := hU
 have hci := (hC Ai ci Ad cd rfl).1
 obtain ⟨W1, hW1⟩ : ∃ W1, W1 = w.alloc (.cells #[.slice Ai u.imps.length ci, .slice Ad u.lines.length cd] 25) := ⟨_, rfl⟩
 have B1 : Below w.heap.size w W1 := by rw [hW1]; exact below_new (Below.refl _ _) _
 have O1 : W1.heap[w.heap.size]? = some (.cells #[.slice Ai u.imps.length ci, .slice Ad u.lines.length cd] 25 (0, 0)) := by rw [hW1]; exact heap_alloc_new w _
 have hl1 : w.heap.size < W1.heap.size := by rw [hW1]; simp
 have MC := hZ (cmay11_any u [.slice Ai u.imps.length ci, .slice Ad u.lines.length cd] W1 (HU.out.below B1))
 have HX : Hid (∀ wx, Below W1.heap.size W1 wx -> wx.heap[w.heap.size]? = some (.cells #[.slice Ai u.imps.length ci, .slice Ad u.lines.length cd] 25 (0, 0))) := hZ (fun wx hb => (hb.block _ hl1).trans O1)
 have HI : Hid (∀ wx, Below W1.heap.size W1 wx -> RowIn imR wx Ai u.imps) := hZ (fun wx hb => hI.below (below_over B1 hb))
 have HD : Hid (∀ wx, Below W1.heap.size W1 wx -> RowIn lnR wx Ad u.lines) := hZ (fun wx hb => hD.below (below_over B1 hb))
 have HE : Hid (∀ wx, Below W1.heap.size W1 wx -> RowIn ifR wx Ae env) := hZ (fun wx hb => hE.below (below_over B1 hb))
 have HB1 := hZ B1
 have HW1 := hZ hW1
 have HCI := hZ hci
 obtain ⟨ni, hni⟩ : ∃ ni, ni = u.imps.length := ⟨_, rfl⟩
 obtain ⟨nd, hnd⟩ : ∃ nd, nd = u.lines.length := ⟨_, rfl⟩
 obtain ⟨ne, hne⟩ : ∃ ne, ne = env.length := ⟨_, rfl⟩
 rw [<- hni, <- hnd] at O1 MC HX HW1 ⊢
 rw [<- hne]
 rw [<- hne] at hel
 rw [<- hnd] at z3
 have HNI := hZ hni
 have HND := hZ hnd
 have HNE := hZ hne
 obtain ⟨x0, x1⟩ := cq2 O1
 simp at x0 x1
 clear hC hI hD hE B1 O1 hW1 hci hni hnd hne HU
 have hn0 : nd <= 9223372036854775807 := z3
 go_enter Tryz.func20, Tryz.ntmps20
 go_upto_region 1 with fail
 rw [<- HW1.out]
 clear HW1
 go_wp2_with (first | fail)
 refine MC.out.mono ?_; rintro e w2 ⟨rfl, hb2⟩
 have HB2 := hZ hb2
 clear hb2 MC x0 x1
 by_cases hm : mayU u = true
 rotate_left
 ·have SEAL : Hid (CkU u env w (.returned (.iface 32 (.int .i64 1))) w2) := hZ ⟨1, -1, _, .inl ⟨fun h => hm h.1, rfl, rfl⟩, rfl, .inr (.inl ⟨by decide, rfl, rfl⟩), below_over HB1.out HB2.out⟩
  have hm' : mayU u = false := by simpa using hm
  rw [hm'];clear hm hm';go_wp2_with fail
  go_ret;exact SEAL.out
 rw [hm]
 by_cases h100 : ne <= 100
 rotate_left
 ·have SEAL : Hid (CkU u env w (.returned (.iface 32 (.int .i64 1))) w2) := hZ ⟨1, -1, _, .inl ⟨fun h => h100 (by rw [HNE.out]; exact h.2), rfl, rfl⟩, rfl, .inr (.inl ⟨by decide, rfl, rfl⟩), below_over HB1.out HB2.out⟩
  have e1 : (100 : Int) < ne := by omega
  clear hm h100;go_wp2_with fail
  go_ret;exact SEAL.out
 have e1 : ¬ (100 : Int) < ne := by omega
 have hmp := mayU_parts hm
 have AG0 := againI_anyU Ai ci ni u.imps w2 HNI.out.symm (by have := hmp.1; have := HNI.out; omega) (by rw [HNI.out]; exact HCI.out) (HI.out w2 HB2.out)
 have AG := hZ AG0
 have HM := hZ hm
 have H100 : Hid (env.length <= 100) := hZ (by rw [<- HNE.out]; exact h100)
 have x0 := cZ (HX.out w2 HB2.out) 0
 simp at x0
 clear AG0 hmp hm
 go_wp2_with (first | fail)
 refine AG.out.mono ?_; rintro e w3 ⟨rfl, hb3⟩
 have HB3 := hZ (below_over HB2.out hb3)
 clear hb3 AG x0
 rcases fst_cases (dupB (·.asn) u.imps) ni with hno | ⟨k, hk1, hk2, hk3⟩
 rotate_left
 ·rw [fstN_yes hk1 hk3 hk2]
  have SEAL : Hid (CkU u env w (.returned (.iface 89 (.pointer (some ⟨w3.heap.size, 0, none⟩)))) (w3.alloc (.cells #[.int .i64 k, .iface 32 (.int .i64 5)] 94))) := hZ
   ⟨5, k, _, .inr ⟨⟨HM.out, H100.out⟩, .inl ⟨k, by rw [<- HNI.out]; exact hk1, hk2, hk3, rfl, rfl⟩⟩, rfl, .inr (.inr ⟨w3.heap.size, k, 5, by decide, rfl, rfl, rfl, sp_new⟩), below_over HB1.out (below_new HB3.out _)⟩
  have g0 : (0 : Int) <= k := by omega
  clear hk1 hk2 hk3;go_wp2_with fail
  go_ret;exact SEAL.out
 rw [fstN_no hno]
 have HNO : Hid (∀ i, i < u.imps.length -> dupB (·.asn) u.imps i = false) := hZ (by rw [<- HNI.out]; exact hno)
 have x1 := cZ (HX.out w3 HB3.out) 1
 simp at x1
 clear hno
 go_wp2_with (first | fail)
 clear x1
 go_loopw [31] (fun iv wr => ∃ j : Nat, j <= nd /\ iv = .int .i64 j /\ Hid (∀ (i : Nat) (x : Ln), i < j -> u.lines[i]? = some x -> LnIs u env x 0) /\ Hid (Below W1.heap.size W1 wr)) (fun iv _ => nd - (intOf iv).toNat)
 case atStart => exact ⟨0, by omega, rfl, hZ (fun i x h => by omega), HB3⟩
 case round =>
  obtain ⟨j, hj, rfl, HQ, HB⟩ := hrel;obtain ⟨wo, rfl⟩ : ∃ wo : World, wo = wr := ⟨_, rfl⟩;by_cases hlt : j < nd
  ·obtain ⟨x, hx⟩ : ∃ x, u.lines[j]? = some x := ⟨_, List.getElem?_eq_getElem (by rw [<- HND.out]; exact hlt)⟩
   obtain ⟨g, o, v0, v1, v2, v3, v4, v5, v6, rfl, hg, a0, am, a1, u0, u1, u2, u3, u4, u5, u6, us, zm, zs⟩ := (HD.out wo HB.out).ln hx;obtain ⟨An, cA, As, cS, ev, -⟩ := us.parts;simp only [List.cons.injEq, and_true] at ev;obtain ⟨rfl, rfl, rfl, rfl, rfl, rfl, rfl⟩ := ev;obtain ⟨w4, hw4⟩ : ∃ w4, w4 = wo.alloc (.cells #[.int .i64 x.kind, .string x.mod, .string x.name, .int .i64 x.typ.kind, .string x.typ.pkg, .int .i64 x.typ.major, .string x.typ.mod, .string x.typ.name, .slice An x.typ.names.length cA, .slice As x.typ.subs.length cS] 60) := ⟨_, rfl⟩;have B4 : Below wo.heap.size wo w4 := by rw [hw4]; exact below_new (Below.refl _ _) _
   have O4 : w4.heap[wo.heap.size]? = some (.cells #[.int .i64 x.kind, .string x.mod, .string x.name, .int .i64 x.typ.kind, .string x.typ.pkg, .int .i64 x.typ.major, .string x.typ.mod, .string x.typ.name, .slice An x.typ.names.length cA, .slice As x.typ.subs.length cS] 60 (0, 0)) := by rw [hw4]; exact heap_alloc_new wo _
   have HB4 : Hid (Below W1.heap.size W1 w4) := hZ (below_over HB.out B4);have CL0 := checkLine_any u env x An As cA cS Ai ci Ae ce w4 HM.out HNO.out H100.out (mayU_kind HM.out hx) (HI.out w4 HB4.out) HCI.out (HE.out w4 HB4.out) (us.keep B4);rw [<- HNI.out, <- HNE.out] at CL0;have CL := hZ CL0;have HXJ := hZ hx;have HW4 := hZ hw4;have x0 := cZ (HX.out w4 HB4.out) 0;obtain ⟨p0, p1, p2, p3, p4, p5, p6, p7, p8⟩ := cq9 O4;have p9 := cZ O4 9;simp at x0 p0 p1 p2 p3 p4 p5 p6 p7 p8 p9;have hj1 : (j : Int) < nd := by omega
   have hj0 : (0 : Int) <= j := by omega
   clear hx us zm zs hw4 B4 O4 CL0 hg;go_upto_region 9 with fail
   rw [<- HW4.out];clear HW4 a0 am a1 u0 u1 u2 u3 u4 u5 u6;go_wp2_with (first | fail)
   refine CL.out.mono ?_; rintro e w5 ⟨c, hc, rfl, hb5⟩
   have HB5 : Hid (Below W1.heap.size W1 w5) := hZ (below_over HB4.out hb5);clear x0 p0 p1 p2 p3 p4 p5 p6 p7 p8 p9 hb5 CL;by_cases h0 : c = 0
   ·subst h0
    rw [errV_zero11]
    have NX : Hid (∀ (i : Nat) (x : Ln), i < j + 1 -> u.lines[i]? = some x -> LnIs u env x 0) := hZ (fun i y hi hy => by
     by_cases e : i = j
     ·subst e
      rw [HXJ.out] at hy;cases hy
      exact hc
     ·exact HQ.out i y (by omega) hy)
    clear hc;go_wp2_with fail
    go_roundw
    case rel => exact ⟨j + 1, by omega, by go_num, NX, HB5⟩
    case measure => simp [intOf]; omega
   ·obtain ⟨b, rfl⟩ := ln_nat hc
    rw [errV_code11 h0]
    have SEAL : Hid (CkU u env w (.returned (.iface 89 (.pointer (some ⟨w5.heap.size, 0, none⟩)))) (w5.alloc (.cells #[.int .i64 j, .iface 32 (.int .i64 b)] 94))) := hZ
     ⟨b, j, _, .inr ⟨⟨HM.out, H100.out⟩, .inr ⟨HNO.out, .inl ⟨j, x, HXJ.out, hc, h0, rfl, HQ.out⟩⟩⟩, rfl, .inr (.inr ⟨w5.heap.size, j, b, h0, rfl, rfl, rfl, sp_new⟩), below_over HB1.out (below_new HB5.out _)⟩
    clear hc h0;go_wp2_with fail
    go_ret;exact SEAL.out
  ·have SEAL : Hid (CkU u env w (.returned .nilIface) wo) := hZ
    ⟨0, -1, _, .inr ⟨⟨HM.out, H100.out⟩, .inr ⟨HNO.out, .inr ⟨rfl, rfl, fun d hd => by
     obtain ⟨i, hi⟩ := List.getElem?_of_mem hd;exact HQ.out i d (by have := (List.getElem?_eq_some_iff.1 hi).1; have := HND.out; omega) hi⟩⟩⟩, rfl, .inl ⟨rfl, rfl⟩, below_over HB1.out HB.out⟩
   go_wp2_with fail
   go_ret;exact SEAL.out
theorem ex11_env {w : World} {d e : Nat} (hd : w.heap[d]? = some (.cells #[.string ⟨#[102]⟩, .int .i64 1, .string ⟨#[]⟩, .int .i64 0, .string ⟨#[]⟩, .string ⟨#[]⟩, .slice none 0 0, .slice none 0 0] 57 (0, 0)))
    (he : w.heap[e]? = some (.cells #[.string ⟨#[112]⟩, .int .i64 1, .string ⟨#[109]⟩, .slice none 0 0, .slice (some ⟨d, 0, none⟩) 1 1] 50 (0, 0))) : RowIn ifR w (some ⟨e, 0, none⟩) [exX11] := by
  have hV : RowIn nmR w (some ⟨d, 0, none⟩) exX11.vals := fun i x h => by
    match i, h with
    | 0, h =>
      simp [exX11] at h;subst h;refine ⟨d, 0, [.string ⟨#[102]⟩, .int .i64 1, .string ⟨#[]⟩, .int .i64 0, .string ⟨#[]⟩, .string ⟨#[]⟩, .slice none 0 0, .slice none 0 0], rfl, (Array.getElem?_eq_some_iff.1 hd).1, fun j v hv => ?_, by show (1 : Nat) <= _; decide, [.int .i64 1, .string ⟨#[]⟩, .int .i64 0, .string ⟨#[]⟩, .string ⟨#[]⟩, .slice none 0 0, .slice none 0 0], rfl, TyAt.leaf w 1 ⟨#[]⟩ 0 ⟨#[]⟩ ⟨#[]⟩ (by decide) (by decide) (by decide)⟩;rw [cZ hd, show 0 + 0 * nmR.k + j = j by omega, <- hv, <- List.getElem?_toArray]
    | i + 1, h => simp [exX11] at h
  intro i x h;match i, h with
  | 0, h =>
    simp at h;subst h;refine ⟨e, 0, [.string ⟨#[112]⟩, .int .i64 1, .string ⟨#[109]⟩, .slice none 0 0, .slice (some ⟨d, 0, none⟩) 1 1], rfl, (Array.getElem?_eq_some_iff.1 he).1, fun j v hv => ?_, none, 0, some ⟨d, 0, none⟩, 1, rfl, by decide, by decide, by decide, by decide, fun i x h => by simp [exX11] at h, hV⟩;rw [cZ he, show 0 + 0 * ifR.k + j = j by omega, <- hv, <- List.getElem?_toArray]
  | i + 1, h => simp at h
theorem up11_any (w : World) (he : CEnv w) (hg : ErrT w) : Calls Tryz.prog 7 #[] w fun e w' => e = .returned (.bool true) /\ Below w.heap.size w w' := by
  have PA := cuparse_of exA11 w (by decide) he exA11_leaf;rw [exA11_res] at PA;have HPA := hZ PA;have HG := hZ hg;clear PA he hg;go_enter Tryz.func7, Tryz.ntmps7
  go_wp2_with fail
  refine HPA.out.mono ?_;rintro e w1 ⟨B1, ⟨l, u, j, hok, rfl, hU, hC⟩ | ⟨b, j, g, herr, -⟩⟩;rotate_left
  · cases herr
  cases hok
  have HU := hZ hU.free;have HC := hZ hC;obtain ⟨Ai, ci, Ad, cd, rfl, -⟩ := hU.free;have HU1 : Hid (UsAt w1 [.slice Ai 1 ci, .slice Ad 1 cd] exU11) := HU;have HC1 : Hid (CapU [.slice Ai 1 ci, .slice Ad 1 cd] exU11) := HC;obtain ⟨w2, hw2⟩ : ∃ w2, w2 = w1.alloc (.cells #[.slice Ai 1 ci, .slice Ad 1 cd] 25) := ⟨_, rfl⟩;have B2 : Below w1.heap.size w1 w2 := by rw [hw2]; exact below_new (Below.refl _ _) _
  have O2 : w2.heap[w1.heap.size]? = some (.cells #[.slice Ai 1 ci, .slice Ad 1 cd] 25 (0, 0)) := by rw [hw2]; exact heap_alloc_new w1 _
  have hl2 : w1.heap.size < w2.heap.size := by rw [hw2]; simp
  obtain ⟨w3, hw3⟩ : ∃ w3, w3 = w2.alloc (.cells #[.string ⟨#[102]⟩, .int .i64 1, .string ⟨#[]⟩, .int .i64 0, .string ⟨#[]⟩, .string ⟨#[]⟩, .slice none 0 0, .slice none 0 0] 57) := ⟨_, rfl⟩;have B3 : Below w2.heap.size w2 w3 := by rw [hw3]; exact below_new (Below.refl _ _) _
  have O3 : w3.heap[w2.heap.size]? = some (.cells #[.string ⟨#[102]⟩, .int .i64 1, .string ⟨#[]⟩, .int .i64 0, .string ⟨#[]⟩, .string ⟨#[]⟩, .slice none 0 0, .slice none 0 0] 57 (0, 0)) := by rw [hw3]; exact heap_alloc_new w2 _
  have hl3 : w2.heap.size < w3.heap.size := by rw [hw3]; simp
  have s3 : w3.heap.size = w2.heap.size + 1 := by rw [hw3]; simp
  obtain ⟨w4, hw4⟩ : ∃ w4, w4 = w3.alloc (.cells #[.string ⟨#[112]⟩, .int .i64 1, .string ⟨#[109]⟩, .slice none 0 0, .slice (some ⟨w2.heap.size, 0, none⟩) 1 1] 50) := ⟨_, rfl⟩;have B4 : Below w3.heap.size w3 w4 := by rw [hw4]; exact below_new (Below.refl _ _) _
  have O4 : w4.heap[w3.heap.size]? = some (.cells #[.string ⟨#[112]⟩, .int .i64 1, .string ⟨#[109]⟩, .slice none 0 0, .slice (some ⟨w2.heap.size, 0, none⟩) 1 1] 50 (0, 0)) := by rw [hw4]; exact heap_alloc_new w3 _
  have B24 := below_over B3 B4;have B14 := below_over B2 B24;have hl4 : w3.heap.size < w4.heap.size := by rw [hw4]; simp
  have RE := ex11_env ((B4.block _ hl3).trans O3) O4;have CA0 : Calls Tryz.prog 20 #[.agg #[.slice Ai 1 ci, .slice Ad 1 cd], .slice (some ⟨w3.heap.size, 0, none⟩) 1 1] w4 (CkU exU11 [exX11] w4) := ccheck11_any exU11 [exX11] [.slice Ai 1 ci, .slice Ad 1 cd] (some ⟨w3.heap.size, 0, none⟩) 1 w4 (HU1.out.below B14) HC1.out RE (by decide);have CB0 : ∀ (wx : World), Below w4.heap.size w4 wx -> Calls Tryz.prog 20 #[.agg #[.slice Ai 1 ci, .slice Ad 1 cd], .slice none 0 0] wx (CkU exU11 [] wx) := fun (wx : World) (hb : Below w4.heap.size w4 wx) => ccheck11_any exU11 [] [.slice Ai 1 ci, .slice Ad 1 cd] none 0 wx (HU1.out.below (below_over B14 hb)) HC1.out (fun i x h => by simp at h) (by decide)
  have CA := hZ CA0;have CB := hZ CB0;clear CA0 CB0;have HX : Hid (∀ wx, Below w4.heap.size w4 wx -> wx.heap[w1.heap.size]? = some (.cells #[.slice Ai 1 ci, .slice Ad 1 cd] 25 (0, 0))) := hZ (fun wx hb => (hb.block _ (by have := B24.size; omega)).trans ((B24.block _ hl2).trans O2));have HB4 := hZ (below_over B1 B14);have HW2 := hZ hw2;have HW3 := hZ hw3;have HW4 := hZ hw4;clear HU HC hU hC B1 B2 B3 B4 B24 B14 O2 O3 O4 RE hw2 hw3 hw4 HPA HU1 HC1 hl2 hl3 hl4;unfold exU11
  simp only [List.length_cons, List.length_nil];go_upto_region 2 with fail
  rw [<- HW2.out];go_upto_region 3 with fail
  rw [<- HW3.out];try rw [<- s3]
  clear s3;rw [<- HW4.out];clear HW2 HW3 HW4;obtain ⟨x0, x1⟩ := cq2 (HX.out w4 (Below.refl _ _));simp at x0 x1;go_wp2_with fail
  refine CA.out.mono ?_; rintro e w5 ⟨c, a, v, hk, rfl, hev, hb5⟩
  obtain ⟨rfl, rfl⟩ := ex11_zero hk
  obtain rfl : v = .nilIface := by
    rcases hev with ⟨-, h⟩ | ⟨h, -⟩ | ⟨g, i, b, h, -⟩
    · exact h
    · exact absurd rfl h
    · exact absurd rfl h
  have HB5 := hZ hb5;have CB5 := hZ (CB.out w5 hb5);clear hk hev hb5 x0 x1 CA CB;obtain ⟨x0, x1⟩ := cq2 (HX.out w5 HB5.out);simp at x0 x1;go_wp2_with fail
  refine CB5.out.mono ?_; rintro e w6 ⟨c, a, v, hk, rfl, hev, hb6⟩
  obtain ⟨rfl, rfl⟩ := ex11_none hk;have HB6 := hZ (below_over HB5.out hb6);rcases hev with ⟨h, -⟩ | ⟨-, h, -⟩ | ⟨g, i, b, -, hi, hb, rfl, hsp⟩
  · cases h
  · cases h
  obtain rfl : i = 0 := by omega
  obtain rfl : b = 9 := by omega
  have IS := hZ (isSpot_any g 0 9 w6 (HG.out.on (below_over HB4.out HB6.out)) hsp.1 hsp.2.1 hsp.2.2);have FIN := hZ (below_over HB4.out HB6.out);clear hk hb6 x0 x1 CB5 hsp hi hb;obtain ⟨x0, x1⟩ := cq2 (HX.out w6 HB6.out);simp at x0 x1;go_wp2_with fail
  refine IS.out.mono ?_; rintro e w7 ⟨rfl, hb7⟩
  have FIN7 := hZ (below_over FIN.out hb7);clear hb7 x0 x1;go_wp2_with fail
  go_ret;exact ⟨rfl, FIN7.out⟩
end Go.Proofs.YteecgiebimdbhaaGreatDoor
namespace Go.Proofs.YteecgiebimdbhaaGreatDoor
open Go Go.RowKit
open Go.Sort
open M
section
variable {P : Program} {w : World}
theorem wp_append_src {o : Oper} {a : Act} {K : Act -> World -> Prop} {Q : Exit -> Act -> World -> Prop} (s x : Operand) (t : TypeId)
    (ho : o.op = .call { callee := .builtin .append, args := #[s, x], argTypes := #[t, t] })
    (base : Nat) (e : TypeId) (i : TypeInfo) (z : Value) (size bytes : Nat) (ht : P.underlying t = some (.slice e)) (hi : P.info? e = some i) (hz : i.zero = some z)
    (hsize : i.size = size) (hby : i.bytes = bytes) (hzs : z.cells.size = size) (hsz : 0 < size)
    (v : Value) (n : Nat) (xs : List Value) (hs : a.eval s = v) (hown : w.ownsRow base e size v n xs)
    (A : Option Addr) (m c : Nat) (news : List Value) (hx : a.eval x = .slice A m c) (hA : A = none -> m = 0) (hl : news.length = m * size) (hnews : ∀ ad, A = some ad -> ∀ j u, news[j]? = some u -> w.cell? (ad.add j) = some u) (h1 : ∀ u ∈ news, u.oneCell' = true)
    (h63 : n + m <= maxLen) (hbytes : (n + m) * bytes <= 140737488355328) (hbase : base <= w.heap.size)
    (h : ∀ v' w', w'.ownsRow base e size v' (n + m) (xs ++ news) -> w.grownBy w' v.ownBlock -> K (a.put o.dst v') w') : o.wp P a w K Q := by
  cases A with
  | none =>
    have hm := hA rfl;subst hm;have hn : news = [] := List.length_eq_zero_iff.1 (by rw [hl]; simp);subst hn;have hrun := run_append_empty (P := P) (w := w) base t o.type e i size ht hi v n c xs hown;unfold Oper.wp execOp
    simp only [ho, resolve, invoke, builtin, Sem.run_bind, Sem.run_pure, Result.andThen_ok, List.map_toArray, List.map_cons, List.map_nil, hs, hx, hrun];exact h v w (by rw [List.append_nil]; exact hown) ⟨rfl, rfl, rfl, Nat.le_refl _, fun _ _ _ => rfl⟩
  | some ad => exact wp_append_own _ s x t ho base e i z size bytes ht hi hz hsize hby hzs hsz v n xs hs hown ad m c news hx hl (hnews ad rfl) h1 h63 hbytes hbase fun v' w' h2 h3 _ => h v' w' h2 h3
end
theorem RowIn.src {α : Type} {R : Reads α} {w : World} {A : Option Addr} {l : List α} (hk : 0 < R.k) (h : RowIn R w A l) : ∃ C : List (List Value), C.length = l.length /\ (∀ y, y ∈ C -> y.length = R.k) /\ (∀ (i : Nat) (y : List Value) (x : α), C[i]? = some y -> l[i]? = some x -> R.E w y x) /\ (A = none -> l.length = 0) /\
    ∀ wx, Below w.heap.size w wx -> ∀ ad, A = some ad -> ∀ (j : Nat) (u : Value), C.flatten[j]? = some u -> wx.cell? (ad.add j) = some u := by
  cases l with
  | nil => exact ⟨[], rfl, fun y h => by simp at h, fun i y x h => by simp at h, fun _ => rfl, fun wx _ ad _ j u h => by simp at h⟩
  | cons x xs =>
    obtain ⟨g, o, l0, hA, hg, -, -⟩ := h 0 x rfl;subst hA;obtain ⟨C, h1, h2, h3, h4⟩ := h.lists hk
    exact ⟨C, h1, h2, h3, fun e => absurd e (by simp), fun wx hb ad e j u hu => by
      obtain rfl := Option.some.inj e;rw [WideShapes.add_plain];exact (hb.cell (p := ⟨g, o + j, none⟩) hg).trans (h4 j u hu)⟩
theorem if_one {w : World} {l : List Value} {x : If} (h : ifE w l x) : ∀ u ∈ l, u.oneCell' = true := by
  obtain ⟨At, ct, Av, cv, rfl, -⟩ := h;intro u hu;simp at hu;rcases hu with rfl | rfl | rfl | rfl | rfl <;> rfl
theorem ln_one {w : World} {l : List Value} {d : Ln} (h : lnE w l d) : ∀ u ∈ l, u.oneCell' = true := by
  obtain ⟨-, l7, rfl, hT⟩ := h;obtain ⟨Bn, cB, Bs, dB, rfl, -⟩ := hT.parts;intro u hu;simp at hu;rcases hu with rfl | rfl | rfl | rfl | rfl | rfl | rfl | rfl | rfl | rfl <;> rfl
theorem all_one_cells {α : Type} {R : Reads α} {w : World} {C : List (List Value)} {l : List α} (hl : C.length = l.length) (hE : ∀ (i : Nat) (y : List Value) (x : α), C[i]? = some y -> l[i]? = some x -> R.E w y x) (h1 : ∀ (y : List Value) (x : α), R.E w y x -> ∀ u ∈ y, u.oneCell' = true) : ∀ u ∈ C.flatten, u.oneCell' = true := fun u hu => by
  obtain ⟨y, hy, hu⟩ := List.mem_flatten.1 hu;obtain ⟨i, hi⟩ := List.mem_iff_getElem?.1 hy;have hil := (List.getElem?_eq_some_iff.1 hi).1;rw [hl] at hil;exact h1 y _ (hE i y _ hi (List.getElem?_eq_getElem hil)) u hu
theorem pairs_snoc {α : Type} {R : Reads α} {w : World} {C : List (List Value)} {l : List α} {y : List Value} {x : α} (hl : C.length = l.length) (hE : ∀ (i : Nat) (y : List Value) (x : α), C[i]? = some y -> l[i]? = some x -> R.E w y x) (hx : R.E w y x) :
    ∀ (i : Nat) (y' : List Value) (x' : α), (C ++ [y])[i]? = some y' -> (l ++ [x])[i]? = some x' -> R.E w y' x' := fun i y' x' h1 h2 => by
  rcases Nat.lt_or_ge i C.length with h | h
  · rw [List.getElem?_append_left h] at h1
    rw [List.getElem?_append_left (by omega)] at h2;exact hE i y' x' h1 h2
  · rw [List.getElem?_append_right h] at h1
    rw [List.getElem?_append_right (by omega), <- hl] at h2;cases e : i - C.length with
    | zero => rw [e] at h1 h2; cases h1; cases h2; exact hx
    | succ k => rw [e] at h1; simp at h1
theorem pairs_cut {α : Type} {R : Reads α} {w : World} {C : List (List Value)} {l : List α} {k : Nat} (hl : C.length = l.length) (hk : k < l.length) (hE : ∀ (i : Nat) (y : List Value) (x : α), C[i]? = some y -> l[i]? = some x -> R.E w y x) :
    ∀ (i : Nat) (y' : List Value) (x' : α), (C.take k ++ C.drop (k + 1))[i]? = some y' -> (l.take k ++ l.drop (k + 1))[i]? = some x' -> R.E w y' x' := fun i y' x' h1 h2 => by
  have e1 : (C.take k).length = k := by rw [List.length_take]; omega
  have e2 : (l.take k).length = k := by rw [List.length_take]; omega
  rcases Nat.lt_or_ge i k with h | h
  · rw [List.getElem?_append_left (by omega), List.getElem?_take, if_pos h] at h1 h2
    exact hE i y' x' h1 h2
  · rw [List.getElem?_append_right (by omega), List.getElem?_drop, e1] at h1
    rw [List.getElem?_append_right (by omega), List.getElem?_drop, e2] at h2;exact hE _ y' x' h1 h2
theorem own_ne {w : World} {base : Nat} {e : TypeId} {z : Nat} {v : Value} {n : Nat} {xs : List Value} {b : Nat} {cs : Array Value} {T : TypeId} {fr : Nat × Nat} (h : w.ownsRow base e z v n xs) (hX : w.heap[b]? = some (.cells cs T fr)) (hT : e ≠ T) (hb : v.ownBlock = some b) : False := by
  rcases h.2 with ⟨rfl, -⟩ | ⟨g, cap, cur, rfl, -, hg, -⟩
  · simp [Value.ownBlock] at hb
  · simp [Value.ownBlock] at hb
    subst hb;rw [hX] at hg;simp only [Option.some.injEq, Obj.cells.injEq] at hg;exact hT hg.2.1.symm
theorem own_block11 {w w' : World} {B : Nat} {e : TypeId} {z : Nat} {v : Value} {n : Nat} {xs : List Value} (h : w.ownsRow B e z v n xs) (hb : ∀ b, v.ownBlock = some b -> w'.heap[b]? = w.heap[b]?) : w'.ownsRow B e z v n xs := by
  refine ⟨h.1, ?_⟩;rcases h.2 with h | ⟨g, cap, cur, hv, hB, hg, rest⟩
  · exact .inl h
  · exact .inr ⟨g, cap, cur, hv, hB, (hb g (by rw [hv]; rfl)).trans hg, rest⟩
theorem if_info11 : (Tryz.prog.info? 50).map (fun i => (i.zero, i.size, i.bytes)) = some (some (.agg #[.string ⟨#[]⟩, .int .i64 0, .string ⟨#[]⟩, .slice none 0 0, .slice none 0 0]), 5, 88) := by kernel_rfl
end Go.Proofs.YteecgiebimdbhaaGreatDoor
namespace Go.Proofs.YteecgiebimdbhaaGreatDoor
open Go.RowKit
open Go.Sort
open M
theorem rfew11_any (u : Us) (l : List Value) (w : World) (h : UsAt w l u) : Calls Tryz.prog 8 #[.agg l.toArray] w fun e w' => e = .returned (.bool (fewU u)) /\ Below w.heap.size w w' := by
  obtain ⟨Ai, ci, Ad, cd, rfl, z2, z3, hI, hD⟩ := h;obtain ⟨w0, hw0⟩ : ∃ w0, w0 = w.alloc (.cells #[.slice Ai u.imps.length ci, .slice Ad u.lines.length cd] 25) := ⟨_, rfl⟩;have B0 : Below w.heap.size w w0 := by rw [hw0]; exact below_new (Below.refl _ _) _
  have O0 : w0.heap[w.heap.size]? = some (.cells #[.slice Ai u.imps.length ci, .slice Ad u.lines.length cd] 25 (0, 0)) := by rw [hw0]; exact heap_alloc_new w _
  have hl0 : w.heap.size < w0.heap.size := by rw [hw0]; simp
  obtain ⟨V, hV⟩ : ∃ V, fewU u = V := ⟨_, rfl⟩;rw [hV];have HV : Hid ((decide (u.imps.length <= 100) && (decide (u.lines.length <= 100) && u.lines.all fewLn)) = V) := hZ hV;obtain ⟨ni, hni⟩ : ∃ ni, ni = u.imps.length := ⟨_, rfl⟩;obtain ⟨nd, hnd⟩ : ∃ nd, nd = u.lines.length := ⟨_, rfl⟩;rw [<- hni] at z2 O0 hw0 HV;rw [<- hnd] at z3 O0 hw0 HV;rw [<- hni, <- hnd];have HND := hZ hnd;have HD := hZ (hD.below B0);obtain ⟨x0, x1⟩ := cq2 O0;simp at x0 x1;have HO := hZ O0;have HB := hZ B0;have HW0 := hZ hw0;clear hV hI hD hw0 B0 O0 hni hnd;by_cases h1 : 100 < ni
  · have e1 : (100 : Int) < ni := by omega
    have RV : V = false := by rw [<- HV.out, show decide (ni <= 100) = false by simp; omega]; simp
    subst RV;go_enter Tryz.func8, Tryz.ntmps8
    go_upto_region 1 with fail
    rw [<- HW0.out];go_wp2_with fail
    go_ret;exact ⟨rfl, HB.out⟩
  have e1 : ¬ (100 : Int) < ni := by omega
  by_cases h2 : 100 < nd
  · have e2 : (100 : Int) < nd := by omega
    have RV : V = false := by rw [<- HV.out, show decide (nd <= 100) = false by simp; omega]; simp
    subst RV;go_enter Tryz.func8, Tryz.ntmps8
    go_upto_region 1 with fail
    rw [<- HW0.out];go_wp2_with fail
    go_ret;exact ⟨rfl, HB.out⟩
  have e2 : ¬ (100 : Int) < nd := by omega
  have HV1 : Hid (u.lines.all fewLn = V) := hZ (by
    rw [<- HV.out, decide_eq_true (show ni <= 100 by omega), decide_eq_true (show nd <= 100 by omega)]; rfl)
  clear HV h1 h2;go_enter Tryz.func8, Tryz.ntmps8
  go_upto_region 1 with fail
  rw [<- HW0.out];clear HW0;go_wp2_with fail
  clear e1 e2;go_loopw [3] (fun iv wr => ∃ j : Nat, j <= nd /\ iv = .int .i64 j /\ Hid ((u.lines.take j).all fewLn = true) /\ Below w0.heap.size w0 wr) (fun iv _ => nd - (intOf iv).toNat)
  case atStart => exact ⟨0, by omega, rfl, hZ (by simp), Below.refl _ _⟩
  case round =>
    obtain ⟨j, hj, rfl, HQ, hb⟩ := hrel;obtain ⟨wo, rfl⟩ : ∃ wo : World, wo = wr := ⟨_, rfl⟩;have O := (hb.block _ hl0).trans HO.out;have x1 := cZ O 1;simp at x1;by_cases hlt : j < nd
    · obtain ⟨x, hx⟩ : ∃ x, u.lines[j]? = some x := ⟨_, List.getElem?_eq_getElem (by rw [<- HND.out]; exact hlt)⟩
      obtain ⟨g, o, v0, v1, v2, v3, v4, v5, v6, rfl, hg, a0, am, a1, u0, u1, u2, u3, u4, u5, u6, us, zm, zs⟩ := (HD.out.below hb).ln hx;have FW := hZ (fewB_any x.typ _ wo ⟨_, rfl, us⟩);have HX := hZ hx;have HBo := hZ hb;have HA1 := hZ a1;have HO2 := hZ O;clear hx us hb a0 a1 am zm O;go_wp2_with fail
      refine FW.out.mono ?_; rintro e w3 ⟨rfl, hb3⟩
      have a1 := (hb3.cell (p := ⟨g, _, none⟩) hg).trans HA1.out;have x1 := cZ ((hb3.block _ (Array.getElem?_eq_some_iff.1 HO2.out).1).trans HO2.out) 1;simp at x1;have HB3 := hZ (below_over HBo.out hb3);have FIN := hZ (below_over HB.out HB3.out);obtain ⟨q, hq⟩ : ∃ q, fewB x.typ = q := ⟨_, rfl⟩;rw [hq];have HQ2 := hZ hq;clear hb3 u0 u1 u2 u3 u4 u5 u6 hq FW HA1 HO2;cases q with
      | false =>
        have RV : V = false := by rw [<- HV1.out]; exact all_one _ _ _ _ HX.out (by unfold fewLn; rw [HQ2.out]; rfl)
        subst RV;go_wp2_with fail
        go_ret;exact ⟨rfl, FIN.out⟩
      | true =>
        by_cases hn : 500 < x.name.size
        · have e1 : (500 : Int) < x.name.size := by omega
          have RV : V = false := by rw [<- HV1.out]; exact all_one _ _ _ _ HX.out (by unfold fewLn; rw [show decide (x.name.size <= 500) = false by simp; omega]; simp)
          subst RV;go_wp2_with fail
          go_ret;exact ⟨rfl, FIN.out⟩
        · have e1 : ¬ (500 : Int) < x.name.size := by omega
          have HN : Hid (x.name.size <= 500) := hZ (by omega);clear hn;go_wp2_with fail
          go_roundw
          case rel => exact ⟨j + 1, by omega, by go_num, hZ (by rw [all_snoc _ _ _ _ HX.out, HQ.out]; unfold fewLn; rw [HQ2.out, decide_eq_true HN.out]; rfl), HB3.out⟩
          case measure => simp [intOf]; omega
    · have RV : V = true := by rw [<- HV1.out, <- HQ.out, List.take_of_length_le (by rw [<- HND.out]; omega)]
      subst RV;have FIN := hZ (below_over HB.out hb);clear O;go_wp2_with fail
      go_ret;exact ⟨rfl, FIN.out⟩
def fewNm (x : Nm) : Bool := fewB x.typ
def fewI (x : If) : Bool := decide (x.types.length <= 200) && (decide (x.vals.length <= 200) && (x.types.all fewNm && x.vals.all fewNm))
def fewE (env : List If) : Bool := decide (env.length <= 200) && env.all fewI
theorem rfew8_any (A : Option Addr) (c : Nat) (env : List If) (w : World) (hE : RowIn ifR w A env) (hel : env.length <= 9223372036854775807) :
  Calls Tryz.prog 17 #[.slice A env.length c] w fun e w' => e = .returned (.bool (fewE env)) /\ Below w.heap.size w w' := by
 obtain ⟨V, hV⟩ : ∃ V, fewE env = V := ⟨_, rfl⟩
 rw [hV]
 have HV : Hid ((decide (env.length <= 200) && env.all fewI) = V) := hZ hV
 obtain ⟨ne, hne⟩ : ∃ ne, ne = env.length := ⟨_, rfl⟩
 rw [<- hne] at hel HV
 rw [<- hne]
 have HN := hZ hne
 have HE := hZ hE
 clear hV hne hE
 by_cases h2 : 200 < ne
 ·have e1 : (200 : Int) < ne := by omega
  have RV : V = false := by rw [<- HV.out, show decide (ne <= 200) = false by simp; omega]; rfl
  subst RV;go_enter Tryz.func17, Tryz.ntmps17
  go_wp2_with fail
  go_ret;exact ⟨rfl, Below.refl _ _⟩
 have e1 : ¬ (200 : Int) < ne := by omega
 have HV1 : Hid (env.all fewI = V) := hZ (by rw [<- HV.out, decide_eq_true (show ne <= 200 by omega)]; rfl)
 clear HV
 go_enter Tryz.func17, Tryz.ntmps17
 go_wp2_with fail
 clear e1
 go_loopw [3] (fun iv wr => ∃ j : Nat, j <= ne /\ iv = .int .i64 j /\ Hid ((env.take j).all fewI = true) /\ Below w.heap.size w wr) (fun iv _ => ne - (intOf iv).toNat)
 case atStart => exact ⟨0, by omega, rfl, hZ (by simp), Below.refl _ _⟩
 case round =>
  obtain ⟨j, hj, rfl, HQ, hb⟩ := hrel;obtain ⟨wo, rfl⟩ : ∃ wo : World, wo = wr := ⟨_, rfl⟩;have HBo := hZ hb;by_cases hlt : j < ne
  ·obtain ⟨x, hx⟩ : ∃ x, env[j]? = some x := ⟨_, List.getElem?_eq_getElem (by rw [<- HN.out]; exact hlt)⟩
   obtain ⟨g, o, At, ct, Av, cv, rfl, hgo, -, -, -, g3, g4, -, -, -, -, hT, hVL⟩ := (HE.out.below hb).ifc hx;have HX := hZ hx;have HT := hZ hT;have HVL := hZ hVL;obtain ⟨nt, hnt⟩ : ∃ nt, nt = x.types.length := ⟨_, rfl⟩;obtain ⟨nv, hnv⟩ : ∃ nv, nv = x.vals.length := ⟨_, rfl⟩;rw [<- hnt] at g3;rw [<- hnv] at g4;have HL3 := hZ hnt;have HL4 := hZ hnv;have E3 := hZ g3;have E4 := hZ g4;have hj0 : (0 : Int) <= j := by omega
   have hj1 : (j : Int) < ne := by omega
   have OUT : Hid (Below w.heap.size w wo) := hZ hb;clear hx hT hVL hnt hnv hb;by_cases ht : 200 < nt
   ·have q1 : (200 : Int) < nt := by omega
    have RV : V = false := by
     rw [<- HV1.out];refine all_one _ _ _ _ HX.out ?_;unfold fewI; rw [<- HL3.out, decide_eq_false (by omega)]; rfl
    subst RV;go_wp2_with fail
    go_ret;exact ⟨rfl, OUT.out⟩
   have q1 : ¬ (200 : Int) < nt := by omega
   by_cases hv : 200 < nv
   ·have q2 : (200 : Int) < nv := by omega
    have RV : V = false := by
     rw [<- HV1.out];refine all_one _ _ _ _ HX.out ?_;unfold fewI; rw [<- HL4.out, decide_eq_false (show ¬ nv <= 200 by omega)]; simp
    subst RV;go_wp2_with fail
    go_ret;exact ⟨rfl, OUT.out⟩
   have q2 : ¬ (200 : Int) < nv := by omega
   have TL : Hid (x.types.length <= 200) := hZ (by rw [<- HL3.out]; omega);have VL : Hid (x.vals.length <= 200) := hZ (by rw [<- HL4.out]; omega);clear ht hv;go_wp2_with fail
   have hn3 : nt <= 200 := by omega
   have hn4 : nv <= 200 := by omega
   clear q1 q2 g3 g4;go_loopw [4] (fun iv wr => ∃ k : Nat, k <= nt /\ iv = .int .i64 k /\ Hid ((x.types.take k).all fewNm = true) /\ Below wo.heap.size wo wr) (fun iv _ => nt - (intOf iv).toNat)
   case atStart => exact ⟨0, by omega, rfl, hZ (by simp), Below.refl _ _⟩
   case round =>
    obtain ⟨k, hk, rfl, HQk, hbk⟩ := hrel;obtain ⟨wk, rfl⟩ : ∃ wk : World, wk = wr := ⟨_, rfl⟩;have HBk := hZ hbk;have HBW := hZ (below_over HBo.out hbk);have g3 := (hbk.cell (p := ⟨g, _, none⟩) hgo).trans E3.out;by_cases hlk : k < nt
    ·obtain ⟨z, hz⟩ : ∃ z, x.types[k]? = some z := ⟨_, List.getElem?_eq_getElem (by rw [<- HL3.out]; exact hlk)⟩
     obtain ⟨gt, ot, Bn, cB, Bs, dB, rfl, hgt, -, f0, f1, f2, f3, f4, f5, f6, hTz, -⟩ := (HT.out.below hbk).nm hz;have FW := hZ (fewB_any z.typ _ wk ⟨_, rfl, hTz⟩);have HZ := hZ hz;have hk0 : (0 : Int) <= k := by omega
     have hk1 : (k : Int) < nt := by omega
     clear hz hTz hbk;go_wp2_with fail
     refine FW.out.mono ?_; rintro e w3 ⟨rfl, hb3⟩
     have HB3 := hZ (below_over HBk.out hb3);have FIN := hZ (below_over HBW.out hb3);obtain ⟨q, hq⟩ : ∃ q, fewB z.typ = q := ⟨_, rfl⟩;rw [hq];have HQ2 := hZ hq;clear hb3 f0 f1 f2 f3 f4 f5 f6 hq FW g3;cases q with
     | false =>
      have RV : V = false := by
       rw [<- HV1.out];refine all_one _ _ _ _ HX.out ?_;have h1 : x.types.all fewNm = false := all_one _ _ _ _ HZ.out HQ2.out;unfold fewI; rw [h1]; simp
      subst RV;go_wp2_with fail
      go_ret;exact ⟨rfl, FIN.out⟩
     | true =>
      go_wp2_with fail
      go_roundw
      case rel => exact ⟨k + 1, by omega, by go_num, hZ (by rw [all_snoc _ _ _ _ HZ.out, HQk.out]; exact HQ2.out), HB3.out⟩
      case measure => simp [intOf]; omega
    ·have AL3 : Hid (x.types.all fewNm = true) := hZ (by rw [<- HQk.out, List.take_of_length_le (by rw [<- HL3.out]; omega)])
     have g4 := (HBk.out.cell (p := ⟨g, _, none⟩) hgo).trans E4.out;clear hbk;go_wp2_with fail
     clear g3 g4;go_loopw [6] (fun iv wr => ∃ k : Nat, k <= nv /\ iv = .int .i64 k /\ Hid ((x.vals.take k).all fewNm = true) /\ Below wo.heap.size wo wr) (fun iv _ => nv - (intOf iv).toNat)
     case atStart => exact ⟨0, by omega, rfl, hZ (by simp), HBk.out⟩
     case round =>
      obtain ⟨k, hk, rfl, HQk, hbk⟩ := hrel;obtain ⟨wk, rfl⟩ : ∃ wk : World, wk = wr := ⟨_, rfl⟩;have HBk := hZ hbk;have HBW := hZ (below_over HBo.out hbk);have g4 := (hbk.cell (p := ⟨g, _, none⟩) hgo).trans E4.out;by_cases hlk : k < nv
      ·obtain ⟨z, hz⟩ : ∃ z, x.vals[k]? = some z := ⟨_, List.getElem?_eq_getElem (by rw [<- HL4.out]; exact hlk)⟩
       obtain ⟨gt, ot, Bn, cB, Bs, dB, rfl, hgt, -, f0, f1, f2, f3, f4, f5, f6, hTz, -⟩ := (HVL.out.below hbk).nm hz;have FW := hZ (fewB_any z.typ _ wk ⟨_, rfl, hTz⟩);have HZ := hZ hz;have hk0 : (0 : Int) <= k := by omega
       have hk1 : (k : Int) < nv := by omega
       clear hz hTz hbk;go_wp2_with fail
       refine FW.out.mono ?_; rintro e w3 ⟨rfl, hb3⟩
       have HB3 := hZ (below_over HBk.out hb3);have FIN := hZ (below_over HBW.out hb3);obtain ⟨q, hq⟩ : ∃ q, fewB z.typ = q := ⟨_, rfl⟩;rw [hq];have HQ2 := hZ hq;clear hb3 f0 f1 f2 f3 f4 f5 f6 hq FW g4;cases q with
       | false =>
        have RV : V = false := by
         rw [<- HV1.out];refine all_one _ _ _ _ HX.out ?_;have h1 : x.vals.all fewNm = false := all_one _ _ _ _ HZ.out HQ2.out;unfold fewI; rw [h1]; simp
        subst RV;go_wp2_with fail
        go_ret;exact ⟨rfl, FIN.out⟩
       | true =>
        go_wp2_with fail
        go_roundw
        case rel => exact ⟨k + 1, by omega, by go_num, hZ (by rw [all_snoc _ _ _ _ HZ.out, HQk.out]; exact HQ2.out), HB3.out⟩
        case measure => simp [intOf]; omega
      ·have AL4 : Hid (x.vals.all fewNm = true) := hZ (by rw [<- HQk.out, List.take_of_length_le (by rw [<- HL4.out]; omega)])
       have NX : Hid ((env.take (j + 1)).all fewI = true) := hZ (by
        rw [all_snoc _ _ _ _ HX.out, HQ.out];unfold fewI
        rw [AL3.out, AL4.out, decide_eq_true TL.out, decide_eq_true VL.out]; rfl)
       clear hbk;go_wp2_with fail
       go_roundw
       case rel => exact ⟨j + 1, by omega, by go_num, NX, HBW.out⟩
       case measure => simp [intOf]; omega
  ·have RV : V = true := by rw [<- HV1.out, <- HQ.out, List.take_of_length_le (by rw [<- HN.out]; omega)]
   subst RV;go_wp2_with fail
   go_ret;exact ⟨rfl, HBo.out⟩
end Go.Proofs.YteecgiebimdbhaaGreatDoor
