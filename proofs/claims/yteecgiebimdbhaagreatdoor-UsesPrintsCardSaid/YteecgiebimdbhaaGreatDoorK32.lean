/-
  Several texts in one.
-/
import Derived.Test.YteecgiebimdbhaaGreatDoorK31
import Derived.Deep.DeepHandedRow
import Derived.Lib.LaidTab
import Derived.LaidLaws
import Derived.LaidHandle
import Derived.Stop.LaidErr
import Derived.Stop.Joined
import Derived.ChangeSame
import Derived.WideKeyArgs
import Derived.Test.YteecgiebimdbhaaGreatDoorRows
set_option maxRecDepth 100000
set_option maxHeartbeats 8000000
namespace Go.Proofs.YteecgiebimdbhaaGreatDoor
open Go.RowKit
open Go.Sort
open M
theorem rmay11_any (u : Us) (l : List Value) (w : World) (h : UsAt w l u) (hM : ∀ d ∈ u.lines, many d.typ <= 9000) : Calls Tryz.prog 10 #[.agg l.toArray] w fun e w' => e = .returned (.bool (mayU u)) /\ Below w.heap.size w w' := by
  obtain ⟨Ai, ci, Ad, cd, rfl, z2, z3, hI, hD⟩ := h;obtain ⟨w0, hw0⟩ : ∃ w0, w0 = w.alloc (.cells #[.slice Ai u.imps.length ci, .slice Ad u.lines.length cd] 25) := ⟨_, rfl⟩;have B0 : Below w.heap.size w w0 := by rw [hw0]; exact below_new (Below.refl _ _) _
  have O0 : w0.heap[w.heap.size]? = some (.cells #[.slice Ai u.imps.length ci, .slice Ad u.lines.length cd] 25 (0, 0)) := by rw [hw0]; exact heap_alloc_new w _
  have hl0 : w.heap.size < w0.heap.size := by rw [hw0]; simp
  obtain ⟨V, hV⟩ : ∃ V, mayU u = V := ⟨_, rfl⟩;rw [hV];have HV : Hid ((decide (u.imps.length <= 20) && (decide (u.lines.length <= 60) && (u.imps.all mayI && u.lines.all mayLn))) = V) := hZ hV;obtain ⟨ni, hni⟩ : ∃ ni, ni = u.imps.length := ⟨_, rfl⟩;obtain ⟨nd, hnd⟩ : ∃ nd, nd = u.lines.length := ⟨_, rfl⟩;rw [<- hni] at z2 O0 hw0 HV;rw [<- hnd] at z3 O0 hw0 HV;rw [<- hni, <- hnd];have HNI := hZ hni;have HND := hZ hnd;have HI := hZ (hI.below B0);have HD := hZ (hD.below B0);have HM := hZ hM;obtain ⟨x0, x1⟩ := cq2 O0;simp at x0 x1;have HO := hZ O0;have HB := hZ B0;have HW0 := hZ hw0;clear hV hI hD hM hw0 B0 O0 hni hnd;by_cases h1 : 20 < ni
  · have e1 : (20 : Int) < ni := by omega
    have RV : V = false := by rw [<- HV.out, show decide (ni <= 20) = false by simp; omega]; simp
    subst RV;go_enter Tryz.func10, Tryz.ntmps10
    go_upto_region 1 with fail
    rw [<- HW0.out];go_wp2_with fail
    go_ret;exact ⟨rfl, HB.out⟩
  have e1 : ¬ (20 : Int) < ni := by omega
  by_cases h2 : 60 < nd
  · have e2 : (60 : Int) < nd := by omega
    have RV : V = false := by rw [<- HV.out, show decide (nd <= 60) = false by simp; omega]; simp
    subst RV;go_enter Tryz.func10, Tryz.ntmps10
    go_upto_region 1 with fail
    rw [<- HW0.out];go_wp2_with fail
    go_ret;exact ⟨rfl, HB.out⟩
  have e2 : ¬ (60 : Int) < nd := by omega
  have HV1 : Hid ((u.imps.all mayI && u.lines.all mayLn) = V) := hZ (by
    rw [<- HV.out, decide_eq_true (show ni <= 20 by omega), decide_eq_true (show nd <= 60 by omega)]; rfl)
  clear HV h1 h2;go_enter Tryz.func10, Tryz.ntmps10
  go_upto_region 1 with fail
  rw [<- HW0.out];clear HW0;go_wp2_with fail
  clear e1 e2 x0 x1;go_loopw [3] (fun iv wr => ∃ j : Nat, j <= ni /\ iv = .int .i64 j /\ Hid ((u.imps.take j).all mayI = true) /\ Below w0.heap.size w0 wr) (fun iv _ => ni - (intOf iv).toNat)
  case atStart => exact ⟨0, by omega, rfl, hZ (by simp), Below.refl _ _⟩
  case round =>
    obtain ⟨j, hj, rfl, HQ, hb⟩ := hrel;obtain ⟨wo, rfl⟩ : ∃ wo : World, wo = wr := ⟨_, rfl⟩;have O := (hb.block _ hl0).trans HO.out;have x0 := cZ O 0;simp at x0;by_cases hlt : j < ni
    · obtain ⟨x, hx⟩ : ∃ x, u.imps[j]? = some x := ⟨_, List.getElem?_eq_getElem (by rw [<- HNI.out]; exact hlt)⟩
      obtain ⟨g, o, rfl, -, a0, a1, a2, a3, y1, y2, y3⟩ := (HI.out.below hb).im hx;obtain ⟨w8, hw8⟩ : ∃ w8, w8 = wo.alloc (.cells #[.string x.pkg, .int .i64 x.major, .string x.mod, .string x.asn] 71) := ⟨_, rfl⟩;have B8 : Below wo.heap.size wo w8 := by rw [hw8]; exact below_new (Below.refl _ _) _
      have O8 : w8.heap[wo.heap.size]? = some (.cells #[.string x.pkg, .int .i64 x.major, .string x.mod, .string x.asn] 71 (0, 0)) := by rw [hw8]; exact heap_alloc_new wo _
      have hl8 : wo.heap.size < w8.heap.size := by rw [hw8]; simp
      have HB8 := hZ (below_over hb B8);have HW8 := hZ hw8;have HX := hZ hx;have S0 := hZ (fun w => refSmall_any x.pkg w y1);have S1 := hZ (fun w => refSmall_any x.mod w y2);have S2 := hZ (fun w => refSmall_any x.asn w y3);obtain ⟨q, hq⟩ : ∃ q, mayI x = q := ⟨_, rfl⟩;have HQ2 := hZ hq;have HV2 : Hid ((smallB x.pkg.data.toList && (smallB x.mod.data.toList && (smallB x.asn.data.toList && (decide (1 <= x.major) && decide (x.major <= 999999999))))) = q) := hZ hq;generalize smallB x.pkg.data.toList = b0 at S0 HV2
      generalize smallB x.mod.data.toList = b1 at S1 HV2
      generalize smallB x.asn.data.toList = b2 at S2 HV2
      have p0 := cZ O8 0;simp at p0;have HO8 := hZ O8;clear hx hq hw8 O8 B8 hb O y1 y2 y3;go_upto_region 7 with fail
      rw [<- HW8.out];clear HW8 a0 a1 a2 a3 x0;go_wp2_with fail
      refine (S0.out _).mono ?_; rintro e w1 ⟨rfl, hb1⟩
      have O1 := (hb1.block _ hl8).trans HO8.out;have p2 := cZ O1 2;simp at p2;clear p0;go_wp2_with fail
      refine (S1.out _).mono ?_; rintro e w2 ⟨rfl, hb2⟩
      have hl1 := Nat.lt_of_lt_of_le hl8 hb1.size;have O2 := (hb2.block _ hl1).trans O1;have p3 := cZ O2 3;simp at p3;clear p2;go_wp2_with fail
      refine (S2.out _).mono ?_; rintro e w3 ⟨rfl, hb3⟩
      have O3 := (hb3.block _ (Nat.lt_of_lt_of_le hl1 hb2.size)).trans O2;have p1 := cZ O3 1;simp at p1;have HB3 := hZ (below_over (below_over (below_over HB8.out hb1) hb2) hb3);have FIN := hZ (below_over HB.out HB3.out);clear hb1 hb2 hb3 O1 O2 O3 p3 S0 S1 S2 hl8 hl1 HO8;cases q with
      | true =>
        have hv := HV2.out;simp only [Bool.and_eq_true, decide_eq_true_eq] at hv;obtain ⟨rfl, rfl, rfl, m1, m2⟩ := hv;have e1 : ¬ x.major < 1 := by omega
        have e2 : ¬ (999999999 : Int) < x.major := by omega
        clear m1 m2;go_wp2_with fail
        go_roundw
        case rel => exact ⟨j + 1, by omega, by go_num, hZ (by rw [all_snoc _ _ _ _ HX.out, HQ.out, HQ2.out]; rfl), HB3.out⟩
        case measure => simp [intOf]; omega
      | false =>
        have RV : V = false := by rw [<- HV1.out, all_one _ _ _ _ HX.out HQ2.out]; rfl
        subst RV;have ev := HV2.out;clear HV2 HV1;by_cases e1 : x.major < 1
        all_goals (by_cases e2 : (999999999 : Int) < x.major)
        all_goals (cases b0 <;> cases b1 <;> cases b2)
        all_goals first
          | (exfalso; rw [decide_eq_true (show 1 <= x.major by omega), decide_eq_true (show x.major <= 999999999 by omega)] at ev; cases ev; done)
          | (clear ev; go_wp2_with fail; go_ret; exact ⟨rfl, FIN.out⟩)
    · have RI : Hid (u.imps.all mayI = true) := hZ (by
        have h := HQ.out;rwa [List.take_of_length_le (by rw [<- HNI.out]; omega)] at h)
      have HV2 : Hid (u.lines.all mayLn = V) := hZ (by rw [<- HV1.out, RI.out]; rfl);clear HV1 HQ;have HBo := hZ hb;go_wp2_with fail
      clear x0 O hb;go_loopw [8] (fun iv wr => ∃ j : Nat, j <= nd /\ iv = .int .i64 j /\ Hid ((u.lines.take j).all mayLn = true) /\ Below w0.heap.size w0 wr) (fun iv _ => nd - (intOf iv).toNat)
      case atStart => exact ⟨0, by omega, rfl, hZ (by simp), HBo.out⟩
      case round =>
        obtain ⟨k, hk, rfl, HQ, hb⟩ := hrel;obtain ⟨wo, rfl⟩ : ∃ wo : World, wo = wr := ⟨_, rfl⟩;have O := (hb.block _ hl0).trans HO.out;have x1 := cZ O 1;simp at x1;by_cases hlt : k < nd
        · obtain ⟨x, hx⟩ : ∃ x, u.lines[k]? = some x := ⟨_, List.getElem?_eq_getElem (by rw [<- HND.out]; exact hlt)⟩
          obtain ⟨g, o, v0, v1, v2, v3, v4, v5, v6, rfl, -, a0, am, a1, u0, u1, u2, u3, u4, u5, u6, us, zm, zs⟩ := (HD.out.below hb).ln hx;obtain ⟨An, cA, As, cS, ev, -⟩ := us.parts;simp only [List.cons.injEq, and_true] at ev;obtain ⟨rfl, rfl, rfl, rfl, rfl, rfl, rfl⟩ := ev;have hmx := HM.out x (List.mem_of_getElem? hx);obtain ⟨w8, hw8⟩ : ∃ w8, w8 = wo.alloc (.cells #[.int .i64 x.kind, .string x.mod, .string x.name, .int .i64 x.typ.kind, .string x.typ.pkg, .int .i64 x.typ.major, .string x.typ.mod, .string x.typ.name, .slice An x.typ.names.length cA, .slice As x.typ.subs.length cS] 60) := ⟨_, rfl⟩;have B8 : Below wo.heap.size wo w8 := by rw [hw8]; exact below_new (Below.refl _ _) _
          have O8 : w8.heap[wo.heap.size]? = some (.cells #[.int .i64 x.kind, .string x.mod, .string x.name, .int .i64 x.typ.kind, .string x.typ.pkg, .int .i64 x.typ.major, .string x.typ.mod, .string x.typ.name, .slice An x.typ.names.length cA, .slice As x.typ.subs.length cS] 60 (0, 0)) := by rw [hw8]; exact heap_alloc_new wo _
          have hl8 : wo.heap.size < w8.heap.size := by rw [hw8]; simp
          have HB8 := hZ (below_over hb B8);have HW8 := hZ hw8;have HX := hZ hx;have S0 := hZ (fun w => refSmall_any x.name w zs);have S1 := hZ (fun w => refGreat_any x.name w zs);have S2 := hZ (fun w => refSmall_any x.mod w zm);have MY : Hid (∀ w', Below wo.heap.size wo w' -> Calls Tryz.prog 28 #[.agg #[.int .i64 x.typ.kind, .string x.typ.pkg, .int .i64 x.typ.major, .string x.typ.mod, .string x.typ.name, .slice An x.typ.names.length cA, .slice As x.typ.subs.length cS]] w' fun e w'' => e = .returned (.bool (mayT x.typ)) /\ Below w'.heap.size w' w'') := hZ (fun w' hb => may_any x.typ _ w' hmx ⟨_, rfl, us.keep hb⟩);obtain ⟨q, hq⟩ : ∃ q, mayLn x = q := ⟨_, rfl⟩;have HQ2 := hZ hq;have HV3 : Hid ((smallB x.mod.data.toList && (mayT x.typ && ((x.kind == 1) && smallB x.name.data.toList || (x.kind == 2) && greatB x.name.data.toList))) = q) := hZ hq;generalize smallB x.name.data.toList = b0 at S0 HV3
          generalize greatB x.name.data.toList = b1 at S1 HV3
          generalize smallB x.mod.data.toList = b2 at S2 HV3
          generalize mayT x.typ = b3 at MY HV3
          have p2 := cZ O8 2;simp at p2;have HO8 := hZ O8;have HBa := hZ B8;clear hx hq hw8 O8 B8 hb O zm zs us hmx;go_upto_region 16 with fail
          rw [<- HW8.out];clear HW8 a0 am a1 u0 u1 u2 u3 u4 u5 u6 x1;go_wp2_with fail
          refine (S0.out _).mono ?_; rintro e w1 ⟨rfl, hb1⟩
          have O1 := (hb1.block _ hl8).trans HO8.out;have p2 := cZ O1 2;simp at p2;go_wp2_with fail
          refine (S1.out _).mono ?_; rintro e w2 ⟨rfl, rfl⟩
          have p1 := cZ O1 1;simp at p1;clear p2;go_wp2_with fail
          refine (S2.out _).mono ?_; rintro e w3 ⟨rfl, hb3⟩
          have hl2 := Nat.lt_of_lt_of_le hl8 hb1.size;have O3 := (hb3.block _ hl2).trans O1;have p3 := cZ O3 3;have p4 := cZ O3 4;have p5 := cZ O3 5;have p6 := cZ O3 6;have p7 := cZ O3 7;have p8 := cZ O3 8;have p9 := cZ O3 9;simp at p3 p4 p5 p6 p7 p8 p9;have HB31 := hZ (below_over hb1 hb3);have HMY := hZ (MY.out _ (below_over HBa.out HB31.out));have HO3 := hZ O3;have hl3 := Nat.lt_of_lt_of_le hl2 hb3.size;clear MY S0 S1 S2 p1 hb1 hb3 O1 O3;go_wp2_with fail
          refine HMY.out.mono ?_; rintro e w4 ⟨rfl, hb4⟩
          have O4 := (hb4.block _ hl3).trans HO3.out;have p0 := cZ O4 0;simp at p0;have HB4 := hZ (below_over (below_over HB8.out HB31.out) hb4);have FIN := hZ (below_over HB.out HB4.out);clear hb4 O4 p3 p4 p5 p6 p7 p8 p9 hl2 hl3 hl8 HO3 HO8 HMY HB31 HBa;obtain ⟨c1, k1⟩ : ∃ c, (x.kind == 1) = c := ⟨_, rfl⟩;obtain ⟨c2, k2⟩ : ∃ c, (x.kind == 2) = c := ⟨_, rfl⟩;have ev := HV3.out;rw [k1, k2] at ev;clear HV3;cases q with
          | true =>
            cases b0 <;> cases b1 <;> cases b2 <;> cases b3 <;> cases c1 <;> cases c2
            all_goals first
              | (exfalso; cases ev; done)
              | (clear ev
                 go_wp2_with fail
                 go_roundw
                 case rel => exact ⟨k + 1, by omega, by go_num, hZ (by rw [all_snoc _ _ _ _ HX.out, HQ.out, HQ2.out]; rfl), HB4.out⟩
                 case measure => simp [intOf]; omega)
          | false =>
            have RV : V = false := by rw [<- HV2.out, all_one _ _ _ _ HX.out HQ2.out]
            subst RV;cases b0 <;> cases b1 <;> cases b2 <;> cases b3 <;> cases c1 <;> cases c2
            all_goals first
              | (exfalso; cases ev; done)
              | (clear ev; go_wp2_with fail; go_ret; exact ⟨rfl, FIN.out⟩)
        · have RV : V = true := by rw [<- HV2.out, <- HQ.out, List.take_of_length_le (by rw [<- HND.out]; omega)]
          subst RV;have FIN := hZ (below_over HB.out hb);clear O;go_wp2_with fail
          go_ret;exact ⟨rfl, FIN.out⟩
section
variable {P : Program} (w : World)
theorem run_equalIn_iface_int (d : Nat) {ti tn : TypeId} {ms : Array (String × TypeId)} {i : TypeInfo} {k : IntKind} (a b : Int)
    (hi : P.underlying ti = some (.interface ms)) (hn : P.underlying tn = some (.int k)) (hinfo : P.info? tn = some i) (hcomp : i.comparable = true) :
    (Op.equalIn (d + 2) ti (.iface tn (.int k a)) (.iface tn (.int k b))).run P w = .ok (a == b) w := by
  simp [Op.equalIn, run_underlying hi, run_underlying hn, typeInfo, hinfo, hcomp]
theorem run_eql_iface_int {ti tn : TypeId} {ms : Array (String × TypeId)} {i : TypeInfo} {k : IntKind} (a b : Int)
    (hi : P.underlying ti = some (.interface ms)) (hn : P.underlying tn = some (.int k)) (hinfo : P.info? tn = some i) (hcomp : i.comparable = true) :
    (binOp .eql ti (.iface tn (.int k a)) (.iface tn (.int k b))).run P w = .ok (.bool (a == b)) w := by
  simp only [binOp];simp [Op.equal, Op.maxDepth, run_equalIn_iface_int w 9998 a b hi hn hinfo hcomp]
end
end Go.Proofs.YteecgiebimdbhaaGreatDoor
namespace Go.Proofs.YteecgiebimdbhaaGreatDoor
open Go.RowKit
open M
theorem code_comparable : (Tryz.prog.info? 32).map (·.comparable) = some true := by kernel_rfl
theorem eqErr (a b : Int) (w : World) : (binOp .eql 29 (.iface 32 (.int .i64 a)) (.iface 32 (.int .i64 b))).run Tryz.prog w = .ok (.bool (a == b)) w := by
  obtain ⟨i, hi, hc⟩ := Option.map_eq_some_iff.1 code_comparable;exact run_eql_iface_int w a b Tryz.underlying29 Tryz.underlying32 hi hc
end Go.Proofs.YteecgiebimdbhaaGreatDoor
namespace Go.Proofs.YteecgiebimdbhaaGreatDoor
open Go.RowKit
open Go.Sort
open M
theorem few_lines {u : Us} (h : fewU u = true) : ∀ d ∈ u.lines, many d.typ <= 9000 := by
  unfold fewU at h
  simp only [Bool.and_eq_true, List.all_eq_true] at h;intro d hd;have := h.2.2 d hd
  unfold fewLn at this
  simp only [Bool.and_eq_true] at this;have := few_small this.1
  omega
theorem usesPrints_any (u : Us) (l : List Value) (w : World) (hv : UsAt w l u) (he : CEnv w) (hg : ErrT w) :
    Calls Tryz.prog 3 #[.agg l.toArray] w fun e w' => e = .returned (.bool true) /\ Below w.heap.size w w' := by
  have HV := hZ hv;have HE := hZ he;have HG := hZ hg;obtain ⟨Ai, ci, Ad, cd, rfl, -, -, -, -⟩ := hv;clear he hg;obtain ⟨wb, hwb⟩ : ∃ wb, wb = w.alloc (.cells #[.slice Ai u.imps.length ci, .slice Ad u.lines.length cd] 25) := ⟨_, rfl⟩;have HBB : Hid (Below w.heap.size w wb) := hZ (by rw [hwb]; exact below_new (Below.refl _ _) _)
  have HX : Hid (∀ w', Below wb.heap.size wb w' -> ∀ i v, (#[.slice Ai u.imps.length ci, .slice Ad u.lines.length cd] : Array Value)[i]? = some v -> w'.cell? ⟨w.heap.size, i, none⟩ = some v) := hZ (fun w' hb i v hv => by
    have h1 : wb.heap[w.heap.size]? = some (.cells #[.slice Ai u.imps.length ci, .slice Ad u.lines.length cd] 25 (0, 0)) := by rw [hwb]; exact heap_alloc_new w _
    rw [(bcell hb).1 _ _ (Array.getElem?_eq_some_iff.1 h1).1, cZ h1]; exact hv)
  have HV0 : Hid (∀ w', Below wb.heap.size wb w' -> UsAt w' [.slice Ai u.imps.length ci, .slice Ad u.lines.length cd] u) := hZ (fun w' hb => HV.out.below (below_over HBB.out hb));have HE0 : Hid (∀ w', Below wb.heap.size wb w' -> CEnv w') := hZ (fun w' hb => HE.out.on (below_over HBB.out hb));have HG0 : Hid (∀ w', Below wb.heap.size wb w' -> ErrT w') := hZ (fun w' hb => HG.out.on (below_over HBB.out hb));have HWB := hZ hwb;clear hwb HV HE HG;go_enter Tryz.func3, Tryz.ntmps3
  go_wp2_with fail
  rw [<- HWB.out];refine (up11_of _ (HE0.out _ (Below.refl _ _)) (HG0.out _ (Below.refl _ _))).mono ?_; rintro e w1 ⟨rfl, hb1⟩
  have HB1 := hZ hb1;clear hb1;have x0 := HX.out w1 HB1.out 0 _ rfl;have x1 := HX.out w1 HB1.out 1 _ rfl;go_wp2_with fail
  refine (rfew11_any u _ _ (HV0.out _ HB1.out)).mono ?_; rintro e w2 ⟨rfl, hb2⟩
  have HB2 := hZ (below_over HB1.out hb2);clear x0 x1 hb2;rcases hid_or (fewU u) with hf | hf
  · rw [hf.out]
    go_wp2_with fail
    go_ret;exact ⟨rfl, below_over HBB.out HB2.out⟩
  have HD := hZ (few_lines hf.out);rw [hf.out];rcases hid_or (mayU u) with hm | hm
  · have x0 := HX.out w2 HB2.out 0 _ rfl
    have x1 := HX.out w2 HB2.out 1 _ rfl;go_wp2_with fail
    refine (cprint11_no u _ _ (HV0.out _ HB2.out) hm.out).mono ?_; rintro e w3 ⟨rfl, hb3⟩
    have HB3 := hZ (below_over HB2.out hb3);clear x0 x1 hb3;have x0 := HX.out w3 HB3.out 0 _ rfl;have x1 := HX.out w3 HB3.out 1 _ rfl;go_wp2_with fail
    refine (rmay11_any u _ _ (HV0.out _ HB3.out) HD.out).mono ?_; rintro e w4 ⟨rfl, hb4⟩; rw [hm.out]
    have HB4 := hZ (below_over HB3.out hb4);clear x0 x1 hb4;have x0 := HX.out w4 HB4.out 0 _ rfl;have x1 := HX.out w4 HB4.out 1 _ rfl;have he := eqErr 1 1;go_wp2_with fail
    refine (cmay11_any u _ _ (HV0.out _ HB4.out)).mono ?_; rintro e w5 ⟨rfl, hb5⟩; rw [hm.out]
    have HB5 := hZ (below_over HB4.out hb5);clear x0 x1 hb5;go_wp2_with fail
    go_ret;exact ⟨rfl, below_over HBB.out HB5.out⟩
  · have x0 := HX.out w2 HB2.out 0 _ rfl
    have x1 := HX.out w2 HB2.out 1 _ rfl;go_wp2_with fail
    refine (cprint11_yes u _ _ (HV0.out _ HB2.out) hm.out (HE0.out _ HB2.out).pow).mono ?_; rintro e w3 ⟨rfl, hb3⟩
    have HB3 := hZ (below_over HB2.out hb3);clear x0 x1 hb3;have x0 := HX.out w3 HB3.out 0 _ rfl;have x1 := HX.out w3 HB3.out 1 _ rfl;go_wp2_with fail
    refine (rmay11_any u _ _ (HV0.out _ HB3.out) HD.out).mono ?_; rintro e w4 ⟨rfl, hb4⟩; rw [hm.out]
    have HB4 := hZ (below_over HB3.out hb4);clear x0 x1 hb4;have x0 := HX.out w4 HB4.out 0 _ rfl;have x1 := HX.out w4 HB4.out 1 _ rfl;go_wp2_with fail
    refine (cmay11_any u _ _ (HV0.out _ HB4.out)).mono ?_; rintro e w5 ⟨rfl, hb5⟩; rw [hm.out]
    have HB5 := hZ (below_over HB4.out hb5);clear x0 x1 hb5;have x0 := HX.out w5 HB5.out 0 _ rfl;have x1 := HX.out w5 HB5.out 1 _ rfl;go_wp2_with fail
    refine (rprint11_any u _ _ (HV0.out _ HB5.out) hm.out).mono ?_; rintro e w6 ⟨rfl, hb6⟩
    have HB6 := hZ (below_over HB5.out hb6);clear x0 x1 hb6;go_wp2_with fail
    go_ret;exact ⟨rfl, below_over HBB.out HB6.out⟩
end Go.Proofs.YteecgiebimdbhaaGreatDoor
namespace Go.Proofs.YteecgiebimdbhaaGreatDoor
open Go Go.ChangeShapes Go.WideShapes Go.ChangeAt Go.RowKit
theorem own : ownKnob Tryz.prog.godebug = none := by kernel_rfl
theorem laidOut : laidOutB Tryz.prog = true := by kernel_rfl
theorem gPow : Tryz.prog.globalNamed "internal/strconv.uint64pow10" = some 1 := by kernel_rfl
theorem gPowType : (Tryz.prog.globals[1]?).map (·.type) = some 264 := by kernel_rfl
theorem cellsPow : Tryz.prog.cellsOf 264 = 20 := by kernel_rfl
theorem cellsU64 : Tryz.prog.cellsOf 237 = 1 := by kernel_rfl
theorem powData : (Rows.laid_internal_strconv_uint64pow10 : DataW Unit) = Lib.tabData .u64 Lib.pow10Tab := by kernel_rfl
theorem errVar : Tryz.prog.globalNamed "errors.errorType" = some 0 := by kernel_rfl
theorem errRt : (Tryz.prog.cutTypes.find? (·.1 == "internal/reflectlite.rtype")).map (·.2) = some 172 := by kernel_rfl
theorem errRow : ((List.range 386).filter fun t => Tryz.prog.rowNamed t [101, 114, 114, 111, 114]) = [29] := by kernel_rfl
theorem typesSize : Tryz.prog.types.size = 386 := by kernel_rfl
theorem gSyn : Tryz.prog.globalNamed "strconv.ErrSyntax" = some 5 := by kernel_rfl
theorem gSynType : (Tryz.prog.globals[5]?).map (·.type) = some 29 := by kernel_rfl
theorem gRng : Tryz.prog.globalNamed "strconv.ErrRange" = some 6 := by kernel_rfl
theorem gRngType : (Tryz.prog.globals[6]?).map (·.type) = some 29 := by kernel_rfl
theorem cellsES : Tryz.prog.cellsOf 344 = 1 := by kernel_rfl
theorem cellsStr : Tryz.prog.cellsOf 9 = 1 := by kernel_rfl
def laidL : List (String × DataW Unit) := [("math/bits.deBruijn32tab", Rows.laid_math_bits_deBruijn32tab), ("math/bits.deBruijn64tab", Rows.laid_math_bits_deBruijn64tab), ("internal/strconv.uint64pow10", Rows.laid_internal_strconv_uint64pow10), ("errors.errorType", Rows.laid_errors_errorType), ("strconv.ErrRange", Rows.laid_strconv_ErrRange), ("strconv.ErrSyntax", Rows.laid_strconv_ErrSyntax)]
theorem parts_of {W : World} (h : laidMetH Tryz.prog laidL W) :
    laidMet Tryz.prog [("math/bits.deBruijn32tab", Rows.laid_math_bits_deBruijn32tab), ("math/bits.deBruijn64tab", Rows.laid_math_bits_deBruijn64tab), ("internal/strconv.uint64pow10", Rows.laid_internal_strconv_uint64pow10), ("strconv.ErrRange", Rows.laid_strconv_ErrRange), ("strconv.ErrSyntax", Rows.laid_strconv_ErrSyntax)] W /\ handlesMet Tryz.prog [("errors.errorType", Rows.laid_errors_errorType)] W := h
theorem errT_of {W : World} (h : laidMetH Tryz.prog laidL W) : ErrT W := by
  obtain ⟨name, u, ty, e1, e2, e3, e4, e5⟩ := (parts_of h).2 _ (List.mem_singleton.2 rfl);have en : name = [101, 114, 114, 111, 114] := (Option.some.inj e1).symm;subst en;obtain rfl := Option.some.inj (errRt.symm.trans e2);have hm : ty ∈ (List.range 386).filter fun t => Tryz.prog.rowNamed t [101, 114, 114, 111, 114] := List.mem_filter.2 ⟨List.mem_range.2 (by rw [<- typesSize]; exact e3), e4⟩
  rw [errRow] at hm;obtain rfl := List.mem_singleton.1 hm;have hh : typeHandle Tryz.prog 29 = .pointer (some ⟨7, 29, none⟩) := by kernel_rfl
  rw [hh] at e5;unfold ErrT
  simpa using World.var?_cell errVar e5 0
theorem rowES (u : TypeId) (s : String) (hs : "*" ++ "errors.errorString" = s) (h : Tryz.prog.typeName? 3 u = some s) : u = 342 := by
  subst hs;exact typeName_ptr_named (nm := "errors.errorString") (by kernel_rfl) (by kernel_rfl) (by decide) u h
theorem cenv_of {W : World} (h : laidMetH Tryz.prog laidL W) : CEnv W := by
  have h3 := (parts_of h).1.tail.tail;have h4 := h3.tail;have h5 := h4.tail;have h3' := h3
  rw [powData] at h3';obtain ⟨a4, s4, v4, -⟩ := laid_sentinel h4 gRng gRngType Tryz.underlying29 (fun u hu => rowES u _ (by kernel_rfl) hu) Tryz.underlying342 Tryz.underlying344 rfl rfl Tryz.underlying9 cellsES cellsStr;obtain ⟨a5, s5, v5, -⟩ := laid_sentinel h5 gSyn gSynType Tryz.underlying29 (fun u hu => rowES u _ (by kernel_rfl) hu) Tryz.underlying342 Tryz.underlying344 rfl rfl Tryz.underlying9 cellsES cellsStr;exact ⟨Lib.tabIs_of_head gPow gPowType Tryz.underlying264 Tryz.underlying237 cellsU64 cellsPow h3', ⟨_, _, by simpa using World.var?_cell gSyn v5 0⟩, ⟨_, _, by simpa using World.var?_cell gRng v4 0⟩⟩
def putTab (g : Nat) (k : IntKind) (zs : List Int) (h : Array Obj) : Array Obj := h.modify g fun o =>
  match o with
  | .cells _ t frozen => .cells (zs.map fun z => Value.int k z).toArray t frozen
  | o => o
def putOne (g : Nat) (v : Value) (h : Array Obj) : Array Obj := h.modify g fun o =>
  match o with
  | .cells _ t frozen => .cells #[v] t frozen
  | o => o
def tab32 : List Int := [0, 1, 28, 2, 29, 14, 24, 3, 30, 22, 20, 15, 25, 17, 4, 8, 31, 27, 13, 23, 21, 19, 16, 7, 26, 12, 18, 6, 11, 5, 10, 9]
def tab64 : List Int := [0, 1, 56, 2, 57, 49, 28, 3, 61, 58, 42, 50, 38, 29, 17, 4, 62, 47, 59, 36, 45, 43, 51, 22, 53, 39, 33, 30, 24, 18, 12, 5, 63, 55, 48, 27, 60, 41, 37, 16, 46, 35, 44, 21, 52, 32, 23, 11, 54, 26, 40, 15, 34, 20, 31, 10, 25, 14, 19, 9, 13, 8, 7, 6]
def txtRng : ByteArray := ⟨#[118, 97, 108, 117, 101, 32, 111, 117, 116, 32, 111, 102, 32, 114, 97, 110, 103, 101]⟩
def txtSyn : ByteArray := ⟨#[105, 110, 118, 97, 108, 105, 100, 32, 115, 121, 110, 116, 97, 120]⟩
noncomputable def laidWorld (os : Os) : World :=
  let w0 := World.holding Tryz.prog os ⟨#[], #[], []⟩
  let n := w0.heap.size
  { w0 with heap := putOne 6 (.iface 342 (.pointer (some ⟨n, 0, none⟩))) (putOne 5 (.iface 342 (.pointer (some ⟨n + 1, 0, none⟩)))
      (putOne 0 (.iface 172 (.agg #[.pointer (some ⟨7, 29, none⟩)]))
        (putTab 3 .u8 tab64 (putTab 2 .u8 tab32 (putTab 1 .u64 Lib.pow10Tab
          ((w0.heap.push (.cells #[.string txtRng] 344 (0, 0))).push (.cells #[.string txtSyn] 344 (0, 0)))))))) }
theorem laidWorld_met (os : Os) (args : Array Value) (h : laidMet Tryz.prog [("math/bits.deBruijn32tab", Rows.laid_math_bits_deBruijn32tab), ("math/bits.deBruijn64tab", Rows.laid_math_bits_deBruijn64tab), ("internal/strconv.uint64pow10", Rows.laid_internal_strconv_uint64pow10), ("strconv.ErrRange", Rows.laid_strconv_ErrRange), ("strconv.ErrSyntax", Rows.laid_strconv_ErrSyntax)] ((laidWorld os).forCall (fun _ _ => 0) ⟨#[], args, []⟩).memory) :
    laidMetH Tryz.prog laidL ((laidWorld os).forCall (fun _ _ => 0) ⟨#[], args, []⟩).memory :=
  laidMetH_of_parts h (by kernel_rfl)
end Go.Proofs.YteecgiebimdbhaaGreatDoor
namespace Go.Proofs.YteecgiebimdbhaaGreatDoor
open Go Go.RowKit Go.WideShapes Go.ChangeShapes
section
variable {H : Type} {enc : TypeId × Value -> H} {P : Program}
theorem post_of_below {f : Func} {s : ChangeSpec} {apart fresh handsOn again : Bool} {W W' : World} {args : Array Value} {v : Value} {ds gs : List (DataW H)} {before pa pv : List MemPlace}
    (hW : DataW.Whole enc P f.params.toList s.vars apart W args.toList ds gs before)
    (hres : ∀ (b : Nat) (sp : Nat -> Bool) (hd : Bool), DataW.TrodAll enc P W' b sp hd f.resultTypes.toList (v.resultList f.resultTypes.size) (s.fn H (ds ++ gs)).results [])
    (hargs : ∀ sp : Nat -> Bool, (∀ p ∈ before, sp p.block = true) -> DataW.TrodAll enc P W' 0 sp true f.params.toList args.toList (s.fn H (ds ++ gs)).args pa)
    (hvars : ∀ sp : Nat -> Bool, (∀ p ∈ before, sp p.block = true) -> DataW.TrodVars enc P W' sp s.vars (s.fn H (ds ++ gs)).vars pv)
    (hps : before = pa ++ pv) (hb : Below W.heap.size W W')
    (hok : ∀ (j : Nat) (t : TypeId) (r : Value), f.resultTypes[j]? = some t -> (v.resultList f.resultTypes.size)[j]? = some r -> Value.okWide P W' .any 0 t r) :
    s.post enc P f apart fresh handsOn again W args v W' := by
  have hlt : ∀ p ∈ before, p.block < W.heap.size := fun p hp => hW.lt p hp
  have hold : ∀ p ∈ before, (fun b => decide (b < W.heap.size)) p.block = true := fun p hp => by simpa using hlt p hp
  refine ⟨ds, gs, before, [], pa, pv, hW, hres _ _ _, hargs _ hold, hvars _ hold, World.keptBut_mono (fun p hp => ⟨hp, ?_⟩) (hb.frame (· ∈ before)), fun _ => ?_⟩
  · rw [hps, List.mem_append] at hp
    exact Or.inr hp
  · obtain ⟨_, _, _, _, _, hz, hn⟩ := hW
    refine ⟨hok, _, _, ([] ++ pa) ++ pv, ⟨[] ++ pa, pv, trodAll_append (hargs _ (fun _ _ => rfl)) (hres _ _ _), hvars _ (fun _ _ => rfl), rfl, ?_, ?_⟩, ?_⟩
    · intro b off hp
      have hin : MemPlace.cell b off ∈ before := by rw [hps]; simpa using hp
      rw [hb.frozen (hlt _ hin)];exact hz b off hin
    · intro ha
      have := hn ha
      rw [hps] at this;simpa using this
    · intro p hp _
      rw [hps];simpa using hp
theorem trodAll_stays (hl : laidOutB P = true) {W W' : World} {sp : Nat -> Bool} (hb : Below W.heap.size W W') :
    ∀ (ts : List TypeId) (vs : List Value) (ds : List (DataW H)) (ps : List MemPlace), (∀ t ∈ ts, P.readableRec t = true /\ t < P.types.size) ->
      DataW.TrodAll enc P W 0 (fun _ => true) true ts vs ds ps -> (∀ x ∈ ps, x.block < W.heap.size) -> (∀ x ∈ ps, sp x.block = true) -> DataW.TrodAll enc P W' 0 sp true ts vs ds ps
  | [], vs, ds, ps, _, h, _, _ => by
    obtain ⟨rfl, rfl, rfl⟩ := trodAll_nil h;exact trodAll_mk0
  | t :: ts, vs, ds, ps, ht, h, hlt, hs => by
    obtain ⟨v, vs', d, ds', p, q, rfl, rfl, rfl, h0, h1⟩ := trodAll_cons h;obtain ⟨hr, hrow⟩ := ht t (by simp)
    exact ⟨p, q, WideElems.Trod_stays hl hr hrow h0 (fun x hx => hb.same (hlt x (by simp [hx]))) (fun x hx => hs x (by simp [hx])),
      trodAll_stays hl hb ts vs' ds' q (fun u hu => ht u (by simp [hu])) h1 (fun x hx => hlt x (by simp [hx])) (fun x hx => hs x (by simp [hx])), rfl⟩
theorem law_post {f : Func} {s : ChangeSpec} {apart fresh handsOn again : Bool} {W W' : World} {args : Array Value} {ds gs : List (DataW H)} {before : List MemPlace} {tb : TypeId}
    (hl : laidOutB P = true) (hro : f.params.toList.all (fun t => P.readableRec t && decide (t < P.types.size)) = true) (hres : f.resultTypes = #[tb]) (hbool : P.underlying tb = some .bool) (hvars : s.vars = [])
    (hW : DataW.Whole enc P f.params.toList s.vars apart W args.toList ds gs before) (hb : Below W.heap.size W W')
    (hs : s.fn H (ds ++ gs) = { results := [.lit (.bool true)], args := ds }) :
    s.post enc P f apart fresh handsOn again W args (.bool true) W' := by
  have hW' := hW
  obtain ⟨p, q, hA, hV, hpq, _, _⟩ := hW;rw [hvars] at hV;obtain ⟨rfl, rfl⟩ := trodVars_none hV;rw [List.append_nil] at hpq;subst hpq;have hlt : ∀ x ∈ before, x.block < W.heap.size := fun x hx => hW'.lt x hx
  have hro' : ∀ t ∈ f.params.toList, P.readableRec t = true /\ t < P.types.size := fun t ht => by
    have := List.all_eq_true.1 hro t ht
    simpa using this
  refine post_of_below (pa := before) (pv := []) hW' ?_ ?_ ?_ (by simp) hb ?_
  · intro b sp hd
    rw [hs, hres];exact trodAll_mk1 (shut_bool hbool true)
  · intro sp hsp
    rw [hs];exact trodAll_stays hl hb _ _ _ _ hro' hA hlt hsp
  · intro sp _
    rw [hs, hvars];exact rfl
  · exact ok_one hres rfl (okWide_bool_mk hbool true)
end
end Go.Proofs.YteecgiebimdbhaaGreatDoor
