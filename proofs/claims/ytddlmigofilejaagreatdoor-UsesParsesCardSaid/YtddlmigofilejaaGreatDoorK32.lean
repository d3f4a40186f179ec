/-
  Several texts in one.
-/
import Derived.Test.YtddlmigofilejaaGreatDoorK31
import Derived.Deep.DeepHandedRow
import Derived.Lib.LaidTab
import Derived.LaidLaws
import Derived.LaidHandle
import Derived.Stop.LaidErr
import Derived.Stop.Joined
import Derived.ChangeSame
import Derived.WideKeyArgs
import Derived.Test.YtddlmigofilejaaGreatDoorRows
set_option maxRecDepth 100000
set_option maxHeartbeats 8000000
namespace Go.Proofs.YtddlmigofilejaaGreatDoor
open Go.RowKit
open Go.Sort
open M
theorem same11_any (m : Us) (l l' : List Value) (w : World) (h : UsAt w l m) (h' : UsAt w l' m) : Calls Tryz.prog 7 #[.agg l.toArray, .agg l'.toArray] w fun e w' => e = .returned (.bool true) /\ Below w.heap.size w w' := by
 obtain ⟨Ai, ci, Ad, cd, rfl, z2, z3, hI, hD⟩ := h
 obtain ⟨Bi, di, Bd, dd, rfl, -, -, hI', hD'⟩ := h'
 obtain ⟨w0, hw0⟩ : ∃ w0, w0 = w.alloc (.cells #[.slice Ai m.imps.length ci, .slice Ad m.lines.length cd] 26) := ⟨_, rfl⟩
 have B0 : Below w.heap.size w w0 := by rw [hw0]; exact below_new (Below.refl _ _) _
 have O0 : w0.heap[w.heap.size]? = some (.cells #[.slice Ai m.imps.length ci, .slice Ad m.lines.length cd] 26 (0, 0)) := by rw [hw0]; exact heap_alloc_new w _
 have s0 : w0.heap.size = w.heap.size + 1 := by rw [hw0]; simp
 obtain ⟨w1, hw1⟩ : ∃ w1, w1 = w0.alloc (.cells #[.slice Bi m.imps.length di, .slice Bd m.lines.length dd] 26) := ⟨_, rfl⟩
 have B1 : Below w0.heap.size w0 w1 := by rw [hw1]; exact below_new (Below.refl _ _) _
 have P1 : w1.heap[w0.heap.size]? = some (.cells #[.slice Bi m.imps.length di, .slice Bd m.lines.length dd] 26 (0, 0)) := by rw [hw1]; exact heap_alloc_new w0 _
 have s1 : w1.heap.size = w0.heap.size + 1 := by rw [hw1]; simp
 have O1 := (B1.block w.heap.size (by omega)).trans O0
 rw [s0] at P1
 have HO := zH O1
 have HP := zH P1
 have B01 := below_over B0 B1
 have HB := zH B01
 have HI := zH (hI.below B01)
 have HI' := zH (hI'.below B01)
 have HD := zH (hD.below B01)
 have HD' := zH (hD'.below B01)
 have HW0 := zH hw0
 have HW1 := zH hw1
 have ho1 : w.heap.size < w1.heap.size := by omega
 have hp1 : w.heap.size + 1 < w1.heap.size := by omega
 obtain ⟨x0, x1⟩ := cq2 O1
 obtain ⟨y0, y1⟩ := cq2 P1
 simp at x0 x1 y0 y1
 obtain ⟨ni, hni⟩ : ∃ ni, ni = m.imps.length := ⟨_, rfl⟩
 obtain ⟨nd, hnd⟩ : ∃ nd, nd = m.lines.length := ⟨_, rfl⟩
 clear hI hD hI' hD' hw0 hw1 B0 O0 s0 B1 P1 s1 O1 B01
 rw [<- hni] at z2 x0 y0 HW0 HW1 HO HP
 rw [<- hnd] at z3 x1 y1 HW0 HW1 HO HP
 rw [<- hni, <- hnd]
 have HNI := zH hni
 have HND := zH hnd
 clear hni hnd
 go_enter Tryz.func7, Tryz.ntmps7
 go_upto_region 1 with fail
 rw [<- HW0.out, <- HW1.out]
 go_wp2_with fail
 clear HW0 HW1
 go_loopw [5] (fun i wr => ∃ j : Nat, j <= ni /\ i = .int .i64 j /\ Below w1.heap.size w1 wr) (fun i _ => ni - (intOf i).toNat)
 case atStart => exact ⟨0, by omega, rfl, Below.refl _ _⟩
 case round =>
  obtain ⟨j, hj, rfl, hb⟩ := hrel;obtain ⟨wo, rfl⟩ : ∃ wo : World, wo = wr := ⟨_, rfl⟩;have O := (hb.block _ ho1).trans HO.out;have P := (hb.block _ hp1).trans HP.out;obtain ⟨x0, x1⟩ := cq2 O;obtain ⟨y0, y1⟩ := cq2 P;simp at x0 x1 y0 y1;by_cases hlt : j < ni
  ·obtain ⟨x, hx⟩ : ∃ x, m.imps[j]? = some x := ⟨_, List.getElem?_eq_getElem (by rw [<- HNI.out]; exact hlt)⟩
   obtain ⟨g, o, rfl, -, a0, a1, a2, a3, -⟩ := (HI.out.below hb).im hx;obtain ⟨g', o', rfl, -, b0, b1, b2, b3, -⟩ := (HI'.out.below hb).im hx;clear hx O P x1 y1;go_wp2_with fail
   go_quiet (fail)
   go_wp2_with fail
   go_roundw
   case rel => exact ⟨j + 1, by omega, by go_num, below_drewN hb nq⟩
   case measure => simp [intOf]; omega
  ·clear O P
   go_wp2_with fail
   go_loopw [6] (fun i wr => ∃ j : Nat, j <= nd /\ i = .int .i64 j /\ Below w1.heap.size w1 wr) (fun i _ => nd - (intOf i).toNat)
   case atStart => exact ⟨0, by omega, rfl, hb⟩
   case round =>
    obtain ⟨k, hk, rfl, hb2⟩ := hrel;obtain ⟨wi, rfl⟩ : ∃ wi : World, wi = wr := ⟨_, rfl⟩;have O := (hb2.block _ ho1).trans HO.out;have P := (hb2.block _ hp1).trans HP.out;have x1 := cZ O 1;have y1 := cZ P 1;simp at x1 y1;by_cases hlt2 : k < nd
    ·obtain ⟨x, hx⟩ : ∃ x, m.lines[k]? = some x := ⟨_, List.getElem?_eq_getElem (by rw [<- HND.out]; exact hlt2)⟩
     obtain ⟨g, o, v0, v1, v2, v3, v4, v5, v6, rfl, hg, a0, am, a1, u0, u1, u2, u3, u4, u5, u6, us, -, -⟩ := (HD.out.below hb2).ln hx;obtain ⟨An, cA, As, cS, ev, -⟩ := us.parts;simp only [List.cons.injEq, and_true] at ev;obtain ⟨rfl, rfl, rfl, rfl, rfl, rfl, rfl⟩ := ev;obtain ⟨g', o', v0', v1', v2', v3', v4', v5', v6', rfl, hg', b0, bm, b1, c0, c1, c2, c3, c4, c5, c6, us', -, -⟩ := (HD'.out.below hb2).ln hx;obtain ⟨Bn, cB, Bs, cT, ev, -⟩ := us'.parts;simp only [List.cons.injEq, and_true] at ev;obtain ⟨rfl, rfl, rfl, rfl, rfl, rfl, rfl⟩ := ev;obtain ⟨w3, hw3⟩ : ∃ w3, w3 = wi.alloc (.cells #[.int .i64 x.kind, .string x.mod, .string x.name, .int .i64 x.typ.kind, .string x.typ.pkg, .int .i64 x.typ.major, .string x.typ.mod, .string x.typ.name, .slice An x.typ.names.length cA, .slice As x.typ.subs.length cS] 59) := ⟨_, rfl⟩;have B3 : Below wi.heap.size wi w3 := by rw [hw3]; exact below_new (Below.refl _ _) _
     have Q3 : w3.heap[wi.heap.size]? = some (.cells #[.int .i64 x.kind, .string x.mod, .string x.name, .int .i64 x.typ.kind, .string x.typ.pkg, .int .i64 x.typ.major, .string x.typ.mod, .string x.typ.name, .slice An x.typ.names.length cA, .slice As x.typ.subs.length cS] 59 (0, 0)) := by rw [hw3]; exact heap_alloc_new wi _
     have s3 : wi.heap.size < w3.heap.size := by rw [hw3]; simp
     obtain ⟨w4, hw4⟩ : ∃ w4, w4 = w3.alloc (.cells #[.int .i64 x.kind, .string x.mod, .string x.name, .int .i64 x.typ.kind, .string x.typ.pkg, .int .i64 x.typ.major, .string x.typ.mod, .string x.typ.name, .slice Bn x.typ.names.length cB, .slice Bs x.typ.subs.length cT] 59) := ⟨_, rfl⟩;have B4 : Below w3.heap.size w3 w4 := by rw [hw4]; exact below_new (Below.refl _ _) _
     have R4 : w4.heap[w3.heap.size]? = some (.cells #[.int .i64 x.kind, .string x.mod, .string x.name, .int .i64 x.typ.kind, .string x.typ.pkg, .int .i64 x.typ.major, .string x.typ.mod, .string x.typ.name, .slice Bn x.typ.names.length cB, .slice Bs x.typ.subs.length cT] 59 (0, 0)) := by rw [hw4]; exact heap_alloc_new w3 _
     have s4 : w3.heap.size < w4.heap.size := by rw [hw4]; simp
     have Q4 := (B4.block _ s3).trans Q3;have HQ4 := zH Q4;have HR4 := zH R4;have B34 := below_over B3 B4;have HB34 := zH B34;have SM0 := same_any _ x.typ x.typ (Nat.le_refl _) (.agg #[.int .i64 x.typ.kind, .string x.typ.pkg, .int .i64 x.typ.major, .string x.typ.mod, .string x.typ.name, .slice An x.typ.names.length cA, .slice As x.typ.subs.length cS]) (.agg #[.int .i64 x.typ.kind, .string x.typ.pkg, .int .i64 x.typ.major, .string x.typ.mod, .string x.typ.name, .slice Bn x.typ.names.length cB, .slice Bs x.typ.subs.length cT]) w4 ⟨_, rfl, us.keep B34⟩ ⟨_, rfl, us'.keep B34⟩;rw [(sameT_iff x.typ x.typ).2 rfl] at SM0;have SM := zH SM0;have HW3 := zH hw3;have HW4 := zH hw4;have hwi1 : w.heap.size + 1 < wi.heap.size := Nat.lt_of_lt_of_le hp1 hb2.size;have y1 := (B3.cell (p := ⟨w.heap.size + 1, 1, none⟩) hwi1).trans y1;have b0 := (B3.cell (p := ⟨g', _, none⟩) hg').trans b0;have bm := (B3.cell (p := ⟨g', _, none⟩) hg').trans bm;have b1 := (B3.cell (p := ⟨g', _, none⟩) hg').trans b1;have c0 := (B3.cell (p := ⟨g', _, none⟩) hg').trans c0;have c1 := (B3.cell (p := ⟨g', _, none⟩) hg').trans c1;have c2 := (B3.cell (p := ⟨g', _, none⟩) hg').trans c2;have c3 := (B3.cell (p := ⟨g', _, none⟩) hg').trans c3;have c4 := (B3.cell (p := ⟨g', _, none⟩) hg').trans c4;have c5 := (B3.cell (p := ⟨g', _, none⟩) hg').trans c5;have c6 := (B3.cell (p := ⟨g', _, none⟩) hg').trans c6;have HBI := zH hb2;clear hx us us' hw3 hw4 B3 B4 Q3 R4 Q4 B34 SM0 O P;go_upto_region 12 with fail
     rw [<- HW3.out];clear a0 am a1 u0 u1 u2 u3 u4 u5 u6 HW3;go_upto_region 13 with fail
     rw [<- HW4.out];clear HW4 b0 bm b1 c0 c1 c2 c3 c4 c5 c6 y1 x1;have q4 := HQ4.out;have rr4 := HR4.out;obtain ⟨p0, p1, p2, p3, p4, p5, p6, p7, p8⟩ := cq9 q4;have p9 := cZ q4 9;obtain ⟨r0, r1, r2, r3, r4, r5, r6, r7, r8⟩ := cq9 rr4;have r9 := cZ rr4 9;simp at p0 p1 p2 p3 p4 p5 p6 p7 p8 p9 r0 r1 r2 r3 r4 r5 r6 r7 r8 r9;clear q4 rr4;go_wp2_with fail
     refine SM.out.mono ?_; rintro e w5 ⟨rfl, hb5⟩
     clear p0 p1 p2 p3 p4 p5 p6 p7 p8 p9 r0 r1 r2 r3 r4 r5 r6 r7 r8 r9;have q5 := (hb5.block _ (by omega)).trans HQ4.out;have z5 := (hb5.block _ s4).trans HR4.out;obtain ⟨p0, p1, p2⟩ := cq3 q5;obtain ⟨r0, r1, r2⟩ := cq3 z5;simp at p0 p1 p2 r0 r1 r2;have HB5 := zH (below_over HBI.out (below_over HB34.out hb5));clear hb5 q5 z5 hb2 SM;go_wp2_with fail
     go_roundw
     case rel => exact ⟨k + 1, by omega, by go_num, HB5.out⟩
     case measure => simp [intOf]; omega
    ·have FIN := zH (below_over HB.out hb2)
     clear O P;go_wp2_with fail
     go_ret;exact ⟨rfl, FIN.out⟩
def noU : Us := ⟨[], []⟩
theorem UsAt.zero (w : World) : UsAt w [.slice none 0 0, .slice none 0 0] noU := ⟨none, 0, none, 0, rfl, by decide, by decide, fun i x h => by simp [noU] at h, fun i x h => by simp [noU] at h⟩
theorem usesParses_any (s : ByteArray) (w : World) (he : CEnv w) (hg : ErrT w) : Calls Tryz.prog 3 #[.string s] w fun e w' => e = .returned (.bool true) /\ Below w.heap.size w w' := by
  have UP := zH (up11Z w he hg);have HE := zH he;have HG := zH hg;have SZ : Hid (∀ w, Calls Tryz.prog 7 #[.agg #[.slice none 0 0, .slice none 0 0], .agg #[.slice none 0 0, .slice none 0 0]] w fun e w' => e = .returned (.bool true) /\ Below w.heap.size w w') := zH (fun w => same11_any noU _ _ w (UsAt.zero w) (UsAt.zero w));clear he hg;by_cases hn : 20000 < s.size
  · have hn' : (20000 : Int) < s.size := by omega
    have hec := sp_eqCode 3 3;go_enter Tryz.func3, Tryz.ntmps3
    go_wp2_with fail
    refine UP.out.mono ?_; rintro e w1 ⟨rfl, hb1⟩
    go_wp2_with fail
    refine (cuparse_large s w1 hn).mono ?_; rintro e w2 ⟨rfl, hb2⟩
    obtain ⟨w3, hw3⟩ : ∃ w3, w3 = w2.alloc (.cells #[.slice none 0 0, .slice none 0 0] 26) := ⟨_, rfl⟩;have B3 : Below w2.heap.size w2 w3 := by rw [hw3]; exact below_new (Below.refl _ _) _
    have O3 : w3.heap[w2.heap.size]? = some (.cells #[.slice none 0 0, .slice none 0 0] 26 (0, 0)) := by rw [hw3]; exact heap_alloc_new w2 _
    have B03 := zH (below_over (below_over hb1 hb2) B3);obtain ⟨x0, x1⟩ := cq2 O3;simp at x0 x1;have HW3 := zH hw3;clear hw3 hb1 hb2 B3 O3;go_upto_region 3 with fail
    rw [<- HW3.out];go_wp2_with fail
    refine (SZ.out _).mono ?_; rintro e w4 ⟨rfl, hb4⟩
    go_wp2_with fail
    go_ret;exact ⟨rfl, below_over B03.out hb4⟩
  · have hs : s.size <= 20000 := by omega
    have hn' : ¬ (20000 : Int) < s.size := by omega
    have PC : Hid (∀ w, CEnv w -> Calls Tryz.prog 6 #[.string s] w (PuOut w (parU s))) := zH (fun w he => cuparse_any s w hs he);have PR : Hid (∀ w, Calls Tryz.prog 8 #[.string s] w (RuOut w (parU s))) := zH (fun w => ruparse_any s w hs);clear hs;obtain ⟨R, hR⟩ : ∃ R, parU s = R := ⟨_, rfl⟩;rw [hR] at PC PR;clear hR;go_enter Tryz.func3, Tryz.ntmps3
    go_wp2_with fail
    refine UP.out.mono ?_; rintro e w1 ⟨rfl, hb1⟩
    go_wp2_with fail
    refine (PC.out w1 (HE.out.on hb1)).mono ?_;rintro e w2 ⟨hb2, ⟨l, m, j, hok, rfl, hM, -⟩ | ⟨b, j, g, herr, hb, rfl, hsp⟩⟩
    · subst hok
      obtain ⟨Ai, ci, Ad, cd, rfl, -⟩ := hM.free;obtain ⟨w3, hw3⟩ : ∃ w3, w3 = w2.alloc (.cells #[.slice Ai m.imps.length ci, .slice Ad m.lines.length cd] 26) := ⟨_, rfl⟩;have B3 : Below w2.heap.size w2 w3 := by rw [hw3]; exact below_new (Below.refl _ _) _
      have O3 : w3.heap[w2.heap.size]? = some (.cells #[.slice Ai m.imps.length ci, .slice Ad m.lines.length cd] 26 (0, 0)) := by rw [hw3]; exact heap_alloc_new w2 _
      have B03 := zH (below_over (below_over hb1 hb2) B3);have HM3 := zH (hM.free.below B3);have HO3 := zH O3;have HW3 := zH hw3;clear hw3 hb1 hb2 B3 O3 hM;go_upto_region 3 with fail
      rw [<- HW3.out];go_upto_region 5 with fail
      go_wp2_with fail
      refine (PR.out w3).mono ?_;rintro e w4 ⟨hb4, ⟨l, m', j', hok, rfl, hM⟩ | ⟨b, j', herr, -⟩⟩;rotate_left
      · cases herr
      cases hok
      obtain ⟨Bi, di, Bd, dd, rfl, -⟩ := id hM;obtain ⟨w5, hw5⟩ : ∃ w5, w5 = w4.alloc (.cells #[.slice Bi m.imps.length di, .slice Bd m.lines.length dd] 26) := ⟨_, rfl⟩;have B5 : Below w4.heap.size w4 w5 := by rw [hw5]; exact below_new (Below.refl _ _) _
      have O5 : w5.heap[w4.heap.size]? = some (.cells #[.slice Bi m.imps.length di, .slice Bd m.lines.length dd] 26 (0, 0)) := by rw [hw5]; exact heap_alloc_new w4 _
      have B35 := below_over hb4 B5;have HSM := zH (same11_any m _ _ w5 (HM3.out.below B35) (hM.below B5));have O35 := (B35.block _ (Array.getElem?_eq_some_iff.1 HO3.out).1).trans HO3.out;have B05 := zH (below_over B03.out B35);obtain ⟨x0, x1⟩ := cq2 O35;obtain ⟨y0, y1⟩ := cq2 O5;simp at x0 x1 y0 y1;have HW5 := zH hw5;clear hw5 hb4 B5 O5 B35 hM O35 HM3 HO3 HW3 UP;go_upto_region 6 with fail
      rw [<- HW5.out];go_wp2_with fail
      refine HSM.out.mono ?_; rintro e w6 ⟨rfl, hb6⟩
      go_wp2_with fail
      go_ret;exact ⟨rfl, below_over B05.out hb6⟩
    · subst herr
      obtain ⟨w3, hw3⟩ : ∃ w3, w3 = w2.alloc (.cells #[.slice none 0 0, .slice none 0 0] 26) := ⟨_, rfl⟩;have B3 : Below w2.heap.size w2 w3 := by rw [hw3]; exact below_new (Below.refl _ _) _
      have O3 : w3.heap[w2.heap.size]? = some (.cells #[.slice none 0 0, .slice none 0 0] 26 (0, 0)) := by rw [hw3]; exact heap_alloc_new w2 _
      have B03 := zH (below_over (below_over hb1 hb2) B3);have HSP := zH (hsp.below B3);have HO3 := zH O3;have HW3 := zH hw3;clear hw3 hb1 hb2 B3 O3 hsp;go_upto_region 3 with fail
      rw [<- HW3.out];go_upto_region 5 with fail
      go_wp2_with fail
      refine (PR.out w3).mono ?_;rintro e w4 ⟨hb4, ⟨l, m', j', hok, -⟩ | ⟨b', j', herr, -, rfl⟩⟩
      · cases hok
      cases herr
      obtain ⟨w5, hw5⟩ : ∃ w5, w5 = w4.alloc (.cells #[.slice none 0 0, .slice none 0 0] 26) := ⟨_, rfl⟩;have B5 : Below w4.heap.size w4 w5 := by rw [hw5]; exact below_new (Below.refl _ _) _
      have B35 := below_over hb4 B5;have hsp5 := HSP.out.below B35;have TD := zH (isSpot_any g j b w5 (HG.out.on (below_over B03.out B35)) hsp5.1 hsp5.2.1 hsp5.2.2);have HO5 := zH ((B35.block _ (Array.getElem?_eq_some_iff.1 HO3.out).1).trans HO3.out);have B05 := zH (below_over B03.out B35);have HW5 := zH hw5;have hb1 : (((b : Nat) : Int) == 0) = false := by simp; omega
      have hb2 : (((b : Nat) : Int) != 0) = true := by simp; omega
      clear hw5 hb4 B5 B35 HO3 HW3 UP hb hsp5;go_upto_region 6 with fail
      rw [<- HW5.out];go_wp2_with fail
      refine TD.out.mono ?_; rintro e w6 ⟨rfl, hb6⟩
      have O6 := (hb6.block _ (Array.getElem?_eq_some_iff.1 HO5.out).1).trans HO5.out;have B06 := zH (below_over B05.out hb6);obtain ⟨x0, x1⟩ := cq2 O6;simp at x0 x1;clear hb6 O6 TD;go_wp2_with fail
      refine (SZ.out _).mono ?_; rintro e w7 ⟨rfl, hb7⟩
      go_wp2_with fail
      go_ret;exact ⟨rfl, below_over B06.out hb7⟩
end Go.Proofs.YtddlmigofilejaaGreatDoor
namespace Go.Proofs.YtddlmigofilejaaGreatDoor
open Go Go.ChangeShapes Go.WideShapes Go.ChangeAt Go.RowKit
theorem own : ownKnob Tryz.prog.godebug = none := by kernel_rfl
theorem laidOut : laidOutB Tryz.prog = true := by kernel_rfl
theorem gPow : Tryz.prog.globalNamed "internal/strconv.uint64pow10" = some 4 := by kernel_rfl
theorem gPowType : (Tryz.prog.globals[4]?).map (·.type) = some 324 := by kernel_rfl
theorem cellsPow : Tryz.prog.cellsOf 324 = 20 := by kernel_rfl
theorem cellsU64 : Tryz.prog.cellsOf 295 = 1 := by kernel_rfl
theorem powData : (Rows.laid_internal_strconv_uint64pow10 : DataW Unit) = Lib.tabData .u64 Lib.pow10Tab := by kernel_rfl
theorem errVar : Tryz.prog.globalNamed "errors.errorType" = some 0 := by kernel_rfl
theorem errRt : (Tryz.prog.cutTypes.find? (·.1 == "internal/reflectlite.rtype")).map (·.2) = some 148 := by kernel_rfl
theorem errRow : ((List.range 371).filter fun t => Tryz.prog.rowNamed t [101, 114, 114, 111, 114]) = [28] := by kernel_rfl
theorem typesSize : Tryz.prog.types.size = 371 := by kernel_rfl
theorem gSyn : Tryz.prog.globalNamed "strconv.ErrSyntax" = some 2 := by kernel_rfl
theorem gSynType : (Tryz.prog.globals[2]?).map (·.type) = some 28 := by kernel_rfl
theorem gRng : Tryz.prog.globalNamed "strconv.ErrRange" = some 3 := by kernel_rfl
theorem gRngType : (Tryz.prog.globals[3]?).map (·.type) = some 28 := by kernel_rfl
theorem cellsES : Tryz.prog.cellsOf 322 = 1 := by kernel_rfl
theorem cellsStr : Tryz.prog.cellsOf 9 = 1 := by kernel_rfl
def laidL : List (String × DataW Unit) := [("math/bits.deBruijn32tab", Rows.laid_math_bits_deBruijn32tab), ("math/bits.deBruijn64tab", Rows.laid_math_bits_deBruijn64tab), ("internal/strconv.uint64pow10", Rows.laid_internal_strconv_uint64pow10), ("errors.errorType", Rows.laid_errors_errorType), ("strconv.ErrRange", Rows.laid_strconv_ErrRange), ("strconv.ErrSyntax", Rows.laid_strconv_ErrSyntax)]
theorem parts_of {W : World} (h : laidMetH Tryz.prog laidL W) :
    laidMet Tryz.prog [("math/bits.deBruijn32tab", Rows.laid_math_bits_deBruijn32tab), ("math/bits.deBruijn64tab", Rows.laid_math_bits_deBruijn64tab), ("internal/strconv.uint64pow10", Rows.laid_internal_strconv_uint64pow10), ("strconv.ErrRange", Rows.laid_strconv_ErrRange), ("strconv.ErrSyntax", Rows.laid_strconv_ErrSyntax)] W /\ handlesMet Tryz.prog [("errors.errorType", Rows.laid_errors_errorType)] W := h
theorem errT_of {W : World} (h : laidMetH Tryz.prog laidL W) : ErrT W := by
  obtain ⟨name, u, ty, e1, e2, e3, e4, e5⟩ := (parts_of h).2 _ (List.mem_singleton.2 rfl);have en : name = [101, 114, 114, 111, 114] := (Option.some.inj e1).symm;subst en;obtain rfl := Option.some.inj (errRt.symm.trans e2);have hm : ty ∈ (List.range 371).filter fun t => Tryz.prog.rowNamed t [101, 114, 114, 111, 114] := List.mem_filter.2 ⟨List.mem_range.2 (by rw [<- typesSize]; exact e3), e4⟩
  rw [errRow] at hm;obtain rfl := List.mem_singleton.1 hm;have hh : typeHandle Tryz.prog 28 = .pointer (some ⟨7, 28, none⟩) := by kernel_rfl
  rw [hh] at e5;unfold ErrT
  simpa using World.var?_cell errVar e5 0
theorem rowES (u : TypeId) (s : String) (hs : "*" ++ "errors.errorString" = s) (h : Tryz.prog.typeName? 3 u = some s) : u = 320 := by
  subst hs;exact typeName_ptr_named (nm := "errors.errorString") (by kernel_rfl) (by kernel_rfl) (by decide) u h
theorem cenv_of {W : World} (h : laidMetH Tryz.prog laidL W) : CEnv W := by
  have h3 := (parts_of h).1.tail.tail;have h4 := h3.tail;have h5 := h4.tail;have h3' := h3
  rw [powData] at h3';obtain ⟨a4, s4, v4, -⟩ := laid_sentinel h4 gRng gRngType Tryz.underlying28 (fun u hu => rowES u _ (by kernel_rfl) hu) Tryz.underlying320 Tryz.underlying322 rfl rfl Tryz.underlying9 cellsES cellsStr;obtain ⟨a5, s5, v5, -⟩ := laid_sentinel h5 gSyn gSynType Tryz.underlying28 (fun u hu => rowES u _ (by kernel_rfl) hu) Tryz.underlying320 Tryz.underlying322 rfl rfl Tryz.underlying9 cellsES cellsStr;exact ⟨Lib.tabIs_of_head gPow gPowType Tryz.underlying324 Tryz.underlying295 cellsU64 cellsPow h3', ⟨_, _, by simpa using World.var?_cell gSyn v5 0⟩, ⟨_, _, by simpa using World.var?_cell gRng v4 0⟩⟩
def putTab (g : Nat) (k : IntKind) (zs : List Int) (h : Array Obj) : Array Obj := h.modify g fun o =>
  match o with
  | .cells _ t frozen => .cells (zs.map fun z => Value.int k z).toArray t frozen
  | o => o
def putOne (g : Nat) (v : Value) (h : Array Obj) : Array Obj := h.modify g fun o =>
  match o with
  | .cells _ t frozen => .cells #[v] t frozen
  | o => o
def tab32 : List Int := [0, 1, 28, 2, 29, 14, 24, 3, 30, 22, 20, 15, 25, 17, 4, 8, 31, 27, 13, 23, 21, 19, 16, 7, 26, 12, 18, 6, 11, 5, 10, 9]
def tab64 : List Int := [0, 1, 56, 2, 57, 49, 28, 3, 61, 58, 42, 50, 38, 29, 17, 4, 62, 47, 59, 36, 45, 43, 51, 22, 53, 39, 33, 30, 24, 18, 12, 5, 63, 55, 48, 27, 60, 41, 37, 16, 46, 35, 44, 21, 52, 32, 23, 11, 54, 26, 40, 15, 34, 20, 31, 10, 25, 14, 19, 9, 13, 8, 7, 6]
def txtRng : ByteArray := ⟨#[118, 97, 108, 117, 101, 32, 111, 117, 116, 32, 111, 102, 32, 114, 97, 110, 103, 101]⟩
def txtSyn : ByteArray := ⟨#[105, 110, 118, 97, 108, 105, 100, 32, 115, 121, 110, 116, 97, 120]⟩
noncomputable def laidWorld (os : Os) : World :=
  let w0 := World.holding Tryz.prog os ⟨#[], #[], []⟩
  let n := w0.heap.size
  { w0 with heap := putOne 3 (.iface 320 (.pointer (some ⟨n, 0, none⟩))) (putOne 2 (.iface 320 (.pointer (some ⟨n + 1, 0, none⟩)))
      (putOne 0 (.iface 148 (.agg #[.pointer (some ⟨7, 28, none⟩)]))
        (putTab 6 .u8 tab64 (putTab 5 .u8 tab32 (putTab 4 .u64 Lib.pow10Tab
          ((w0.heap.push (.cells #[.string txtRng] 322 (0, 0))).push (.cells #[.string txtSyn] 322 (0, 0)))))))) }
theorem laidWorld_met (os : Os) (args : Array Value) (h : laidMet Tryz.prog [("math/bits.deBruijn32tab", Rows.laid_math_bits_deBruijn32tab), ("math/bits.deBruijn64tab", Rows.laid_math_bits_deBruijn64tab), ("internal/strconv.uint64pow10", Rows.laid_internal_strconv_uint64pow10), ("strconv.ErrRange", Rows.laid_strconv_ErrRange), ("strconv.ErrSyntax", Rows.laid_strconv_ErrSyntax)] ((laidWorld os).forCall (fun _ _ => 0) ⟨#[], args, []⟩).memory) :
    laidMetH Tryz.prog laidL ((laidWorld os).forCall (fun _ _ => 0) ⟨#[], args, []⟩).memory :=
  laidMetH_of_parts h (by kernel_rfl)
end Go.Proofs.YtddlmigofilejaaGreatDoor
namespace Go.Proofs.YtddlmigofilejaaGreatDoor
open Go Go.RowKit Go.WideShapes Go.ChangeShapes
section
variable {H : Type} {enc : TypeId × Value -> H} {P : Program}
theorem post_of_below {f : Func} {s : ChangeSpec} {apart fresh handsOn again : Bool} {W W' : World} {args : Array Value} {v : Value} {ds gs : List (DataW H)} {before pa pv : List MemPlace}
    (hW : DataW.Whole enc P f.params.toList s.vars apart W args.toList ds gs before)
    (hres : ∀ (b : Nat) (sp : Nat -> Bool) (hd : Bool), DataW.TrodAll enc P W' b sp hd f.resultTypes.toList (v.resultList f.resultTypes.size) (s.fn H (ds ++ gs)).results [])
    (hargs : ∀ sp : Nat -> Bool, (∀ p ∈ before, sp p.block = true) -> DataW.TrodAll enc P W' 0 sp true f.params.toList args.toList (s.fn H (ds ++ gs)).args pa)
    (hvars : ∀ sp : Nat -> Bool, (∀ p ∈ before, sp p.block = true) -> DataW.TrodVars enc P W' sp s.vars (s.fn H (ds ++ gs)).vars pv)
    (hps : before = pa ++ pv) (hb : Below W.heap.size W W')
    (hok : ∀ (j : Nat) (t : TypeId) (r : Value), f.resultTypes[j]? = some t -> (v.resultList f.resultTypes.size)[j]? = some r -> Value.okWide P W' .any 0 t r) :
    s.post enc P f apart fresh handsOn again W args v W' := by
  have hlt : ∀ p ∈ before, p.block < W.heap.size := fun p hp => hW.lt p hp
  have hold : ∀ p ∈ before, (fun b => decide (b < W.heap.size)) p.block = true := fun p hp => by simpa using hlt p hp
  refine ⟨ds, gs, before, [], pa, pv, hW, hres _ _ _, hargs _ hold, hvars _ hold, World.keptBut_mono (fun p hp => ⟨hp, ?_⟩) (hb.frame (· ∈ before)), fun _ => ?_⟩
  · rw [hps, List.mem_append] at hp
    exact Or.inr hp
  · obtain ⟨_, _, _, _, _, hz, hn⟩ := hW
    refine ⟨hok, _, _, ([] ++ pa) ++ pv, ⟨[] ++ pa, pv, trodAll_append (hargs _ (fun _ _ => rfl)) (hres _ _ _), hvars _ (fun _ _ => rfl), rfl, ?_, ?_⟩, ?_⟩
    · intro b off hp
      have hin : MemPlace.cell b off ∈ before := by rw [hps]; simpa using hp
      rw [hb.frozen (hlt _ hin)];exact hz b off hin
    · intro ha
      have := hn ha
      rw [hps] at this;simpa using this
    · intro p hp _
      rw [hps];simpa using hp
theorem trodAll_stays (hl : laidOutB P = true) {W W' : World} {sp : Nat -> Bool} (hb : Below W.heap.size W W') :
    ∀ (ts : List TypeId) (vs : List Value) (ds : List (DataW H)) (ps : List MemPlace), (∀ t ∈ ts, P.readableRec t = true /\ t < P.types.size) ->
      DataW.TrodAll enc P W 0 (fun _ => true) true ts vs ds ps -> (∀ x ∈ ps, x.block < W.heap.size) -> (∀ x ∈ ps, sp x.block = true) -> DataW.TrodAll enc P W' 0 sp true ts vs ds ps
  | [], vs, ds, ps, _, h, _, _ => by
    obtain ⟨rfl, rfl, rfl⟩ := trodAll_nil h;exact trodAll_mk0
  | t :: ts, vs, ds, ps, ht, h, hlt, hs => by
    obtain ⟨v, vs', d, ds', p, q, rfl, rfl, rfl, h0, h1⟩ := trodAll_cons h;obtain ⟨hr, hrow⟩ := ht t (by simp)
    exact ⟨p, q, WideElems.Trod_stays hl hr hrow h0 (fun x hx => hb.same (hlt x (by simp [hx]))) (fun x hx => hs x (by simp [hx])),
      trodAll_stays hl hb ts vs' ds' q (fun u hu => ht u (by simp [hu])) h1 (fun x hx => hlt x (by simp [hx])) (fun x hx => hs x (by simp [hx])), rfl⟩
theorem law_post {f : Func} {s : ChangeSpec} {apart fresh handsOn again : Bool} {W W' : World} {args : Array Value} {ds gs : List (DataW H)} {before : List MemPlace} {tb : TypeId}
    (hl : laidOutB P = true) (hro : f.params.toList.all (fun t => P.readableRec t && decide (t < P.types.size)) = true) (hres : f.resultTypes = #[tb]) (hbool : P.underlying tb = some .bool) (hvars : s.vars = [])
    (hW : DataW.Whole enc P f.params.toList s.vars apart W args.toList ds gs before) (hb : Below W.heap.size W W')
    (hs : s.fn H (ds ++ gs) = { results := [.lit (.bool true)], args := ds }) :
    s.post enc P f apart fresh handsOn again W args (.bool true) W' := by
  have hW' := hW
  obtain ⟨p, q, hA, hV, hpq, _, _⟩ := hW;rw [hvars] at hV;obtain ⟨rfl, rfl⟩ := trodVars_none hV;rw [List.append_nil] at hpq;subst hpq;have hlt : ∀ x ∈ before, x.block < W.heap.size := fun x hx => hW'.lt x hx
  have hro' : ∀ t ∈ f.params.toList, P.readableRec t = true /\ t < P.types.size := fun t ht => by
    have := List.all_eq_true.1 hro t ht
    simpa using this
  refine post_of_below (pa := before) (pv := []) hW' ?_ ?_ ?_ (by simp) hb ?_
  · intro b sp hd
    rw [hs, hres];exact trodAll_mk1 (shut_bool hbool true)
  · intro sp hsp
    rw [hs];exact trodAll_stays hl hb _ _ _ _ hro' hA hlt hsp
  · intro sp _
    rw [hs, hvars];exact rfl
  · exact ok_one hres rfl (okWide_bool_mk hbool true)
end
end Go.Proofs.YtddlmigofilejaaGreatDoor
