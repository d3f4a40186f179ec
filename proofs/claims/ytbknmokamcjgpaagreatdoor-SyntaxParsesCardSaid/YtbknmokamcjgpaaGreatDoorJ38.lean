/-
  Several texts in one: The reference's Same, of two modules that are one. · The walk of SyntaxParses: whatever text is handed in.
-/
import Derived.Test.YtbknmokamcjgpaaGreatDoorJ37
import Derived.Test.YtbknmokamcjgpaaGreatDoorJ26
import Derived.LoopTactic
import Derived.Test.YtbknmokamcjgpaaGreatDoorJ25
/- The reference's Same, of two modules that are one. -/
namespace Go.Proofs.YtbknmokamcjgpaaGreatDoor
open Go.RowKit
open Go.Sort
open M

/-- An import's four cells, at its place. -/
theorem RowIn.im {w : World} {A : Option Addr} {xs : List Im} (h : RowIn imR w A xs) {i : Nat} {x : Im} (hx : xs[i]? = some x) : ∃ g o, A = some ⟨g, o, none⟩ ∧ g < w.heap.size ∧
    w.cell? ⟨g, o + i * 4, none⟩ = some (.string x.pkg) ∧ w.cell? ⟨g, o + i * 4 + 1, none⟩ = some (.int .i64 x.major) ∧ w.cell? ⟨g, o + i * 4 + 2, none⟩ = some (.string x.mod) ∧ w.cell? ⟨g, o + i * 4 + 3, none⟩ = some (.string x.asn) ∧
    x.pkg.size ≤ 9223372036854775807 ∧ x.mod.size ≤ 9223372036854775807 ∧ x.asn.size ≤ 9223372036854775807 := by
  obtain ⟨g, o, l, hA, hg, hc, rfl, z1, z2, z3⟩ := h i x hx
  exact ⟨g, o, hA, hg, hc 0 _ rfl, hc 1 _ rfl, hc 2 _ rfl, hc 3 _ rfl, z1, z2, z3⟩
/-- A declaration's nine cells, at its place. -/
theorem RowIn.de {w : World} {A : Option Addr} {xs : List De} (h : RowIn deR w A xs) {i : Nat} {x : De} (hx : xs[i]? = some x) : ∃ (g o : Nat) (v0 v1 v2 v3 v4 v5 v6 : Value), A = some ⟨g, o, none⟩ ∧ g < w.heap.size ∧
    w.cell? ⟨g, o + i * 9, none⟩ = some (.int .i64 x.kind) ∧ w.cell? ⟨g, o + i * 9 + 1, none⟩ = some (.string x.name) ∧ w.cell? ⟨g, o + i * 9 + 2, none⟩ = some v0 ∧ w.cell? ⟨g, o + i * 9 + 2 + 1, none⟩ = some v1 ∧ w.cell? ⟨g, o + i * 9 + 2 + 2, none⟩ = some v2 ∧
    w.cell? ⟨g, o + i * 9 + 2 + 3, none⟩ = some v3 ∧ w.cell? ⟨g, o + i * 9 + 2 + 4, none⟩ = some v4 ∧ w.cell? ⟨g, o + i * 9 + 2 + 5, none⟩ = some v5 ∧ w.cell? ⟨g, o + i * 9 + 2 + 6, none⟩ = some v6 ∧ TyAt w [v0, v1, v2, v3, v4, v5, v6] x.typ ∧ x.name.size ≤ 9223372036854775807 := by
  obtain ⟨g, o, l, hA, hg, hc, hs, l7, rfl, hT⟩ := h i x hx
  obtain ⟨v0, v1, v2, v3, v4, v5, v6, rfl⟩ := list7 l7 hT.len
  exact ⟨g, o, v0, v1, v2, v3, v4, v5, v6, hA, hg, hc 0 _ rfl, hc 1 _ rfl, hc 2 _ rfl, hc 3 _ rfl, hc 4 _ rfl, hc 5 _ rfl, hc 6 _ rfl, hc 7 _ rfl, hc 8 _ rfl, hT, hs⟩

set_option maxRecDepth 100000 in
set_option maxHeartbeats 8000000 in
theorem same6_any (m : Mo) (l l' : List Value) (w : World) (h : MoAt w l m) (h' : MoAt w l' m) : Calls Tryz.prog 23 #[.agg l.toArray, .agg l'.toArray] w fun e w' => e = .returned (.bool true) ∧ Below w.heap.size w w' := by
  obtain ⟨Ai, ci, Ad, cd, rfl, z1, z2, z3, hI, hD⟩ := h
  obtain ⟨Bi, di, Bd, dd, rfl, -, -, -, hI', hD'⟩ := h'
  obtain ⟨w0, hw0⟩ : ∃ w0, w0 = w.alloc (.cells #[.string m.name, .slice Ai m.imps.length ci, .slice Ad m.decs.length cd] 49) := ⟨_, rfl⟩
  have B0 : Below w.heap.size w w0 := by rw [hw0]; exact below_new (Below.refl _ _) _
  have O0 : w0.heap[w.heap.size]? = some (.cells #[.string m.name, .slice Ai m.imps.length ci, .slice Ad m.decs.length cd] 49 (0, 0)) := by rw [hw0]; exact heap_alloc_new w _
  have s0 : w0.heap.size = w.heap.size + 1 := by rw [hw0]; simp
  obtain ⟨w1, hw1⟩ : ∃ w1, w1 = w0.alloc (.cells #[.string m.name, .slice Bi m.imps.length di, .slice Bd m.decs.length dd] 49) := ⟨_, rfl⟩
  have B1 : Below w0.heap.size w0 w1 := by rw [hw1]; exact below_new (Below.refl _ _) _
  have P1 : w1.heap[w0.heap.size]? = some (.cells #[.string m.name, .slice Bi m.imps.length di, .slice Bd m.decs.length dd] 49 (0, 0)) := by rw [hw1]; exact heap_alloc_new w0 _
  have s1 : w1.heap.size = w0.heap.size + 1 := by rw [hw1]; simp
  have O1 := (B1.block w.heap.size (by omega)).trans O0
  rw [s0] at P1
  have HO := Lib.hid O1
  have HP := Lib.hid P1
  have B01 := below_over B0 B1
  have HB := Lib.hid B01
  have HI := Lib.hid (hI.below B01)
  have HI' := Lib.hid (hI'.below B01)
  have HD := Lib.hid (hD.below B01)
  have HD' := Lib.hid (hD'.below B01)
  have HW0 := Lib.hid hw0
  have HW1 := Lib.hid hw1
  have ho1 : w.heap.size < w1.heap.size := by omega
  have hp1 : w.heap.size + 1 < w1.heap.size := by omega
  have x0 := Lib.cell_of_heap O1 0
  have x1 := Lib.cell_of_heap O1 1
  have x2 := Lib.cell_of_heap O1 2
  have y0 := Lib.cell_of_heap P1 0
  have y1 := Lib.cell_of_heap P1 1
  have y2 := Lib.cell_of_heap P1 2
  simp at x0 x1 x2 y0 y1 y2
  obtain ⟨ni, hni⟩ : ∃ ni, ni = m.imps.length := ⟨_, rfl⟩
  obtain ⟨nd, hnd⟩ : ∃ nd, nd = m.decs.length := ⟨_, rfl⟩
  clear hI hD hI' hD' hw0 hw1 B0 O0 s0 B1 P1 s1 O1 B01
  rw [← hni] at z2 x1 y1 HW0 HW1 HO HP
  rw [← hnd] at z3 x2 y2 HW0 HW1 HO HP
  rw [← hni, ← hnd]
  have HNI := Lib.hid hni
  have HND := Lib.hid hnd
  clear hni hnd
  go_enter Tryz.func23, Tryz.ntmps23
  go_upto_region 1 with fail
  rw [← HW0.out, ← HW1.out]
  go_upto_region 4 with fail
  clear HW0 HW1
  go_loopw [5] (fun i wr => ∃ j : Nat, j ≤ ni ∧ i = .int .i64 j ∧ Below w1.heap.size w1 wr) (fun i _ => ni - (intOf i).toNat)
  case atStart => exact ⟨0, by omega, rfl, Below.refl _ _⟩
  case round =>
    obtain ⟨j, hj, rfl, hb⟩ := hrel
    obtain ⟨wo, rfl⟩ : ∃ wo : World, wo = wr := ⟨_, rfl⟩
    have O := (hb.block _ ho1).trans HO.out
    have P := (hb.block _ hp1).trans HP.out
    have x1 := Lib.cell_of_heap O 1
    have x2 := Lib.cell_of_heap O 2
    have y1 := Lib.cell_of_heap P 1
    have y2 := Lib.cell_of_heap P 2
    simp at x1 x2 y1 y2
    by_cases hlt : j < ni
    · obtain ⟨x, hx⟩ : ∃ x, m.imps[j]? = some x := ⟨_, List.getElem?_eq_getElem (by rw [← HNI.out]; exact hlt)⟩
      obtain ⟨g, o, rfl, -, a0, a1, a2, a3, -⟩ := (HI.out.below hb).im hx
      obtain ⟨g', o', rfl, -, b0, b1, b2, b3, -⟩ := (HI'.out.below hb).im hx
      clear hx O P x2 y2
      go_wp2_with fail
      go_quiet (fail)
      go_wp2_with fail
      go_roundw
      case rel => exact ⟨j + 1, by omega, by go_num, below_drewN hb nq⟩
      case measure => simp [intOf]; omega
    · clear O P
      go_wp2_with fail
      go_loopw [6] (fun i wr => ∃ j : Nat, j ≤ nd ∧ i = .int .i64 j ∧ Below w1.heap.size w1 wr) (fun i _ => nd - (intOf i).toNat)
      case atStart => exact ⟨0, by omega, rfl, hb⟩
      case round =>
        obtain ⟨k, hk, rfl, hb2⟩ := hrel
        obtain ⟨wi, rfl⟩ : ∃ wi : World, wi = wr := ⟨_, rfl⟩
        have O := (hb2.block _ ho1).trans HO.out
        have P := (hb2.block _ hp1).trans HP.out
        have x2 := Lib.cell_of_heap O 2
        have y2 := Lib.cell_of_heap P 2
        simp at x2 y2
        by_cases hlt2 : k < nd
        · obtain ⟨x, hx⟩ : ∃ x, m.decs[k]? = some x := ⟨_, List.getElem?_eq_getElem (by rw [← HND.out]; exact hlt2)⟩
          obtain ⟨g, o, v0, v1, v2, v3, v4, v5, v6, rfl, hg, a0, a1, u0, u1, u2, u3, u4, u5, u6, us, -⟩ := (HD.out.below hb2).de hx
          obtain ⟨g', o', q0, q1, q2, q3, q4, q5, q6, rfl, hg', b0, b1, t0, t1, t2, t3, t4, t5, t6, ts, -⟩ := (HD'.out.below hb2).de hx
          have cP : ∀ dd os, Calls Tryz.prog 10 #[.agg #[v0, v1, v2, v3, v4, v5, v6], .agg #[q0, q1, q2, q3, q4, q5, q6]] (Sort.grow (redrawn wi dd) os) fun e w'' => e = .returned (.bool true) ∧ ∃ pp : Regrown, w'' = Sort.grow (redrawn wi pp.d) pp.os := fun dd os => Calls.regrown_of (by
            have := same_any _ x.typ x.typ (Nat.le_refl _) (.agg #[v0, v1, v2, v3, v4, v5, v6]) (.agg #[q0, q1, q2, q3, q4, q5, q6]) _ ⟨_, rfl, us.keep (below_regrown wi dd os)⟩ ⟨_, rfl, ts.keep (below_regrown wi dd os)⟩
            rwa [(sameT_iff x.typ x.typ).2 rfl] at this)
          have p0 := cell_regrown u0; have p1 := cell_regrown u1; have p2 := cell_regrown u2; have p3 := cell_regrown u3; have p4 := cell_regrown u4; have p5 := cell_regrown u5; have p6 := cell_regrown u6
          have r0 := cell_regrown t0; have r1 := cell_regrown t1; have r2 := cell_regrown t2; have r3 := cell_regrown t3; have r4 := cell_regrown t4; have r5 := cell_regrown t5; have r6 := cell_regrown t6
          have xx := cell_regrown x2; have yy := cell_regrown y2
          have HA0 := Lib.hid a0
          have HA1 := Lib.hid a1
          have HC0 := Lib.hid b0
          have HC1 := Lib.hid b1
          have HO2 := Lib.hid O
          have HP2 := Lib.hid P
          clear hx us ts O P a0 a1 b0 b1
          go_wp2_with fail
          refine wp_region_quiet_below (by kernel_rfl) (by kernel_rfl) ?_
          repeat (any_goals (first | go_big_quiet_step (with_reducible exact cP _ _) | quiet_step (with_reducible exact cP _ _)))
          refine wpQuiet_nil ?_
          intro _ hw'
          obtain ⟨⟨dq, osq⟩, hw''⟩ := hw'
          subst hw''
          have hb3 := below_over hb2 (below_regrown wi dq osq)
          have hbr := below_regrown wi dq osq
          obtain ⟨w5, hw5⟩ : ∃ w5, w5 = Sort.grow (redrawn wi dq) osq := ⟨_, rfl⟩
          rw [← hw5] at hb3 hbr ⊢
          have hgo : w.heap.size < wi.heap.size := (Array.getElem?_eq_some_iff.1 HO2.out).1
          have hgp : w.heap.size + 1 < wi.heap.size := (Array.getElem?_eq_some_iff.1 HP2.out).1
          have a0 := (hbr.cell (p := ⟨g, _, none⟩) hg).trans HA0.out
          have a1 := (hbr.cell (p := ⟨g, _, none⟩) hg).trans HA1.out
          have b0 := (hbr.cell (p := ⟨g', _, none⟩) hg').trans HC0.out
          have b1 := (hbr.cell (p := ⟨g', _, none⟩) hg').trans HC1.out
          have x2 := Lib.cell_of_heap ((hbr.block _ hgo).trans HO2.out) 2
          have y2 := Lib.cell_of_heap ((hbr.block _ hgp).trans HP2.out) 2
          simp at x2 y2
          have HB3 := Lib.hid hb3
          clear p0 p1 p2 p3 p4 p5 p6 r0 r1 r2 r3 r4 r5 r6 xx yy u0 u1 u2 u3 u4 u5 u6 t0 t1 t2 t3 t4 t5 t6 cP hw5 hb3 hbr HO2 HP2 HA0 HA1 HC0 HC1
          go_upto_region 12 with fail
          go_quiet (fail)
          go_wp2_with fail
          go_roundw
          case rel => exact ⟨k + 1, by omega, by go_num, below_drewN HB3.out nq⟩
          case measure => simp [intOf]; omega
        · have FIN := Lib.hid (below_over HB.out hb2)
          clear O P
          go_wp2_with fail
          go_ret
          exact ⟨rfl, FIN.out⟩

end Go.Proofs.YtbknmokamcjgpaaGreatDoor

/- The walk of SyntaxParses: whatever text is handed in. -/
namespace Go.Proofs.YtbknmokamcjgpaaGreatDoor
open Go.RowKit
open Go.Sort
open M

def exA6 : ByteArray := ⟨#[109, 111, 100, 117, 108, 101, 32, 109, 32, 111, 112, 97, 113, 117, 101, 32, 84, 32, 118, 97, 108, 32, 102, 32, 58, 32, 40, 84, 41, 32, 45, 62, 32, 73, 110, 116]⟩
def exB6 : ByteArray := ⟨#[109, 111, 100, 117, 108, 101, 32, 109, 32, 111, 112, 97, 113, 117, 101, 32, 116]⟩
def exM6 : Mo := ⟨⟨#[109]⟩, [], [⟨1, ⟨#[84]⟩, noT⟩, ⟨4, ⟨#[102]⟩, .mk 7 ⟨#[]⟩ 0 ⟨#[]⟩ ⟨#[]⟩ [] [localT ⟨#[]⟩ ⟨#[84]⟩, leafK 1]⟩]⟩
theorem exA6_res : parM exA6 = .ok exM6 12 0 := by kernel_rfl
theorem exB6_res : parM exB6 = .err 2 3 := by kernel_rfl
def noM : Mo := ⟨⟨#[]⟩, [], []⟩
theorem MoAt.zero (w : World) : MoAt w [.string ⟨#[]⟩, .slice none 0 0, .slice none 0 0] noM := ⟨none, 0, none, 0, rfl, by decide, by decide, by decide, fun i x h => by simp [noM] at h, fun i x h => by simp [noM] at h⟩

set_option maxRecDepth 100000 in
set_option maxHeartbeats 4000000 in
theorem up6_any (w : World) (he : CEnv w) (hg : ErrT w) : Calls Tryz.prog 16 #[] w fun e w' => e = .returned (.bool true) ∧ Below w.heap.size w w' := by
  have PA := cmparse_any exA6 w (by decide) he
  rw [exA6_res] at PA
  have HPA := Lib.hid PA
  have HE := Lib.hid he
  have HG := Lib.hid hg
  clear PA he hg
  go_enter Tryz.func16, Tryz.ntmps16
  go_wp2_with fail
  refine HPA.out.mono ?_
  rintro e w1 ⟨B1, ⟨l, m, j, hok, rfl, hM⟩ | ⟨b, j, g, herr, -⟩⟩
  rotate_left
  · cases herr
  cases hok
  obtain ⟨Ai, ci, Ad, cd, rfl, -, -, -, -, hD⟩ := hM.free
  obtain ⟨w2, hw2⟩ : ∃ w2, w2 = w1.alloc (.cells #[.string ⟨#[109]⟩, .slice Ai 0 ci, .slice Ad 2 cd] 49) := ⟨_, rfl⟩
  have B2 : Below w1.heap.size w1 w2 := by rw [hw2]; exact below_new (Below.refl _ _) _
  have O2 : w2.heap[w1.heap.size]? = some (.cells #[.string ⟨#[109]⟩, .slice Ai 0 ci, .slice Ad 2 cd] 49 (0, 0)) := by rw [hw2]; exact heap_alloc_new w1 _
  have B02 := below_over B1 B2
  have PB := cmparse_any exB6 w2 (by decide) (HE.out.on B02)
  rw [exB6_res] at PB
  have HPB := Lib.hid PB
  have HB02 := Lib.hid B02
  have HD := Lib.hid hD
  have HO2 := Lib.hid O2
  have HB2 := Lib.hid B2
  have HW2 := Lib.hid hw2
  clear hM hD B1 B2 O2 PB B02 hw2 HPA
  go_upto_region 2 with fail
  unfold exM6
  simp only [List.length_cons, List.length_nil]
  rw [← HW2.out]
  go_wp2_with fail
  refine HPB.out.mono ?_
  rintro e w3 ⟨B3, ⟨l, m, j, hok, -⟩ | ⟨b, j, g, herr, -, rfl, hsp⟩⟩
  · cases hok
  cases herr
  obtain ⟨w4, hw4⟩ : ∃ w4, w4 = w3.alloc (.cells #[.string ⟨#[]⟩, .slice none 0 0, .slice none 0 0] 49) := ⟨_, rfl⟩
  have B4 : Below w3.heap.size w3 w4 := by rw [hw4]; exact below_new (Below.refl _ _) _
  have B24 := below_over B3 B4
  have hsp4 := hsp.below B4
  have IS := Lib.hid (isSpot_any g 3 2 w4 (HG.out.on (below_over HB02.out B24)) hsp4.1 hsp4.2.1 hsp4.2.2)
  have hl2 := (Array.getElem?_eq_some_iff.1 HO2.out).1
  have O4 := (B24.block _ hl2).trans HO2.out
  have z0 := Lib.cell_of_heap O4 0
  have z2 := Lib.cell_of_heap O4 2
  simp at z0 z2
  have B14 := below_over HB2.out B24
  obtain ⟨g2, o2, v0, v1, v2, v3, v4, v5, v6, rfl, -, k1, -⟩ := (HD.out.below B14).de (i := 1) (x := ⟨4, ⟨#[102]⟩, .mk 7 ⟨#[]⟩ 0 ⟨#[]⟩ ⟨#[]⟩ [] [localT ⟨#[]⟩ ⟨#[84]⟩, leafK 1]⟩) rfl
  simp at k1
  have FIN := Lib.hid (below_over HB02.out B24)
  have HW4 := Lib.hid hw4
  clear hw4 B3 B4 B24 hsp O4 B14 HD HO2 HB2 HPB hl2 hsp4
  go_upto_region 3 with fail
  rw [← HW4.out]
  go_wp2_with fail
  refine IS.out.mono ?_; rintro e w5 ⟨rfl, hb5⟩
  go_wp2_with fail
  go_ret
  exact ⟨rfl, below_over FIN.out hb5⟩

set_option maxRecDepth 100000 in
set_option maxHeartbeats 4000000 in
theorem syntaxParses_any (s : ByteArray) (w : World) (he : CEnv w) (hg : ErrT w) : Calls Tryz.prog 6 #[.string s] w fun e w' => e = .returned (.bool true) ∧ Below w.heap.size w w' := by
  have UP := Lib.hid (up6_any w he hg)
  have HE := Lib.hid he
  have HG := Lib.hid hg
  have SZ : Hid (∀ w, Calls Tryz.prog 23 #[.agg #[.string ⟨#[]⟩, .slice none 0 0, .slice none 0 0], .agg #[.string ⟨#[]⟩, .slice none 0 0, .slice none 0 0]] w fun e w' => e = .returned (.bool true) ∧ Below w.heap.size w w') := Lib.hid (fun w => same6_any noM _ _ w (MoAt.zero w) (MoAt.zero w))
  clear he hg
  by_cases hn : 20000 < s.size
  · have hn' : (20000 : Int) < s.size := by omega
    have hec := sp_eqCode 3 3
    go_enter Tryz.func6, Tryz.ntmps6
    go_wp2_with fail
    refine UP.out.mono ?_; rintro e w1 ⟨rfl, hb1⟩
    go_wp2_with fail
    refine (cmparse_large s w1 hn).mono ?_; rintro e w2 ⟨rfl, hb2⟩
    obtain ⟨w3, hw3⟩ : ∃ w3, w3 = w2.alloc (.cells #[.string ⟨#[]⟩, .slice none 0 0, .slice none 0 0] 49) := ⟨_, rfl⟩
    have B3 : Below w2.heap.size w2 w3 := by rw [hw3]; exact below_new (Below.refl _ _) _
    have O3 : w3.heap[w2.heap.size]? = some (.cells #[.string ⟨#[]⟩, .slice none 0 0, .slice none 0 0] 49 (0, 0)) := by rw [hw3]; exact heap_alloc_new w2 _
    have B03 := Lib.hid (below_over (below_over hb1 hb2) B3)
    have x0 := Lib.cell_of_heap O3 0
    have x1 := Lib.cell_of_heap O3 1
    have x2 := Lib.cell_of_heap O3 2
    simp at x0 x1 x2
    have HW3 := Lib.hid hw3
    clear hw3 hb1 hb2 B3 O3
    go_upto_region 3 with fail
    rw [← HW3.out]
    go_wp2_with fail
    refine (SZ.out _).mono ?_; rintro e w4 ⟨rfl, hb4⟩
    go_wp2_with fail
    go_ret
    exact ⟨rfl, below_over B03.out hb4⟩
  · have hs : s.size ≤ 20000 := by omega
    have hn' : ¬ (20000 : Int) < s.size := by omega
    have PC : Hid (∀ w, CEnv w → Calls Tryz.prog 22 #[.string s] w (PmOut w (parM s))) := Lib.hid (fun w he => cmparse_any s w hs he)
    have PR : Hid (∀ w, Calls Tryz.prog 24 #[.string s] w (RmOut w (parM s))) := Lib.hid (fun w => rmparse_any s w hs)
    clear hs
    obtain ⟨R, hR⟩ : ∃ R, parM s = R := ⟨_, rfl⟩
    rw [hR] at PC PR
    clear hR
    go_enter Tryz.func6, Tryz.ntmps6
    go_wp2_with fail
    refine UP.out.mono ?_; rintro e w1 ⟨rfl, hb1⟩
    go_wp2_with fail
    refine (PC.out w1 (HE.out.on hb1)).mono ?_
    rintro e w2 ⟨hb2, ⟨l, m, j, hok, rfl, hM⟩ | ⟨b, j, g, herr, hb, rfl, hsp⟩⟩
    · subst hok
      obtain ⟨Ai, ci, Ad, cd, rfl, -⟩ := hM.free
      obtain ⟨w3, hw3⟩ : ∃ w3, w3 = w2.alloc (.cells #[.string m.name, .slice Ai m.imps.length ci, .slice Ad m.decs.length cd] 49) := ⟨_, rfl⟩
      have B3 : Below w2.heap.size w2 w3 := by rw [hw3]; exact below_new (Below.refl _ _) _
      have O3 : w3.heap[w2.heap.size]? = some (.cells #[.string m.name, .slice Ai m.imps.length ci, .slice Ad m.decs.length cd] 49 (0, 0)) := by rw [hw3]; exact heap_alloc_new w2 _
      have B03 := Lib.hid (below_over (below_over hb1 hb2) B3)
      have HM3 := Lib.hid (hM.free.below B3)
      have HO3 := Lib.hid O3
      have HW3 := Lib.hid hw3
      clear hw3 hb1 hb2 B3 O3 hM
      go_upto_region 3 with fail
      rw [← HW3.out]
      go_upto_region 5 with fail
      go_wp2_with fail
      refine (PR.out w3).mono ?_
      rintro e w4 ⟨hb4, ⟨l, m', j', hok, rfl, hM⟩ | ⟨b, j', herr, -⟩⟩
      rotate_left
      · cases herr
      cases hok
      obtain ⟨Bi, di, Bd, dd, rfl, -⟩ := id hM
      obtain ⟨w5, hw5⟩ : ∃ w5, w5 = w4.alloc (.cells #[.string m.name, .slice Bi m.imps.length di, .slice Bd m.decs.length dd] 49) := ⟨_, rfl⟩
      have B5 : Below w4.heap.size w4 w5 := by rw [hw5]; exact below_new (Below.refl _ _) _
      have O5 : w5.heap[w4.heap.size]? = some (.cells #[.string m.name, .slice Bi m.imps.length di, .slice Bd m.decs.length dd] 49 (0, 0)) := by rw [hw5]; exact heap_alloc_new w4 _
      have B35 := below_over hb4 B5
      have HSM := Lib.hid (same6_any m _ _ w5 (HM3.out.below B35) (hM.below B5))
      have O35 := (B35.block _ (Array.getElem?_eq_some_iff.1 HO3.out).1).trans HO3.out
      have B05 := Lib.hid (below_over B03.out B35)
      have x0 := Lib.cell_of_heap O35 0
      have x1 := Lib.cell_of_heap O35 1
      have x2 := Lib.cell_of_heap O35 2
      have y0 := Lib.cell_of_heap O5 0
      have y1 := Lib.cell_of_heap O5 1
      have y2 := Lib.cell_of_heap O5 2
      simp at x0 x1 x2 y0 y1 y2
      have HW5 := Lib.hid hw5
      clear hw5 hb4 B5 O5 B35 hM O35 HM3 HO3 HW3 UP
      go_upto_region 6 with fail
      rw [← HW5.out]
      go_wp2_with fail
      refine HSM.out.mono ?_; rintro e w6 ⟨rfl, hb6⟩
      go_wp2_with fail
      go_ret
      exact ⟨rfl, below_over B05.out hb6⟩
    · subst herr
      obtain ⟨w3, hw3⟩ : ∃ w3, w3 = w2.alloc (.cells #[.string ⟨#[]⟩, .slice none 0 0, .slice none 0 0] 49) := ⟨_, rfl⟩
      have B3 : Below w2.heap.size w2 w3 := by rw [hw3]; exact below_new (Below.refl _ _) _
      have O3 : w3.heap[w2.heap.size]? = some (.cells #[.string ⟨#[]⟩, .slice none 0 0, .slice none 0 0] 49 (0, 0)) := by rw [hw3]; exact heap_alloc_new w2 _
      have B03 := Lib.hid (below_over (below_over hb1 hb2) B3)
      have HSP := Lib.hid (hsp.below B3)
      have HO3 := Lib.hid O3
      have HW3 := Lib.hid hw3
      clear hw3 hb1 hb2 B3 O3 hsp
      go_upto_region 3 with fail
      rw [← HW3.out]
      go_upto_region 5 with fail
      go_wp2_with fail
      refine (PR.out w3).mono ?_
      rintro e w4 ⟨hb4, ⟨l, m', j', hok, -⟩ | ⟨b', j', herr, -, rfl⟩⟩
      · cases hok
      cases herr
      obtain ⟨w5, hw5⟩ : ∃ w5, w5 = w4.alloc (.cells #[.string ⟨#[]⟩, .slice none 0 0, .slice none 0 0] 49) := ⟨_, rfl⟩
      have B5 : Below w4.heap.size w4 w5 := by rw [hw5]; exact below_new (Below.refl _ _) _
      have B35 := below_over hb4 B5
      have hsp5 := HSP.out.below B35
      have TD := Lib.hid (isSpot_any g j b w5 (HG.out.on (below_over B03.out B35)) hsp5.1 hsp5.2.1 hsp5.2.2)
      have HO5 := Lib.hid ((B35.block _ (Array.getElem?_eq_some_iff.1 HO3.out).1).trans HO3.out)
      have B05 := Lib.hid (below_over B03.out B35)
      have HW5 := Lib.hid hw5
      have hb1 : (((b : Nat) : Int) == 0) = false := by simp; omega
      have hb2 : (((b : Nat) : Int) != 0) = true := by simp; omega
      clear hw5 hb4 B5 B35 HO3 HW3 UP hb hsp5
      go_upto_region 6 with fail
      rw [← HW5.out]
      go_wp2_with fail
      refine TD.out.mono ?_; rintro e w6 ⟨rfl, hb6⟩
      have O6 := (hb6.block _ (Array.getElem?_eq_some_iff.1 HO5.out).1).trans HO5.out
      have B06 := Lib.hid (below_over B05.out hb6)
      have x0 := Lib.cell_of_heap O6 0
      have x1 := Lib.cell_of_heap O6 1
      have x2 := Lib.cell_of_heap O6 2
      simp at x0 x1 x2
      clear hb6 O6 TD
      go_wp2_with fail
      refine (SZ.out _).mono ?_; rintro e w7 ⟨rfl, hb7⟩
      go_wp2_with fail
      go_ret
      exact ⟨rfl, below_over B06.out hb7⟩

end Go.Proofs.YtbknmokamcjgpaaGreatDoor
