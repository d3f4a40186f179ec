/-
  Several texts in one.
-/
import Derived.Test.YteecgiebimdbhaaGreatDoorK11
import Derived.Lib.AppendStr
import Derived.Lib.UnsafeStr
import Derived.Lib.OthersKept
import Derived.Laws.Externs
set_option maxRecDepth 100000
set_option maxHeartbeats 4000000
namespace Go.Proofs.YteecgiebimdbhaaGreatDoor
open Go.RowKit
open Go.Sort
open M
theorem indexD_any (A : Option Addr) (c n : Nat) (xs : List De) (w : World) (hn : xs.length = n) (hz : n <= 9223372036854775807) (hS : RowIn deR w A xs) :
    Calls Tryz.prog 285 #[.slice A n c, .func (.func 268) #[] #[]] w fun e w' => ∃ r : Int, e = .returned (.int .i64 r) /\ decide (0 <= r) = !xs.all mayD /\ Below w.heap.size w w' := by
  have HS := hZ hS;have HN := hZ hn;clear hS hn;go_enter Tryz.func285, Tryz.ntmps285
  go_wp2_with fail
  go_loopw [8] (fun i wr => ∃ k : Nat, k <= n /\ i = .int .i64 k /\ Hid ((xs.take k).all mayD = true) /\ Below w.heap.size w wr) (fun i _ => n - (intOf i).toNat)
  case atStart => exact ⟨0, by omega, rfl, hZ (by simp), Below.refl _ _⟩
  case round =>
    obtain ⟨k, hk, rfl, HP, hb⟩ := hrel;obtain ⟨wo, rfl⟩ : ∃ wo : World, wo = wr := ⟨_, rfl⟩;by_cases hlt : k < n
    · obtain ⟨x, hx⟩ : ∃ x, xs[k]? = some x := ⟨_, List.getElem?_eq_getElem (by rw [HN.out]; exact hlt)⟩
      obtain ⟨g, o, v0, v1, v2, v3, v4, v5, v6, rfl, -, a0, a1, u0, u1, u2, u3, u4, u5, u6, us, zs⟩ := (HS.out.below hb).de hx;obtain ⟨An, cA, As, cS, ev, -⟩ := us.parts;simp only [List.cons.injEq, and_true] at ev;obtain ⟨rfl, rfl, rfl, rfl, rfl, rfl, rfl⟩ := ev;have IM := hZ (cmayNotD_any x.kind x.name x.typ An As cA cS wo us zs);have HX := hZ hx;clear hx us zs;obtain ⟨q, hq⟩ : ∃ q, mayD ⟨x.kind, x.name, x.typ⟩ = q := ⟨_, rfl⟩;rw [hq] at IM;have HQ := hZ hq;clear hq;cases q with
      | false =>
        have R : Hid (decide (0 <= (k : Int)) = !xs.all mayD) := hZ (by
          have : xs.all mayD = false := by rw [List.all_eq_false]; exact ⟨x, List.mem_of_getElem? HX.out, by rw [show mayD x = false from HQ.out]; decide⟩
          rw [this]; simp)
        go_wp2_with fail
        refine IM.out.mono ?_; rintro e w2 ⟨rfl, hb2⟩
        have hb3 := below_over hb hb2;clear a0 a1 u0 u1 u2 u3 u4 u5 u6 hb hb2;go_wp2_with fail
        go_ret;exact ⟨_, rfl, R.out, hb3⟩
      | true =>
        go_wp2_with fail
        refine IM.out.mono ?_; rintro e w2 ⟨rfl, hb2⟩
        have hb3 := below_over hb hb2;clear a0 a1 u0 u1 u2 u3 u4 u5 u6 hb hb2;go_wp2_with fail
        go_roundw
        case rel => exact ⟨k + 1, by omega, by go_num, hZ (by rw [all_snoc _ _ _ _ HX.out, HP.out, show mayD x = true from HQ.out]; rfl), hb3⟩
        case measure => simp [intOf]; omega
    · have R : Hid (decide (0 <= (-1 : Int)) = !xs.all mayD) := hZ (by
        have h := HP.out;rw [List.take_of_length_le (by rw [HN.out]; omega)] at h;rw [h]; rfl)
      go_wp2_with fail
      go_ret;exact ⟨_, rfl, R.out, hb⟩
theorem containsD_any (A : Option Addr) (c n : Nat) (xs : List De) (w : World) (hn : xs.length = n) (hz : n <= 9223372036854775807) (hS : RowIn deR w A xs) :
    Calls Tryz.prog 267 #[.slice A n c, .func (.func 268) #[] #[]] w fun e w' => e = .returned (.bool (!xs.all mayD)) /\ Below w.heap.size w w' := by
  have HC := hZ (indexD_any A c n xs w hn hz hS);clear hn hS;go_enter Tryz.func267, Tryz.ntmps267
  go_wp2_with fail
  refine HC.out.mono ?_; rintro e w2 ⟨r, rfl, hr, hb2⟩
  have HR := hZ hr;clear hr HC;go_wp2_with fail
  go_ret;exact ⟨ret_bool HR.out.symm, hb2⟩
theorem cmay6_any (m : Mo) (l : List Value) (w : World) (h : MoAt w l m) : Calls Tryz.prog 238 #[.agg l.toArray] w fun e w' => e = .returned (.bool (mayM m)) /\ Below w.heap.size w w' := by
  obtain ⟨Ai, ci, Ad, cd, rfl, z1, z2, z3, hI, hD⟩ := h;obtain ⟨w0, hw0⟩ : ∃ w0, w0 = w.alloc (.cells #[.string m.name, .slice Ai m.imps.length ci, .slice Ad m.decs.length cd] 139) := ⟨_, rfl⟩;have B0 : Below w.heap.size w w0 := by rw [hw0]; exact below_new (Below.refl _ _) _
  have O0 : w0.heap[w.heap.size]? = some (.cells #[.string m.name, .slice Ai m.imps.length ci, .slice Ad m.decs.length cd] 139 (0, 0)) := by rw [hw0]; exact heap_alloc_new w _
  have hl0 : w.heap.size < w0.heap.size := by rw [hw0]; simp
  have S0 := hZ (fun w => csmall_b m.name w z1);have SI : Hid (∀ w', Below w.heap.size w w' -> Calls Tryz.prog 29 #[.slice Ai m.imps.length ci] w' fun e w'' => e = .returned (.bool (decide (m.imps.length <= 20) && m.imps.all mayI)) /\ Below w'.heap.size w' w'') := hZ (fun w' hb => cmayI_any Ai ci _ m.imps w' rfl z2 (hI.below hb));have SD : Hid (∀ w', Below w.heap.size w w' -> Calls Tryz.prog 267 #[.slice Ad m.decs.length cd, .func (.func 268) #[] #[]] w' fun e w'' => e = .returned (.bool (!m.decs.all mayD)) /\ Below w'.heap.size w' w'') := hZ (fun w' hb => containsD_any Ad cd _ m.decs w' rfl z3 (hD.below hb));obtain ⟨V, hV⟩ : ∃ V, mayM m = V := ⟨_, rfl⟩;rw [hV];have HV : Hid ((smallB m.name.data.toList && (decide (m.imps.length <= 20) && (decide (m.decs.length <= 60) && (m.imps.all mayI && m.decs.all mayD)))) = V) := hZ hV;generalize m.imps.length = ni at *
  generalize m.decs.length = nd at *
  generalize smallB m.name.data.toList = b0 at S0 HV
  generalize m.imps.all mayI = b1 at SI HV
  generalize m.decs.all mayD = b2 at SD HV
  have HV0 : Hid ((b0 && ((decide (ni <= 20) && b1) && (decide (nd <= 60) && b2))) = V) := hZ (by
    rw [<- HV.out];cases b0 <;> cases b1 <;> cases b2 <;> cases decide (ni <= 20) <;> cases decide (nd <= 60) <;> rfl)
  generalize (decide (ni <= 20) && b1) = q at SI HV0
  have x0 := cZ O0 0;simp at x0;have HO := hZ O0;have HB := hZ B0;have HW0 := hZ hw0;clear hV hI hD hw0 B0 O0 z1 z2 HV;go_enter Tryz.func238, Tryz.ntmps238
  go_upto_region 1 with fail
  rw [<- HW0.out];clear HW0;go_wp2_with fail
  refine (S0.out _).mono ?_; rintro e w1 ⟨rfl, hb1⟩
  have O1 := (hb1.block _ hl0).trans HO.out;have x1 := cZ O1 1;simp at x1;have HB1 := hZ (below_over HB.out hb1);have hl1 := Nat.lt_of_lt_of_le hl0 hb1.size;clear x0 hb1 HB HO hl0 S0;cases b0 with
  | false => go_wp2_with fail; go_ret; exact ⟨by rw [<- HV0.out]; rfl, HB1.out⟩
  | true =>
  go_wp2_with fail
  refine (SI.out _ HB1.out).mono ?_; rintro e w2 ⟨rfl, hb2⟩
  have O2 := (hb2.block _ hl1).trans O1;have x2 := cZ O2 2;simp at x2;have HB2 := hZ (below_over HB1.out hb2);clear x1 hb2 HB1 O1 O2 hl1 SI;cases q with
  | false => go_wp2_with fail; go_ret; exact ⟨by rw [<- HV0.out]; rfl, HB2.out⟩
  | true =>
  by_cases hd : nd <= 60
  rotate_left
  · have e1 : ¬ (nd : Int) <= 60 := by omega
    go_wp2_with fail
    go_ret;exact ⟨by rw [<- HV0.out, decide_eq_false hd]; simp <;> omega, HB2.out⟩
  have e1 : (nd : Int) <= 60 := by omega
  go_wp2_with fail
  refine (SD.out _ HB2.out).mono ?_; rintro e w3 ⟨rfl, hb3⟩
  have HB3 := hZ (below_over HB2.out hb3);have HV3 : Hid (b2 = V) := hZ (by rw [<- HV0.out, decide_eq_true hd]; simp);clear x2 hb3 HB2 SD HV0;go_wp2_with fail
  go_ret;exact ⟨by rw [<- HV3.out]; cases b2 <;> simp, HB3.out⟩
def tB (t : Ty) : ByteArray := ⟨(textT t).toArray⟩
def rB (L : List (List UInt8)) (ns : List ByteArray) (k : Nat) : ByteArray := ⟨(rowOf L ns k).toArray⟩
theorem tB_size (t : Ty) : (tB t).size = (textT t).length := by rw [<- len_size]; simp [tB]
theorem rB_size (L : List (List UInt8)) (ns : List ByteArray) (k : Nat) : (rB L ns k).size = (rowOf L ns k).length := by rw [<- len_size]; simp [rB]
theorem bytes_ext' {a b : ByteArray} (h : a.data.toList = b.data.toList) : a = b := by
 cases a; cases b; simp at h; simpa using h
theorem rB_00 {l : List Ty} {k : Nat} {s : Ty} (hs : l[k]? = some s) (hk : ¬ 0 < k) {ns : List ByteArray} (hn : ¬ 0 < ns.length) : rB (textsT l) ns k ++ tB s = rB (textsT l) ns (k + 1) :=
 bytes_ext' (by simp [rB, tB, rowOf, hk, hn]; rw [<- List.getD_eq_getElem?_getD, textsT_at l k s hs])
theorem rB_10 {l : List Ty} {k : Nat} {s : Ty} (hs : l[k]? = some s) (hk : 0 < k) {ns : List ByteArray} (hn : ¬ 0 < ns.length) : rB (textsT l) ns k ++ ⟨#[44, 32]⟩ ++ tB s = rB (textsT l) ns (k + 1) :=
 bytes_ext' (by simp [rB, tB, rowOf, hk, hn]; rw [<- List.getD_eq_getElem?_getD, textsT_at l k s hs])
theorem rB_01 {l : List Ty} {k : Nat} {s : Ty} (hs : l[k]? = some s) (hk : ¬ 0 < k) {ns : List ByteArray} (hn : 0 < ns.length) {q : ByteArray} (hq : nameAt ns k = q) : rB (textsT l) ns k ++ q ++ ⟨#[58, 32]⟩ ++ tB s = rB (textsT l) ns (k + 1) :=
 bytes_ext' (by simp [rB, tB, rowOf, hk, hn, hq]; rw [<- List.getD_eq_getElem?_getD, textsT_at l k s hs])
theorem rB_11 {l : List Ty} {k : Nat} {s : Ty} (hs : l[k]? = some s) (hk : 0 < k) {ns : List ByteArray} (hn : 0 < ns.length) {q : ByteArray} (hq : nameAt ns k = q) : rB (textsT l) ns k ++ ⟨#[44, 32]⟩ ++ q ++ ⟨#[58, 32]⟩ ++ tB s = rB (textsT l) ns (k + 1) :=
 bytes_ext' (by simp [rB, tB, rowOf, hk, hn, hq]; rw [<- List.getD_eq_getElem?_getD, textsT_at l k s hs])
theorem nameAt_of' {l : List ByteArray} {i : Nat} {s : ByteArray} (h : l[i]? = some s) : nameAt l i = s := by
 unfold nameAt; rw [List.getD_eq_getElem?_getD, h]; rfl
theorem row_any (A : Option Addr) (c : Nat) (ss : List Ty) (An : Option Addr) (cn : Nat) (ns : List ByteArray) (r : Nat) (w : World) (hr : r <= ss.length) (hl : ss.length <= 9223372036854775807) (hln : ns.length <= 9223372036854775807)
  (hS : SubsAt w A ss) (hN : NamesAt w An ns) (hnr : 0 < ns.length -> r <= ns.length) (hbr : ∀ k, k <= r -> (rowOf (textsT ss) ns k).length <= 2000000) (hbs : ∀ s, s ∈ ss -> (textT s).length <= 2000000) (hbn : ∀ i, i < ns.length -> (nameAt ns i).size <= 20)
  (IH : ∀ s, s ∈ ss -> ∀ (v : Value) (w : World), TyV w v s -> Calls Tryz.prog 33 #[v] w fun e w' => e = .returned (.string (tB s)) /\ Below w.heap.size w w') :
  Calls Tryz.prog 64 #[.slice A ss.length c, .slice An ns.length cn, .int .i64 r] w fun e w' => e = .returned (.string (rB (textsT ss) ns r)) /\ Below w.heap.size w w' := by
 have HS := hZ hS
 have HN := hZ hN
 have HBR := hZ hbr
 have HBS := hZ hbs
 have HBN := hZ hbn
 have HIH := hZ IH
 clear hS hN hbr hbs hbn IH
 generalize hq1 : ss.length = n at hr hl
 have HL := hZ hq1
 generalize hq2 : ns.length = m at hnr hln
 have HM := hZ hq2
 clear hq1 hq2
 go_enter Tryz.func64, Tryz.ntmps64
 go_wp2_with fail
 go_loopw [7, 8] (fun o i wr => ∃ k : Nat, k <= r /\ i = .int .i64 k /\ o = .string (rB (textsT ss) ns k) /\ Below w.heap.size w wr) (fun _ i _ => r - (intOf i).toNat)
 case atStart => exact ⟨0, by omega, rfl, rfl, Below.refl _ _⟩
 case round =>
  obtain ⟨k, hk, rfl, rfl, hb⟩ := hrel;obtain ⟨wo, rfl⟩ : ∃ wo : World, wo = wr := ⟨_, rfl⟩;by_cases hlt : k < r
  ·obtain ⟨s, hs⟩ : ∃ s, ss[k]? = some s := ⟨_, List.getElem?_eq_getElem (by rw [HL.out]; omega)⟩
   obtain ⟨g, o, v0, v1, v2, v3, v4, v5, v6, rfl, -, h0, h1, h2, h3, h4, h5, h6, hs7⟩ := HS.out.below hb k s hs;have IHs := hZ (HIH.out s (List.mem_of_getElem? hs) (.agg #[v0, v1, v2, v3, v4, v5, v6]) wo ⟨_, rfl, hs7⟩);have bk := rB_size (textsT ss) ns k;have bk2 := HBR.out k (by omega);have bs := HBS.out s (List.mem_of_getElem? hs);have bt := tB_size s;clear hs7;by_cases hm : 0 < m
   ·obtain ⟨q, hq⟩ : ∃ q, ns[k]? = some q := ⟨_, List.getElem?_eq_getElem (by rw [HM.out]; have := hnr hm; omega)⟩
    obtain ⟨gn, on, rfl, -, hcn, -⟩ := HN.out.below hb k q hq
    have hqs : q.size <= 20 := by
     have := HBN.out k (by rw [HM.out]; have := hnr hm; omega)
     rwa [nameAt_of' hq] at this
    have hm' : (0 : Int) < m := by omega
    have hml : 0 < ns.length := by rw [HM.out]; exact hm
    rcases Nat.eq_zero_or_pos k with hp | hp
    ·have hp' : ¬ (0 : Int) < k := by omega
     have HJ : Hid (rB (textsT ss) ns k ++ q ++ ⟨#[58, 32]⟩ ++ tB s = rB (textsT ss) ns (k + 1)) := hZ (rB_01 hs (by omega) (by omega) (nameAt_of' hq));have n1 : ¬ ((rB (textsT ss) ns k).size + q.size > 9223372036854775807) := by omega
     have n2 : ¬ ((rB (textsT ss) ns k).size + q.size + 2 > 9223372036854775807) := by omega
     have n3 : ¬ ((rB (textsT ss) ns k).size + q.size + 2 + (tB s).size > 9223372036854775807) := by omega
     clear hs bs bt bk bk2 hp hml;go_wp2_with fail
     refine IHs.out.mono ?_; rintro e w2 ⟨rfl, hb2⟩
     have hb3 := below_over hb hb2;clear hb hb2 h0 h1 h2 h3 h4 h5 h6;go_wp2_with fail
     rw [HJ.out];go_roundw
     case rel => exact ⟨k + 1, by omega, by go_num, rfl, hb3⟩
     case measure => simp [intOf]; omega
    ·have hp' : (0 : Int) < k := by omega
     have HJ : Hid (rB (textsT ss) ns k ++ ⟨#[44, 32]⟩ ++ q ++ ⟨#[58, 32]⟩ ++ tB s = rB (textsT ss) ns (k + 1)) := hZ (rB_11 hs (by omega) (by omega) (nameAt_of' hq));have n1 : ¬ ((rB (textsT ss) ns k).size + 2 > 9223372036854775807) := by omega
     have n2 : ¬ ((rB (textsT ss) ns k).size + 2 + q.size > 9223372036854775807) := by omega
     have n3 : ¬ ((rB (textsT ss) ns k).size + 2 + q.size + 2 > 9223372036854775807) := by omega
     have n4 : ¬ ((rB (textsT ss) ns k).size + 2 + q.size + 2 + (tB s).size > 9223372036854775807) := by omega
     clear hs bs bt bk bk2 hp hml;go_wp2_with fail
     refine IHs.out.mono ?_; rintro e w2 ⟨rfl, hb2⟩
     have hb3 := below_over hb hb2;clear hb hb2 h0 h1 h2 h3 h4 h5 h6;go_wp2_with fail
     rw [HJ.out];go_roundw
     case rel => exact ⟨k + 1, by omega, by go_num, rfl, hb3⟩
     case measure => simp [intOf]; omega
   ·have hm' : ¬ (0 : Int) < m := by omega
    have hml : ¬ 0 < ns.length := by rw [HM.out]; exact hm
    rcases Nat.eq_zero_or_pos k with hp | hp
    ·have hp' : ¬ (0 : Int) < k := by omega
     have HJ : Hid (rB (textsT ss) ns k ++ tB s = rB (textsT ss) ns (k + 1)) := hZ (rB_00 hs (by omega) (by omega));have n1 : ¬ ((rB (textsT ss) ns k).size + (tB s).size > 9223372036854775807) := by omega
     clear hs bs bt bk bk2 hp hml;go_wp2_with fail
     refine IHs.out.mono ?_; rintro e w2 ⟨rfl, hb2⟩
     have hb3 := below_over hb hb2;clear hb hb2 h0 h1 h2 h3 h4 h5 h6;go_wp2_with fail
     rw [HJ.out];go_roundw
     case rel => exact ⟨k + 1, by omega, by go_num, rfl, hb3⟩
     case measure => simp [intOf]; omega
    ·have hp' : (0 : Int) < k := by omega
     have HJ : Hid (rB (textsT ss) ns k ++ ⟨#[44, 32]⟩ ++ tB s = rB (textsT ss) ns (k + 1)) := hZ (rB_10 hs (by omega) (by omega));have n1 : ¬ ((rB (textsT ss) ns k).size + 2 > 9223372036854775807) := by omega
     have n2 : ¬ ((rB (textsT ss) ns k).size + 2 + (tB s).size > 9223372036854775807) := by omega
     clear hs bs bt bk bk2 hp hml;go_wp2_with fail
     refine IHs.out.mono ?_; rintro e w2 ⟨rfl, hb2⟩
     have hb3 := below_over hb hb2;clear hb hb2 h0 h1 h2 h3 h4 h5 h6;go_wp2_with fail
     rw [HJ.out];go_roundw
     case rel => exact ⟨k + 1, by omega, by go_num, rfl, hb3⟩
     case measure => simp [intOf]; omega
  ·obtain rfl : k = r := by omega
   go_wp2_with fail
   go_ret;exact ⟨rfl, hb⟩
theorem bld_size : (Tryz.prog.info? 64).map (·.size) = some 2 := by kernel_rfl
theorem bld_lies : liesAt Tryz.prog Tryz.prog.depth 64 (2 / Tryz.prog.cellsOf 64) 0 64 1 = true := by kernel_rfl
theorem bld_byte : (Tryz.prog.info? 5).map (fun i => (i.zero, i.size, i.bytes)) = some (some (.int .u8 0), 1, 1) := by kernel_rfl
theorem check_used (b : Nat) (w : World) (h0 : w.cell? ⟨b, 0, none⟩ = some (.pointer (some ⟨b, 0, none⟩))) :
    Calls Tryz.prog 50 #[.pointer (some ⟨b, 0, none⟩)] w fun e w' => e = .returned (.tuple #[]) /\ w' = w := by
  obtain ⟨j, hj, -⟩ := Option.map_eq_some_iff.1 bld_size;go_enter Tryz.func50, Tryz.ntmps50
  go_wp2
  rw [Lib.run_neq_ptr_same w _ Tryz.underlying61 hj];go_wp2
  go_end0
  exact ⟨rfl, rfl⟩
theorem check_fresh (b : Nat) (w : World) (h0 : w.cell? ⟨b, 0, none⟩ = some (.pointer none)) (hsh : w.shape? b = some (64, 2)) (hfz : w.frozen? ⟨b, 0, none⟩ = false) :
    Calls Tryz.prog 50 #[.pointer (some ⟨b, 0, none⟩)] w fun e w' => e = .returned (.tuple #[]) /\ w' = w.setCell ⟨b, 0, none⟩ (.pointer (some ⟨b, 0, none⟩)) := by
  obtain ⟨j, hj, hjs⟩ := Option.map_eq_some_iff.1 bld_size;go_enter Tryz.func50, Tryz.ntmps50
  go_wp2
  rw [Lib.run_to_unsafe w ⟨b, 0, none⟩ Tryz.underlying61 Tryz.underlying123 hj (by rw [hjs]; decide) hsh (Nat.zero_lt_succ 1)];simp only [Result.andThen];rw [Oper.upon_value];go_wp2
  rw [run_callFunc_extern Tryz.func91 (by kernel_rfl) (by kernel_rfl) (by kernel_rfl) (e := Extern.AbiNoEscape.same) (by kernel_rfl)];rw [Lib.run_noEscape];simp only [Result.andThen];rw [Oper.upon_value];go_wp2
  rw [Lib.run_from_unsafe w ⟨b, 0, none⟩ Tryz.underlying123 Tryz.underlying61 hj hsh bld_lies];simp only [Result.andThen];rw [Oper.upon_value];go_wp2
  go_end0
  exact ⟨rfl, rfl⟩
theorem own_kind {w : World} {B : Nat} {e : TypeId} {v : Value} {n : Nat} {xs : List Value} (h : w.ownsRow B e 1 v n xs) : ∀ g, v.ownBlock = some g -> ∃ c fz, w.heap[g]? = some (.cells c e fz) := by
  intro g hg;rcases h.2 with ⟨rfl, _⟩ | ⟨g', cap, cur, rfl, _, hgg, _⟩
  · simp [Value.ownBlock] at hg
  · simp [Value.ownBlock] at hg
    subst hg;exact ⟨cur, (0, 0), hgg⟩
theorem check_any (B b : Nat) (bs : List Value) (w : World) (h : Lib.IsBuilder 64 5 B b bs w) :
    Calls Tryz.prog 50 #[.pointer (some ⟨b, 0, none⟩)] w fun e w' => e = .returned (.tuple #[]) /\ (Lib.BuilderAt 64 5 B b (.pointer (some ⟨b, 0, none⟩)) bs w' /\ Below B w w' /\ Lib.OthersKept 5 (some b) w w') := by
  rcases h with h | h
  · refine (check_fresh b w h.cell0 h.shape h.frozen0).mono ?_
    rintro e w' ⟨rfl, rfl⟩;exact ⟨rfl, h.used _, (Below.refl B w).setCell (p := ⟨b, 0, none⟩) h.1 _, (Lib.OthersKept.refl _ _ w).setCell ⟨b, 0, none⟩ rfl _⟩
  · refine (check_used b w h.cell0).mono ?_
    rintro e w' ⟨rfl, rfl⟩;exact ⟨rfl, h, Below.refl B _, Lib.OthersKept.refl _ _ _⟩
theorem writeString_any (B b : Nat) (bs : List Value) (s : ByteArray) (w : World) (h : Lib.IsBuilder 64 5 B b bs w) (hlen : bs.length + s.size <= 140737488355328) (hBw : B <= w.heap.size) :
    Calls Tryz.prog 22 #[.pointer (some ⟨b, 0, none⟩), .string s] w fun e w' => e = .returned (.tuple #[.int .i64 s.size, .nilIface]) /\ (Lib.BuilderAt 64 5 B b (.pointer (some ⟨b, 0, none⟩)) (bs ++ Lib.strCells s) w' /\ Below B w w' /\ Lib.OthersKept 5 (some b) w w') := by
  obtain ⟨i0, hi, hz0, hz1, hz2⟩ := info_parts bld_byte;go_enter Tryz.func22, Tryz.ntmps22
  go_wp2_with fail
  refine (check_any B b bs _ h).mono ?_;rintro e w1 ⟨rfl, h1, hb1, hk1⟩;obtain ⟨hB, v, hbk, hown, hne⟩ := h1;have c0 : w1.cell? ⟨b, 0, none⟩ = some (.pointer (some ⟨b, 0, none⟩)) := by rw [cZ hbk]; rfl
  have c1 : w1.cell? ⟨b, 1, none⟩ = some v := by rw [cZ hbk]; rfl
  go_wp2_with (at_builtin; refine Lib.wpList_append_own_string _ rfl _ _ 62 9 rfl B 5 i0 Tryz.underlying62 Tryz.underlying9 hi hz0 hz1 hz2 _ _ _ rfl hown s rfl ?c3 ?c4 ?c5 ?_)
  case c3 => unfold maxLen; omega
  case c4 => omega
  case c5 => have := hb1.size; omega
  intro v' w2 hown' hgrow _;have hlt : b < w1.heap.size := Lib.BuilderAt.lt ⟨hB, v, hbk, hown, hne⟩
  have hb2 : w2.heap[b]? = some (.cells #[.pointer (some ⟨b, 0, none⟩), v] 64 (0, 0)) := by
    rw [hgrow.block b hlt (fun e => hne e.symm)];exact hbk
  have d0 : w2.cell? ⟨b, 0, none⟩ = some (.pointer (some ⟨b, 0, none⟩)) := by rw [cZ hb2]; rfl
  have d1 : w2.cell? ⟨b, 1, none⟩ = some v := by rw [cZ hb2]; rfl
  have f1 : w2.frozen? ⟨b, 1, none⟩ = false := Lib.frozen_of_heap hb2 1
  obtain ⟨ao, n', cap, rfl⟩ : ∃ ao n' cap, v' = .slice ao n' cap := by
    rcases hown'.2 with ⟨hv, _⟩ | ⟨g, cap, cur, hv, _⟩
    · exact ⟨_, _, _, hv⟩
    · exact ⟨_, _, _, hv⟩
  go_wp2
  go_ret2
  refine ⟨rfl, ?_, ?_, (hk1.grown hgrow (own_kind hown)).setCell ⟨b, 1, none⟩ rfl _⟩
  · exact Lib.BuilderAt.put (T := 64) (e := 5) hB hb2 (bs' := bs ++ Lib.strCells s) (by rw [List.length_append, Lib.strCells_length]; exact hown') (by decide)
  · exact (hb1.grown hgrow (by have := hb1.size; omega) (fun k hk => (hown.lt k hk).1)).setCell (p := ⟨b, 1, none⟩) hB _
theorem bld_alloc {T e : TypeId} {B b : Nat} {p : Value} {bs : List Value} {w : World} (h : Lib.BuilderAt T e B b p bs w) (o : Obj) : Lib.BuilderAt T e B b p bs (w.alloc o) := by
  have hlt := h.lt;obtain ⟨hB, v, hbk, hown, hne⟩ := h;exact ⟨hB, v, (Lib.alloc_old w o b hlt).trans hbk, hown.alloc o, hne⟩
theorem isBld_alloc {T e : TypeId} {B b : Nat} {bs : List Value} {w : World} (h : Lib.IsBuilder T e B b bs w) (o : Obj) : Lib.IsBuilder T e B b bs (w.alloc o) := by
  rcases h with h | h
  · exact .inl (bld_alloc h o)
  · exact .inr (bld_alloc h o)
theorem kept_cell {e : TypeId} {b k : Nat} {cs : Array Value} {T : TypeId} {w w' : World} (h : Lib.OthersKept e (some b) w w') (hk : w.heap[k]? = some (.cells cs T (0, 0))) (hne : k ≠ b) (hT : T ≠ e) (i : Nat) : w'.cell? ⟨k, i, none⟩ = cs[i]? := by
  have := h k _ hk (by simpa using hne) (fun c fz e => by injection e with _ e _; exact hT e)
  exact cZ this i
theorem ownsRow_below {w w' : World} {B : Nat} {e : TypeId} {z : Nat} {v : Value} {n : Nat} {xs : List Value} (h : w.ownsRow B e z v n xs) (hb : Below w.heap.size w w') : w'.ownsRow B e z v n xs := by
  refine ⟨h.1, ?_⟩;rcases h.2 with h | ⟨g, cap, cur, hv, hB, hg, rest⟩
  · exact .inl h
  · exact .inr ⟨g, cap, cur, hv, hB, (hb.block g (Array.getElem?_eq_some_iff.1 hg).1).trans hg, rest⟩
theorem builder_below {T e : TypeId} {B b : Nat} {p : Value} {bs : List Value} {w w' : World} (h : Lib.BuilderAt T e B b p bs w) (hb : Below w.heap.size w w') : Lib.BuilderAt T e B b p bs w' := by
  have hlt := h.lt;obtain ⟨hB, v, hbk, hown, hne⟩ := h;exact ⟨hB, v, (hb.block b hlt).trans hbk, ownsRow_below hown hb, hne⟩
def Wr (B b : Nat) (w0 : World) (l : List UInt8) (w : World) : Prop :=
  Lib.IsBuilder 64 5 B b (Lib.byteCells l) w /\ Below B w0 w /\ Lib.OthersKept 5 (some b) w0 w
theorem Wr.lt {B b : Nat} {w0 w : World} {l : List UInt8} (h : Wr B b w0 l w) : b < w.heap.size := h.1.elim (fun h => h.lt) (fun h => h.lt)
theorem Wr.le {B b : Nat} {w0 w : World} {l : List UInt8} (h : Wr B b w0 l w) : B <= b := h.1.elim (fun h => h.1) (fun h => h.1)
theorem Wr.alloc {B b : Nat} {w0 w : World} {l : List UInt8} (h : Wr B b w0 l w) (o : Obj) : Wr B b w0 l (w.alloc o) :=
  ⟨isBld_alloc h.1 o, h.2.1.alloc (by have := h.lt; have := h.le; omega) o, h.2.2.alloc o⟩
theorem Wr.below {B b : Nat} {w0 w w' : World} {l : List UInt8} (h : Wr B b w0 l w) (hb : Below w.heap.size w w') : Wr B b w0 l w' :=
  ⟨h.1.elim (fun h => .inl (builder_below h hb)) (fun h => .inr (builder_below h hb)), h.2.1.trans (hb.mono (by have := h.lt; have := h.le; omega)),
    fun k o hk hne ho => by
      have h1 := h.2.2 k o hk hne ho;exact (hb.block k (Array.getElem?_eq_some_iff.1 h1).1).trans h1⟩
theorem Wr.base {B b : Nat} {w0 w : World} {l : List UInt8} (h : Wr B b w0 l w) : Wr B b w l w := ⟨h.1, Below.refl _ _, Lib.OthersKept.refl _ _ _⟩
theorem Wr.over {B b : Nat} {w0 w w' : World} {l l' : List UInt8} (h : Wr B b w0 l w) (h' : Wr B b w l' w') : Wr B b w0 l' w' := ⟨h'.1, h.2.1.trans h'.2.1, h.2.2.trans h'.2.2⟩
theorem Wr.cell {B b : Nat} {w0 w : World} {l : List UInt8} (h : Wr B b w0 l w) {k : Nat} {cs : Array Value} (hk : w0.heap[k]? = some (.cells cs 55 (0, 0))) (hne : k ≠ b) (i : Nat) : w.cell? ⟨k, i, none⟩ = cs[i]? :=
  kept_cell h.2.2 hk hne (by decide) i
theorem Wr.eq {B b : Nat} {w0 w : World} {l l' : List UInt8} (h : Wr B b w0 l w) (e : l = l') : Wr B b w0 l' w := e ▸ h
theorem wr_str {B b : Nat} {w0 w : World} {l : List UInt8} (h : Wr B b w0 l w) (s : ByteArray) (hl : l.length + s.size <= 4000000) :
    Calls Tryz.prog 22 #[.pointer (some ⟨b, 0, none⟩), .string s] w fun e w' => e = .returned (.tuple #[.int .i64 s.size, .nilIface]) /\ Wr B b w0 (l ++ s.data.toList) w' := by
  refine (writeString_any B b _ s w h.1 (by rw [Lib.byteCells_length]; omega) (by have := h.lt; have := h.le; omega)).mono ?_;rintro e w' ⟨rfl, h1, hb, hk⟩;refine ⟨rfl, .inr ?_, h.2.1.trans hb, h.2.2.trans hk⟩;rw [Lib.strCells_eq, <- Lib.byteCells_append] at h1;exact h1
theorem z46 : (⟨#[46]⟩ : ByteArray).size = 1 := rfl
theorem z58 : (⟨#[58, 32]⟩ : ByteArray).size = 2 := rfl
theorem z44 : (⟨#[44, 32]⟩ : ByteArray).size = 2 := rfl
theorem len_app (l : List UInt8) (s : ByteArray) : (l ++ s.data.toList).length = l.length + s.size := by rw [List.length_append, len_size]
def WriteOk (s : Ty) : Prop := ∀ (B b : Nat) (v : Value) (W w0 w : World) (l : List UInt8), TyV W v s -> Below W.heap.size W w0 -> W.heap.size <= B -> Pow W -> Wr B b w0 l w -> l.length + (textT s).length <= 4000000 ->
  Calls Tryz.prog 93 #[.pointer (some ⟨b, 0, none⟩), v] w fun e w' => e = .returned (.tuple #[]) /\ Wr B b w0 (l ++ textT s) w'
theorem row_step (L : List (List UInt8)) (ns : List ByteArray) (k : Nat) : rowOf L ns (k + 1) = (if 0 < k then rowOf L ns k ++ [44, 32] else rowOf L ns k) ++ (if 0 < ns.length then (nameAt ns k).data.toList ++ [58, 32] else []) ++ L.getD k [] := rfl
theorem row_step0 (L : List (List UInt8)) (k : Nat) : rowOf L [] (k + 1) = (if 0 < k then rowOf L [] k ++ [44, 32] else rowOf L [] k) ++ L.getD k [] := by
  have e : (if 0 < ([] : List ByteArray).length then (nameAt [] k).data.toList ++ [58, 32] else []) = ([] : List UInt8) := if_neg (Nat.lt_irrefl 0);rw [row_step, e, List.append_nil]
theorem row_mono (L : List (List UInt8)) (ns : List ByteArray) {k : Nat} : ∀ m, k <= m -> (rowOf L ns k).length <= (rowOf L ns m).length := by
  intro m h;induction m with
  | zero => obtain rfl : k = 0 := by omega
            exact Nat.le_refl _
  | succ m ih =>
    rcases Nat.eq_or_lt_of_le h with e | e
    · rw [e]; exact Nat.le_refl _
    · refine Nat.le_trans (ih (by omega)) ?_
      rw [row_step];split <;> simp only [List.length_append] <;> omega
theorem writeLocal_any (t : Ty) (h8 : ownOk t = true) (hk : t.kind = 8) (B b : Nat) (v : Value) (W w0 w : World) (l : List UInt8) (hv : TyV W v t) (hW : Below W.heap.size W w0) (hWB : W.heap.size <= B) (hw : Wr B b w0 l w) (hl : l.length + (textT t).length <= 4000000) :
    Calls Tryz.prog 136 #[.pointer (some ⟨b, 0, none⟩), v] w fun e w' => e = .returned (.tuple #[]) /\ Wr B b w0 (l ++ textT t) w' := by
  have hm : t.mod.size <= 20 /\ t.name.size <= 20 := by
    unfold ownOk at h8
    simp only [Bool.and_eq_true] at h8;have h := h8.2;unfold shapeOk at h
    rw [hk] at h;simp [emptyB] at h
    have hz8 : t.mod.size <= 20 := by
      rcases h.2 with h | h
      · exact small_len h
      · rw [h]; exact Nat.zero_le _
    exact ⟨hz8, great_len h.1.2⟩
  obtain ⟨z1, z2⟩ := hm;have HV := hZ hv;obtain ⟨lv, rfl, hT⟩ := hv;obtain ⟨An, cn, As, cs, rfl, zp, zm, za, hzn, hz, hNA, hS⟩ := hT.parts;have HCAP := hZ hT.cap;have HS := hZ hS;have HNA := hZ hNA;have HLT := hZ (textsT_len t.subs);have hbw := hw.lt;obtain ⟨wb, hwb⟩ : ∃ wb, wb = w.alloc (.cells #[.int .i64 t.kind, .string t.pkg, .int .i64 t.major, .string t.mod, .string t.name, .slice An t.names.length cn, .slice As t.subs.length cs] 55) := ⟨_, rfl⟩;have HA : Hid (Wr B b w0 l wb) := hZ (by rw [hwb]; exact hw.alloc _);have H0 := hZ HA.out.base;have HK : Hid (wb.heap[w.heap.size]? = some (.cells #[.int .i64 t.kind, .string t.pkg, .int .i64 t.major, .string t.mod, .string t.name, .slice An t.names.length cn, .slice As t.subs.length cs] 55 (0, 0))) := hZ (by rw [hwb]; exact heap_alloc_new w _);have hne : w.heap.size ≠ b := by omega
  have HWB := hZ hwb;have HWw : Hid (Below W.heap.size W wb) := hZ (hW.trans (HA.out.2.1.mono hWB));clear hT hS hNA hW hwb hw;have n1 : ¬ (t.mod.size + 1 > 9223372036854775807) := by omega
  by_cases hz : t.mod.size = 0
  · obtain ⟨x1, y1⟩ := empty_facts _ hz
    have HT : Hid (textT t = t.name.data.toList) := hZ (by rw [textT_eq, hk]; simp [kindText, hz]);have hl2 : l.length + t.name.size <= 4000000 := by have := HT.out; rw [this, len_size] at hl; exact hl
    clear hz hk;go_enter Tryz.func136, Tryz.ntmps136
    go_wp2_with fail
    rw [<- HWB.out];refine (wr_str H0.out t.name hl2).mono ?_; rintro e w1 ⟨rfl, g1⟩
    go_wp2_with fail
    go_end0
    exact ⟨rfl, (HA.out.over g1).eq (by rw [HT.out])⟩
  · obtain ⟨x1, y1⟩ := full_facts _ hz
    have HT : Hid (textT t = t.mod.data.toList ++ [46] ++ t.name.data.toList) := hZ (by rw [textT_eq, hk]; simp [kindText, hz])
    have hl2 : l.length + t.mod.size + 1 + t.name.size <= 4000000 := by
      have := HT.out; rw [this] at hl; simp only [List.length_append, List.length_cons, List.length_nil, len_size] at hl; omega
    clear hz hk;go_enter Tryz.func136, Tryz.ntmps136
    go_wp2_with fail
    rw [<- HWB.out];refine (wr_str H0.out _ ?_).mono ?_
    · rw [ByteArray.size_append, z46]; omega
    rintro e w1 ⟨rfl, g1⟩;have c4 := g1.cell HK.out hne 4;simp at c4
    have g1l : (l ++ (t.mod ++ (⟨#[46]⟩ : ByteArray)).data.toList).length + t.name.size <= 4000000 := by
      rw [List.length_append, len_size, ByteArray.size_append, z46]; omega
    go_wp2_with fail
    refine (wr_str g1 _ ?_).mono ?_
    · exact g1l
    rintro e w2 ⟨rfl, g2⟩;go_wp2_with fail
    go_end0
    exact ⟨rfl, (HA.out.over g2).eq (by rw [HT.out]; simp)⟩
theorem writeNamed_any (t : Ty) (IH : ∀ s, s ∈ t.subs -> WriteOk s) (hln : t.names.length = t.subs.length) (hbn : ∀ i, i < t.names.length -> (nameAt t.names i).size <= 20) (B b : Nat) (v : Value) (W w0 w : World) (l : List UInt8) (hv : TyV W v t) (hW : Below W.heap.size W w0) (hWB : W.heap.size <= B) (hP : Pow W) (hw : Wr B b w0 l w) (hl : l.length + (rowOf (textsT t.subs) t.names t.subs.length).length <= 4000000) :
  Calls Tryz.prog 134 #[.pointer (some ⟨b, 0, none⟩), v] w fun e w' => e = .returned (.tuple #[]) /\ Wr B b w0 (l ++ rowOf (textsT t.subs) t.names t.subs.length) w' := by
 have HIH := hZ IH
 have HBN := hZ hbn
 have HL := hZ hln
 have HP := hZ hP
 have HROW := hZ hl
 clear IH hbn hP hl hln
 have HV := hZ hv
 obtain ⟨lv, rfl, hT⟩ := hv
 obtain ⟨An, cn, As, cs, rfl, zp, zm, za, hzn, hz, hNA, hS⟩ := hT.parts
 have HCAP := hZ hT.cap
 have HS := hZ hS
 have HNA := hZ hNA
 have HLT := hZ (textsT_len t.subs)
 have hbw := hw.lt
 obtain ⟨wb, hwb⟩ : ∃ wb, wb = w.alloc (.cells #[.int .i64 t.kind, .string t.pkg, .int .i64 t.major, .string t.mod, .string t.name, .slice An t.names.length cn, .slice As t.subs.length cs] 55) := ⟨_, rfl⟩
 have HA : Hid (Wr B b w0 l wb) := hZ (by rw [hwb]; exact hw.alloc _)
 have H0 := hZ HA.out.base
 have HK : Hid (wb.heap[w.heap.size]? = some (.cells #[.int .i64 t.kind, .string t.pkg, .int .i64 t.major, .string t.mod, .string t.name, .slice An t.names.length cn, .slice As t.subs.length cs] 55 (0, 0))) := hZ (by rw [hwb]; exact heap_alloc_new w _)
 have hne : w.heap.size ≠ b := by omega
 have HWB := hZ hwb
 have HWw : Hid (Below W.heap.size W wb) := hZ (hW.trans (HA.out.2.1.mono hWB))
 clear hT hS hNA hW hwb hw
 generalize hn : t.subs.length = n at hz HV HWB HK
 have HN := hZ hn
 have HBOX := hZ (show (0 : Nat) = 0 from rfl)
 clear hn HBOX
 go_enter Tryz.func134, Tryz.ntmps134
 go_wp2_with fail
 rw [<- HWB.out]
 go_loopw [9] (fun i wr => ∃ k : Nat, k <= n /\ i = .int .i64 k /\ Hid (Wr B b wb (l ++ rowOf (textsT t.subs) t.names k) wr)) (fun i _ => n - (intOf i).toNat)
 case atStart => exact ⟨0, by omega, rfl, hZ (H0.out.eq (by simp [rowOf]))⟩
 case round =>
  obtain ⟨k, hk, rfl, HR⟩ := hrel;obtain ⟨wo, rfl⟩ : ∃ wo : World, wo = wr := ⟨_, rfl⟩;have HWo : Hid (Below W.heap.size W wo) := hZ (HWw.out.trans (HR.out.2.1.mono hWB));by_cases hlt : k < n
  ·obtain ⟨s, hs⟩ : ∃ s, t.subs[k]? = some s := ⟨_, List.getElem?_eq_getElem (by rw [HN.out]; exact hlt)⟩
   obtain ⟨x, hx⟩ : ∃ x, t.names[k]? = some x := ⟨_, List.getElem?_eq_getElem (by rw [HL.out, HN.out]; exact hlt)⟩;obtain ⟨g2, o2, rfl, hg2, f0, -⟩ := HNA.out k x hx;obtain ⟨g, o, v0, v1, v2, v3, v4, v5, v6, eA, hg, e0, e1, e2, e3, e4, e5, e6, hs7⟩ := HS.out k s hs;obtain ⟨Am, cm, At, ct, rfl, rfl, rfl, rfl, rfl, rfl, rfl⟩ := hs7.seven;have HV7 : Hid (TyV W (.agg #[.int .i64 s.kind, .string s.pkg, .int .i64 s.major, .string s.mod, .string s.name, .slice Am s.names.length cm, .slice At s.subs.length ct]) s) := hZ ⟨_, rfl, hs7⟩;subst eA;have tr : ∀ q v, W.cell? ⟨g, q, none⟩ = some v -> wo.cell? ⟨g, q, none⟩ = some v := fun q v hv => (HWo.out.cell (p := ⟨g, _, none⟩) hg).trans hv
   have h0 := tr _ _ e0;have h1 := tr _ _ e1;have h2 := tr _ _ e2;have h3 := tr _ _ e3;have h4 := tr _ _ e4;have h5 := tr _ _ e5;have h6 := tr _ _ e6;clear tr;clear e0 e1 e2 e3 e4 e5 e6 hs7;have hna := nameAt_of' hx;have hxz : x.size <= 20 := by have := HBN.out k (by rw [HL.out, HN.out]; exact hlt); rw [hna] at this; exact this
   have hkn : k < t.names.length := by rw [HL.out, HN.out]; exact hlt
   have hnp : 0 < t.names.length := by rw [HL.out, HN.out]; omega
   have hlen := row_mono (textsT t.subs) t.names (k := k + 1) n (by omega);have hstep := row_step (textsT t.subs) t.names k;rw [if_pos hnp, hna, textsT_at _ _ s hs] at hstep;have hl4 : l.length + (rowOf (textsT t.subs) t.names (k + 1)).length <= 4000000 := by have := HROW.out; rw [HN.out] at this; omega
   have n1 : ¬ (x.size + 2 > 9223372036854775807) := by omega
   have IHs := hZ (HIH.out s (List.mem_of_getElem? hs));obtain ⟨wo2, hwo2⟩ : ∃ wo2, wo2 = wo.alloc (.cells #[.int .i64 s.kind, .string s.pkg, .int .i64 s.major, .string s.mod, .string s.name, .slice Am s.names.length cm, .slice At s.subs.length ct] 55) := ⟨_, rfl⟩;have HR2 : Hid (Wr B b wo (l ++ rowOf (textsT t.subs) t.names k) wo2) := hZ (by rw [hwo2]; exact HR.out.base.alloc _);have HR3 := hZ HR2.out.base;have HK2 : Hid (wo2.heap[wo.heap.size]? = some (.cells #[.int .i64 s.kind, .string s.pkg, .int .i64 s.major, .string s.mod, .string s.name, .slice Am s.names.length cm, .slice At s.subs.length ct] 55 (0, 0))) := hZ (by rw [hwo2]; exact heap_alloc_new wo _);have hne2 : wo.heap.size ≠ b := by have := HR.out.lt; omega
   have HWO2 := hZ hwo2;have HW2 : Hid (Below W.heap.size W wo2) := hZ (HWo.out.trans (HR2.out.2.1.mono hWB));have hG : Hid (wo.heap[w.heap.size]? = some (.cells #[.int .i64 t.kind, .string t.pkg, .int .i64 t.major, .string t.mod, .string t.name, .slice (some ⟨g2, o2, none⟩) t.names.length cn, .slice (some ⟨g, o, none⟩) n cs] 55 (0, 0))) := hZ (HR.out.2.2 _ _ HK.out (by simpa using hne) (fun c fz e => by injection e with _ e _; exact absurd e (by decide)));have hnn : w.heap.size < wo.heap.size := (Array.getElem?_eq_some_iff.1 hG.out).1;have hG2 : Hid (wo2.heap[w.heap.size]? = some (.cells #[.int .i64 t.kind, .string t.pkg, .int .i64 t.major, .string t.mod, .string t.name, .slice (some ⟨g2, o2, none⟩) t.names.length cn, .slice (some ⟨g, o, none⟩) n cs] 55 (0, 0))) := hZ (by rw [hwo2, Lib.alloc_old _ _ _ hnn]; exact hG.out);clear hwo2 hna hlen hnp hs;rcases Nat.eq_zero_or_pos k with hp | hp
   ·have hp2 : ¬ (0 : Int) < k := by omega
    have HST : Hid (rowOf (textsT t.subs) t.names (k + 1) = rowOf (textsT t.subs) t.names k ++ (x.data.toList ++ [58, 32]) ++ textT s) := hZ (by rw [hstep, if_neg (by omega)]);rw [HST.out] at hl4;simp only [List.length_append, List.length_cons, List.length_nil, len_size] at hl4;have c5 := HR.out.cell HK.out hne 5;simp at c5;have f1 : wo.cell? ⟨g2, o2 + k, none⟩ = some (.string x) := (HWo.out.cell (p := ⟨g2, _, none⟩) hg2).trans f0;have hg2l : g2 < wo.heap.size := Nat.lt_of_lt_of_le hg2 HWo.out.size;clear hstep hp;go_wp2_with fail
    rw [<- HWO2.out];clear h0 h1 h2 h3 h4 h5 h6;refine (wr_str HR3.out _ ?_).mono ?_
    ·rw [List.length_append, ByteArray.size_append, z58]; omega
    rintro e w3 ⟨rfl, g3⟩;have d0 := g3.cell HK2.out hne2 0;have d1 := g3.cell HK2.out hne2 1;have d2 := g3.cell HK2.out hne2 2;have d3 := g3.cell HK2.out hne2 3;have d4 := g3.cell HK2.out hne2 4;have d5 := g3.cell HK2.out hne2 5;have d6 := g3.cell HK2.out hne2 6;simp at d0 d1 d2 d3 d4 d5 d6;clear c5 f1;go_wp2_with fail
    refine (IHs.out B b _ W wo2 w3 _ HV7.out HW2.out hWB HP.out g3 ?_).mono ?_
    ·rw [len_app, List.length_append, ByteArray.size_append, z58]; omega
    rintro e w4 ⟨rfl, g4⟩;have HR4 : Hid (Wr B b wb (l ++ rowOf (textsT t.subs) t.names (k + 1)) w4) := hZ (((HR.out.over HR2.out).over g4).eq (by rw [HST.out]; simp));clear d0 d1 d2 d3 d4 d5 d6 g3 g4;go_wp2_with fail
    go_roundw
    case rel => exact ⟨k + 1, by omega, by go_num, HR4⟩
    case measure => simp [intOf]; omega
   ·have hp2 : (0 : Int) < k := by omega
    have HST : Hid (rowOf (textsT t.subs) t.names (k + 1) = rowOf (textsT t.subs) t.names k ++ [44, 32] ++ (x.data.toList ++ [58, 32]) ++ textT s) := hZ (by rw [hstep, if_pos hp]);rw [HST.out] at hl4;simp only [List.length_append, List.length_cons, List.length_nil, len_size] at hl4;clear hstep hp;go_wp2_with fail
    rw [<- HWO2.out];clear h0 h1 h2 h3 h4 h5 h6;refine (wr_str HR3.out ⟨#[44, 32]⟩ ?_).mono ?_
    ·rw [List.length_append, z44]; omega
    rintro e w2 ⟨rfl, g2w⟩;have c5 := g2w.cell hG2.out hne 5;simp at c5;have f1 : w2.cell? ⟨g2, o2 + k, none⟩ = some (.string x) := ((HW2.out.trans (g2w.2.1.mono hWB)).cell (p := ⟨g2, _, none⟩) hg2).trans f0;go_wp2_with fail
    refine (wr_str g2w _ ?_).mono ?_
    ·simp only [List.length_append, List.length_cons, List.length_nil, ByteArray.size_append, z58]; omega
    rintro e w3 ⟨rfl, g3⟩;have d0 := g3.cell HK2.out hne2 0;have d1 := g3.cell HK2.out hne2 1;have d2 := g3.cell HK2.out hne2 2;have d3 := g3.cell HK2.out hne2 3;have d4 := g3.cell HK2.out hne2 4;have d5 := g3.cell HK2.out hne2 5;have d6 := g3.cell HK2.out hne2 6;simp at d0 d1 d2 d3 d4 d5 d6;clear c5 f1 g2w;go_wp2_with fail
    refine (IHs.out B b _ W wo2 w3 _ HV7.out HW2.out hWB HP.out g3 ?_).mono ?_
    ·simp only [List.length_append, len_size, List.length_cons, List.length_nil, ByteArray.size_append, z58]; omega
    rintro e w4 ⟨rfl, g4⟩;have HR4 : Hid (Wr B b wb (l ++ rowOf (textsT t.subs) t.names (k + 1)) w4) := hZ (((HR.out.over HR2.out).over g4).eq (by rw [HST.out]; simp));clear d0 d1 d2 d3 d4 d5 d6 g3 g4;go_wp2_with fail
    go_roundw
    case rel => exact ⟨k + 1, by omega, by go_num, HR4⟩
    case measure => simp [intOf]; omega
  ·obtain rfl : k = n := by omega
   go_wp2_with fail
   go_end0
   exact ⟨rfl, HA.out.over HR.out⟩
theorem writeFunc_any (ss : List Ty) (m : Nat) (hss : ss.length = m + 1) (q : Ty) (hq : ss[m]? = some q) (IH : ∀ s, s ∈ ss -> WriteOk s) (As : Option Addr) (cs B b : Nat) (hcap : m + 1 <= cs) (hz : m + 1 <= 9223372036854775807) (W w0 w : World) (l : List UInt8) (hS : SubsAt W As ss) (hW : Below W.heap.size W w0) (hWB : W.heap.size <= B) (hP : Pow W) (hw : Wr B b w0 l w) (hl : l.length + (rowOf (textsT ss) [] m).length + 6 + (textT q).length <= 4000000) :
    Calls Tryz.prog 135 #[.pointer (some ⟨b, 0, none⟩), .slice As (m + 1) cs] w fun e w' => e = .returned (.tuple #[]) /\ Wr B b w0 (l ++ ([40] ++ rowOf (textsT ss) [] m ++ [41, 32, 45, 62, 32] ++ textT q)) w' := by
  have HIH := hZ IH;have HP := hZ hP;have HL := hZ hss;have HS := hZ hS;have HQ := hZ hq;have HA := hZ hw;have H0 := hZ hw.base;have HWw : Hid (Below W.heap.size W w) := hZ (hW.trans (hw.2.1.mono hWB));obtain ⟨g, o, -, -, -, -, -, -, -, rfl, -⟩ := hS m q hq;clear IH hP hss hS hq hW hw;go_enter Tryz.func135, Tryz.ntmps135
  go_wp2_with fail
  refine (wr_str H0.out ⟨#[40]⟩ ?_).mono ?_
  · show l.length + 1 <= 4000000; omega
  rintro e w1 ⟨rfl, g1⟩;have G1 : Hid (Wr B b w (l ++ [40]) w1) := hZ g1;clear g1;go_wp2_with fail
  go_loopw [16] (fun i wr => ∃ k : Nat, k <= m /\ i = .int .i64 k /\ Hid (Wr B b w (l ++ [40] ++ rowOf (textsT ss) [] k) wr)) (fun i _ => m - (intOf i).toNat)
  case atStart => exact ⟨0, by omega, rfl, hZ (G1.out.eq (by simp [rowOf]))⟩
  case round =>
    obtain ⟨k, hk, rfl, HR⟩ := hrel;obtain ⟨wo, rfl⟩ : ∃ wo : World, wo = wr := ⟨_, rfl⟩;have HWo : Hid (Below W.heap.size W wo) := hZ (HWw.out.trans (HR.out.2.1.mono hWB));by_cases hlt : k < m
    · obtain ⟨s, hs⟩ : ∃ s, ss[k]? = some s := ⟨_, List.getElem?_eq_getElem (by rw [HL.out]; omega)⟩
      obtain ⟨g3, o3, v0, v1, v2, v3, v4, v5, v6, eA, hg, e0, e1, e2, e3, e4, e5, e6, hs7⟩ := HS.out k s hs;obtain ⟨rfl, rfl⟩ : g = g3 /\ o = o3 := by simpa using eA
      obtain ⟨Am, cm, At, ct, rfl, rfl, rfl, rfl, rfl, rfl, rfl⟩ := hs7.seven;have HV7 : Hid (TyV W (.agg #[.int .i64 s.kind, .string s.pkg, .int .i64 s.major, .string s.mod, .string s.name, .slice Am s.names.length cm, .slice At s.subs.length ct]) s) := hZ ⟨_, rfl, hs7⟩;have tr : ∀ q v, W.cell? ⟨g, q, none⟩ = some v -> wo.cell? ⟨g, q, none⟩ = some v := fun q v hv => (HWo.out.cell (p := ⟨g, _, none⟩) hg).trans hv
      have h0 := tr _ _ e0;have h1 := tr _ _ e1;have h2 := tr _ _ e2;have h3 := tr _ _ e3;have h4 := tr _ _ e4;have h5 := tr _ _ e5;have h6 := tr _ _ e6;clear tr;clear e0 e1 e2 e3 e4 e5 e6 hs7 eA;have hlen := row_mono (textsT ss) [] (k := k + 1) m (by omega);have hstep := row_step0 (textsT ss) k;rw [textsT_at _ _ s hs] at hstep;have hl4 : l.length + (rowOf (textsT ss) [] (k + 1)).length + 6 <= 4000000 := by omega
      have IHs := hZ (HIH.out s (List.mem_of_getElem? hs));obtain ⟨wo2, hwo2⟩ : ∃ wo2, wo2 = wo.alloc (.cells #[.int .i64 s.kind, .string s.pkg, .int .i64 s.major, .string s.mod, .string s.name, .slice Am s.names.length cm, .slice At s.subs.length ct] 55) := ⟨_, rfl⟩;have HR2 : Hid (Wr B b wo (l ++ [40] ++ rowOf (textsT ss) [] k) wo2) := hZ (by rw [hwo2]; exact HR.out.base.alloc _);have HR3 := hZ HR2.out.base;have HK2 : Hid (wo2.heap[wo.heap.size]? = some (.cells #[.int .i64 s.kind, .string s.pkg, .int .i64 s.major, .string s.mod, .string s.name, .slice Am s.names.length cm, .slice At s.subs.length ct] 55 (0, 0))) := hZ (by rw [hwo2]; exact heap_alloc_new wo _);have hne2 : wo.heap.size ≠ b := by have := HR.out.lt; omega
      have HWO2 := hZ hwo2;have HW2 : Hid (Below W.heap.size W wo2) := hZ (HWo.out.trans (HR2.out.2.1.mono hWB));clear hwo2 hlen hs;rcases Nat.eq_zero_or_pos k with hp | hp
      · have hp2 : ¬ (0 : Int) < k := by omega
        have HST : Hid (rowOf (textsT ss) [] (k + 1) = rowOf (textsT ss) [] k ++ textT s) := hZ (by rw [hstep, if_neg (by omega)]);rw [HST.out] at hl4;simp only [List.length_append] at hl4;clear hstep hp;go_wp2_with fail
        rw [<- HWO2.out];clear h0 h1 h2 h3 h4 h5 h6;refine (IHs.out B b _ W wo2 wo2 _ HV7.out HW2.out hWB HP.out HR3.out ?_).mono ?_
        · simp only [List.length_append, List.length_cons, List.length_nil]; omega
        rintro e w4 ⟨rfl, g4⟩;have HR4 : Hid (Wr B b w (l ++ [40] ++ rowOf (textsT ss) [] (k + 1)) w4) := hZ (((HR.out.over HR2.out).over g4).eq (by rw [HST.out]; simp));clear g4;go_wp2_with fail
        go_roundw
        case rel => exact ⟨k + 1, by omega, by go_num, HR4⟩
        case measure => simp [intOf]; omega
      · have hp2 : (0 : Int) < k := by omega
        have HST : Hid (rowOf (textsT ss) [] (k + 1) = rowOf (textsT ss) [] k ++ [44, 32] ++ textT s) := hZ (by rw [hstep, if_pos hp]);rw [HST.out] at hl4;simp only [List.length_append, List.length_cons, List.length_nil] at hl4;clear hstep hp;go_wp2_with fail
        rw [<- HWO2.out];clear h0 h1 h2 h3 h4 h5 h6;refine (wr_str HR3.out ⟨#[44, 32]⟩ ?_).mono ?_
        · simp only [List.length_append, List.length_cons, List.length_nil, z44]; omega
        rintro e w2 ⟨rfl, g2w⟩;have d0 := g2w.cell HK2.out hne2 0;have d1 := g2w.cell HK2.out hne2 1;have d2 := g2w.cell HK2.out hne2 2;have d3 := g2w.cell HK2.out hne2 3;have d4 := g2w.cell HK2.out hne2 4;have d5 := g2w.cell HK2.out hne2 5;have d6 := g2w.cell HK2.out hne2 6;simp at d0 d1 d2 d3 d4 d5 d6;go_wp2_with fail
        refine (IHs.out B b _ W wo2 w2 _ HV7.out HW2.out hWB HP.out g2w ?_).mono ?_
        · simp only [List.length_append, List.length_cons, List.length_nil]; omega
        rintro e w4 ⟨rfl, g4⟩;have HR4 : Hid (Wr B b w (l ++ [40] ++ rowOf (textsT ss) [] (k + 1)) w4) := hZ (((HR.out.over HR2.out).over g4).eq (by rw [HST.out]; simp));clear d0 d1 d2 d3 d4 d5 d6 g2w g4;go_wp2_with fail
        go_roundw
        case rel => exact ⟨k + 1, by omega, by go_num, HR4⟩
        case measure => simp [intOf]; omega
    · obtain rfl : k = m := by omega
      have IHs := hZ (HIH.out q (List.mem_of_getElem? HQ.out));have hs := HQ.out;obtain ⟨g3, o3, v0, v1, v2, v3, v4, v5, v6, eA, hg, e0, e1, e2, e3, e4, e5, e6, hs7⟩ := HS.out k q hs;obtain ⟨rfl, rfl⟩ : g = g3 /\ o = o3 := by simpa using eA
      obtain ⟨Am, cm, At, ct, rfl, rfl, rfl, rfl, rfl, rfl, rfl⟩ := hs7.seven;have HV7 : Hid (TyV W (.agg #[.int .i64 q.kind, .string q.pkg, .int .i64 q.major, .string q.mod, .string q.name, .slice Am q.names.length cm, .slice At q.subs.length ct]) q) := hZ ⟨_, rfl, hs7⟩;clear hs7 eA hs;go_wp2_with fail
      refine (wr_str HR.out ⟨#[41, 32, 45, 62, 32]⟩ ?_).mono ?_
      · show (l ++ [40] ++ rowOf (textsT ss) [] k).length + 5 <= 4000000
        simp only [List.length_append, List.length_cons, List.length_nil]; omega
      rintro e w2 ⟨rfl, g2w⟩;have HW5 : Hid (Below W.heap.size W w2) := hZ (HWw.out.trans (g2w.2.1.mono hWB));have tr : ∀ q v, W.cell? ⟨g, q, none⟩ = some v -> w2.cell? ⟨g, q, none⟩ = some v := fun q v hv => (HW5.out.cell (p := ⟨g, _, none⟩) hg).trans hv
      have h0 := tr _ _ e0;have h1 := tr _ _ e1;have h2 := tr _ _ e2;have h3 := tr _ _ e3;have h4 := tr _ _ e4;have h5 := tr _ _ e5;have h6 := tr _ _ e6;clear tr;clear e0 e1 e2 e3 e4 e5 e6;go_wp2_with fail
      refine (IHs.out B b _ W w w2 _ HV7.out HWw.out hWB HP.out g2w ?_).mono ?_
      · simp only [List.length_append, List.length_cons, List.length_nil]; omega
      rintro e w4 ⟨rfl, g4⟩;go_wp2_with fail
      go_end0
      exact ⟨rfl, (HA.out.over g4).eq (by simp)⟩
end Go.Proofs.YteecgiebimdbhaaGreatDoor
