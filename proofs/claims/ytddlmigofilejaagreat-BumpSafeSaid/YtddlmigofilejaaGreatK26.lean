/-
  Several texts in one.
-/
import Derived.Test.YtddlmigofilejaaGreatK25
set_option maxRecDepth 100000
set_option maxHeartbeats 16000000
namespace Go.Proofs.YtddlmigofilejaaGreat
open Go.RowKit
open Go.Sort Go.Maps
open M
theorem as_anyU (yp yd ya : ByteArray) (ym : Int) (w : World) : Calls Tryz.prog 32 #[.agg #[.string yp, .int .i64 ym, .string yd, .string ya]] w fun e w' => e = .returned (.string ya) /\ Below w.heap.size w w' := by
 go_enter Tryz.func32, Tryz.ntmps32
 go_wp2_with fail
 go_ret
 exact ⟨rfl, below_new (Below.refl _ _) _⟩
theorem alikeI_anyU (yp yd ya : ByteArray) (ym : Int) (xp xd xa : ByteArray) (xm : Int) (nb xb : Nat) (w : World) (hn : w.cell? ⟨nb, 0, none⟩ = some (.func (.func 32) #[] #[])) (hx : w.heap[xb]? = some (.cells #[.string xp, .int .i64 xm, .string xd, .string xa] 71 (0, 0))) :
  Calls Tryz.prog 58 #[.agg #[.string yp, .int .i64 ym, .string yd, .string ya], .pointer (some ⟨nb, 0, none⟩), .pointer (some ⟨xb, 0, none⟩)] w fun e w' => e = .returned (.bool (decide (ya = xa))) /\ Below w.heap.size w w' := by
 obtain ⟨wb, hwb⟩ : ∃ wb, wb = w.alloc (.cells #[.string yp, .int .i64 ym, .string yd, .string ya] 71) := ⟨_, rfl⟩
 have B0 : Below w.heap.size w wb := by rw [hwb]; exact below_new (Below.refl _ _) _
 have X0 : wb.heap[w.heap.size]? = some (.cells #[.string yp, .int .i64 ym, .string yd, .string ya] 71 (0, 0)) := by rw [hwb]; exact heap_alloc_new w _
 have X1 := (B0.block _ (Array.getElem?_eq_some_iff.1 hx).1).trans hx
 have N1 := (B0.cell (p := ⟨nb, 0, none⟩) (World.block_lt_of_cell? _ _ hn)).trans hn
 have cP : ∀ dd os, Calls Tryz.prog 32 #[.agg #[.string yp, .int .i64 ym, .string yd, .string ya]] (Sort.grow (redrawn wb dd) os) fun e w'' => e = .returned (.string ya) /\ ∃ pp : Regrown, w'' = Sort.grow (redrawn wb pp.d) pp.os := fun dd os => Calls.regrown_of (as_anyU yp yd ya ym _)
 have cQ : ∀ dd os, Calls Tryz.prog 32 #[.agg #[.string xp, .int .i64 xm, .string xd, .string xa]] (Sort.grow (redrawn wb dd) os) fun e w'' => e = .returned (.string xa) /\ ∃ pp : Regrown, w'' = Sort.grow (redrawn wb pp.d) pp.os := fun dd os => Calls.regrown_of (as_anyU xp xd xa xm _)
 have py0 := cell_regrown (cZ X0 0)
 have py1 := cell_regrown (cZ X0 1)
 have py2 := cell_regrown (cZ X0 2)
 have py3 := cell_regrown (cZ X0 3)
 have px0 := cell_regrown (cZ X1 0)
 have px1 := cell_regrown (cZ X1 1)
 have px2 := cell_regrown (cZ X1 2)
 have px3 := cell_regrown (cZ X1 3)
 simp at py0 py1 py2 py3 px0 px1 px2 px3
 have pn := cell_regrown N1
 have HB0 := hZ B0
 have HWB := hZ hwb
 have hq := str_eq ya xa
 clear hn hx hwb B0 X0 X1 N1
 go_enter Tryz.func58, Tryz.ntmps58
 go_upto_region 1 with fail
 rw [<- HWB.out]
 refine wp_region_quiet_below (by kernel_rfl) (by kernel_rfl) ?_
 repeat (any_goals (first | go_big_quiet_step (first | (with_reducible exact cP _ _) | (with_reducible exact cQ _ _)) | quiet_step (first | (with_reducible exact cP _ _) | (with_reducible exact cQ _ _))))
 refine wpQuiet_nil ?_
 intro _ hw'
 obtain ⟨⟨dq, osq⟩, hw''⟩ := hw'
 subst hw''
 have HBQ := hZ (below_over HB0.out (below_regrown wb dq osq))
 go_wp2_with fail
 go_ret
 exact ⟨by first | rfl | exact ret_bool hq, HBQ.out⟩
theorem indexDupI_anyU (A : Option Addr) (c n : Nat) (xs : List Im) (x : Im)  (nb xb : Nat) (w : World) (hlen : xs.length = n) (hz : n <= 9223372036854775807) (hS : RowIn imR w A xs)
  (hn : w.cell? ⟨nb, 0, none⟩ = some (.func (.func 32) #[] #[])) (hx : w.heap[xb]? = some (.cells #[.string x.pkg, .int .i64 x.major, .string x.mod, .string x.asn] 71 (0, 0))) :
  Calls Tryz.prog 87 #[.slice A n c, .func (.func 58) #[] #[.pointer (some ⟨nb, 0, none⟩), .pointer (some ⟨xb, 0, none⟩)]] w fun e w' => ∃ r : Int, e = .returned (.int .i64 r) /\ decide (0 <= r) = xs.any (fun y => decide (y.asn = x.asn)) /\ Below w.heap.size w w' := by
 have HS := hZ hS
 have HN := hZ hlen
 have HFN := hZ hn
 have HX := hZ hx
 clear hS hlen hn hx
 go_enter Tryz.func87, Tryz.ntmps87
 go_wp2_with fail
 go_loopw [8] (fun i wr => ∃ k : Nat, k <= n /\ i = .int .i64 k /\ Hid ((xs.take k).any (fun y => decide (y.asn = x.asn)) = false) /\ Hid (Below w.heap.size w wr)) (fun i _ => n - (intOf i).toNat)
 case atStart => exact ⟨0, by omega, rfl, hZ (by simp), hZ (Below.refl _ _)⟩
 case round =>
  obtain ⟨k, hk, rfl, HP, HB⟩ := hrel;obtain ⟨wo, rfl⟩ : ∃ wo : World, wo = wr := ⟨_, rfl⟩;by_cases hlt : k < n
  ·obtain ⟨y, hy⟩ : ∃ y, xs[k]? = some y := ⟨_, List.getElem?_eq_getElem (by rw [HN.out]; exact hlt)⟩
   obtain ⟨g, o, lv, rfl, hg, hcc, rfl, -⟩ := (HS.out.below HB.out) k y hy;have a0 := hcc 0 _ rfl;have a1 := hcc 1 _ rfl;have a2 := hcc 2 _ rfl;have a3 := hcc 3 _ rfl;have b0 : wo.cell? ⟨g, o + k * 4, none⟩ = some (.string y.pkg) := a0;have b1 : wo.cell? ⟨g, o + k * 4 + 1, none⟩ = some (.int .i64 y.major) := a1;have b2 : wo.cell? ⟨g, o + k * 4 + 2, none⟩ = some (.string y.mod) := a2;have b3 : wo.cell? ⟨g, o + k * 4 + 3, none⟩ = some (.string y.asn) := a3;have IM := hZ (alikeI_anyU y.pkg y.mod y.asn y.major x.pkg x.mod x.asn x.major nb xb wo ((HB.out.cell (p := ⟨nb, 0, none⟩) (World.block_lt_of_cell? _ _ HFN.out)).trans HFN.out) ((HB.out.block _ (Array.getElem?_eq_some_iff.1 HX.out).1).trans HX.out));have HY := hZ hy;clear hy hcc hg a0 a1 a2 a3;obtain ⟨q, hq⟩ : ∃ q, decide (y.asn = x.asn) = q := ⟨_, rfl⟩;rw [hq] at IM;have HQ := hZ hq;clear hq;cases q with
   | true =>
    have R : Hid (decide (0 <= (k : Int)) = xs.any (fun y => decide (y.asn = x.asn))) := hZ (by
     have : xs.any (fun y => decide (y.asn = x.asn)) = true := List.any_eq_true.2 ⟨y, List.mem_of_getElem? HY.out, HQ.out⟩
     rw [this]; simp)
    go_wp2_with fail
    refine IM.out.mono ?_; rintro e w2 ⟨rfl, hb2⟩
    have HB2 := hZ (below_over HB.out hb2);clear b0 b1 b2 b3 hb2;go_wp2_with fail
    go_ret;exact ⟨_, rfl, R.out, HB2.out⟩
   | false =>
    go_wp2_with fail
    refine IM.out.mono ?_; rintro e w2 ⟨rfl, hb2⟩
    have HB2 := hZ (below_over HB.out hb2);clear b0 b1 b2 b3 hb2;go_wp2_with fail
    go_roundw
    case rel => exact ⟨k + 1, by omega, by go_num, hZ (by rw [any_snoc _ _ _ _ HY.out, HP.out, HQ.out]; rfl), HB2⟩
    case measure => simp [intOf]; omega
  ·have R : Hid (decide (0 <= (-1 : Int)) = xs.any (fun y => decide (y.asn = x.asn))) := hZ (by
    have h := HP.out;rw [List.take_of_length_le (by rw [HN.out]; omega)] at h;rw [h]; rfl)
   go_wp2_with fail
   go_ret;exact ⟨_, rfl, R.out, HB.out⟩
theorem containsDupI_anyU (A : Option Addr) (c n : Nat) (xs : List Im) (x : Im)  (nb xb : Nat) (w : World) (hlen : xs.length = n) (hz : n <= 9223372036854775807) (hS : RowIn imR w A xs)
  (hn : w.cell? ⟨nb, 0, none⟩ = some (.func (.func 32) #[] #[])) (hx : w.heap[xb]? = some (.cells #[.string x.pkg, .int .i64 x.major, .string x.mod, .string x.asn] 71 (0, 0))) :
  Calls Tryz.prog 59 #[.slice A n c, .func (.func 58) #[] #[.pointer (some ⟨nb, 0, none⟩), .pointer (some ⟨xb, 0, none⟩)]] w fun e w' => e = .returned (.bool (xs.any (fun y => decide (y.asn = x.asn)))) /\ Below w.heap.size w w' := by
 have HC := hZ (indexDupI_anyU A c n xs x  nb xb w hlen hz hS hn hx)
 clear hlen hS hn hx
 go_enter Tryz.func59, Tryz.ntmps59
 go_wp2_with fail
 refine HC.out.mono ?_; rintro e w2 ⟨r, rfl, hr, hb2⟩
 have HR := hZ hr
 clear hr HC
 go_wp2_with fail
 go_ret
 exact ⟨ret_bool HR.out.symm, hb2⟩
theorem againI_anyU (A : Option Addr) (c n : Nat) (xs : List Im) (w : World) (hlen : xs.length = n) (hz : n <= 1000000) (hc : n <= c) (hS : RowIn imR w A xs) :
  Calls Tryz.prog 31 #[.slice A n c, .func (.func 32) #[] #[]] w fun e w' => e = .returned (.int .i64 (fstN (dupB (·.asn) xs) n)) /\ Below w.heap.size w w' := by
 obtain ⟨wb, hwb⟩ : ∃ wb, wb = w.alloc (.cells #[.func (.func 32) #[] #[]] 72) := ⟨_, rfl⟩
 have B0 : Below w.heap.size w wb := by rw [hwb]; exact below_new (Below.refl _ _) _
 have X0 : wb.heap[w.heap.size]? = some (.cells #[.func (.func 32) #[] #[]] 72 (0, 0)) := by rw [hwb]; exact heap_alloc_new w _
 have hbs : w.heap.size < wb.heap.size := by rw [hwb]; simp
 have HS := hZ (hS.below B0)
 have HN := hZ hlen
 have HX0 := hZ X0
 have HB0 := hZ B0
 have HWB := hZ hwb
 obtain ⟨V, hV⟩ : ∃ V, V = fstN (dupB (·.asn) xs) n := ⟨_, rfl⟩
 have HV := hZ hV
 rw [<- hV]
 clear hS hlen B0 X0 hwb hV
 go_enter Tryz.func31, Tryz.ntmps31
 go_upto_region 1 with fail
 rw [<- HWB.out]
 go_wp2_with fail
 go_loopw [10] (fun i wr => ∃ k : Nat, k <= n /\ i = .int .i64 k /\ Hid (∀ i, i < k -> dupB (·.asn) xs i = false) /\ Hid (Below wb.heap.size wb wr)) (fun i _ => n - (intOf i).toNat)
 case atStart => exact ⟨0, by omega, rfl, hZ (fun i h => by omega), hZ (Below.refl _ _)⟩
 case round =>
  obtain ⟨k, hk, rfl, HQ, HB⟩ := hrel;obtain ⟨wo, rfl⟩ : ∃ wo : World, wo = wr := ⟨_, rfl⟩;by_cases hlt : k < n
  ·obtain ⟨y, hy⟩ : ∃ y, xs[k]? = some y := ⟨_, List.getElem?_eq_getElem (by rw [HN.out]; exact hlt)⟩
   obtain ⟨g, o, lv, rfl, hg, hcc, rfl, -⟩ := (HS.out.below HB.out) k y hy;have a0 := hcc 0 _ rfl;have a1 := hcc 1 _ rfl;have a2 := hcc 2 _ rfl;have a3 := hcc 3 _ rfl;have b0 : wo.cell? ⟨g, o + k * 4, none⟩ = some (.string y.pkg) := a0;have b1 : wo.cell? ⟨g, o + k * 4 + 1, none⟩ = some (.int .i64 y.major) := a1;have b2 : wo.cell? ⟨g, o + k * 4 + 2, none⟩ = some (.string y.mod) := a2;have b3 : wo.cell? ⟨g, o + k * 4 + 3, none⟩ = some (.string y.asn) := a3;obtain ⟨w3, hw3⟩ : ∃ w3, w3 = wo.alloc (.cells #[.string y.pkg, .int .i64 y.major, .string y.mod, .string y.asn] 71) := ⟨_, rfl⟩;have B3 : Below wo.heap.size wo w3 := by rw [hw3]; exact below_new (Below.refl _ _) _
   have X3 : w3.heap[wo.heap.size]? = some (.cells #[.string y.pkg, .int .i64 y.major, .string y.mod, .string y.asn] 71 (0, 0)) := by rw [hw3]; exact heap_alloc_new wo _
   have B03 := below_over HB.out B3
   have hpre : RowIn imR w3 (some ⟨g, o, none⟩) (xs.take k) := fun i x hx => (HS.out.below B03) i x (by
    rw [List.getElem?_take] at hx;split at hx
    ·exact hx
    ·cases hx)
   have CT := hZ (containsDupI_anyU (some ⟨g, o, none⟩) c k (xs.take k) y  w.heap.size wo.heap.size w3 (by rw [List.length_take, HN.out]; omega) (by omega) hpre (cZ ((B03.block _ hbs).trans HX0.out) 0) X3);have HB3 := hZ B03;have HW3 := hZ hw3;have HY := hZ hy;obtain ⟨q, hq⟩ : ∃ q, (xs.take k).any (fun z => decide (z.asn = y.asn)) = q := ⟨_, rfl⟩;rw [hq] at CT;have HD : Hid (dupB (·.asn) xs k = q) := hZ (by rw [dupB_some hy]; exact hq);clear hy hq B3 X3 B03 hpre hw3 hcc hg a0 a1 a2 a3;have hkc : k <= c := by omega
   cases q with
   | true =>
    have RV : V = (k : Int) := by rw [HV.out]; exact fstN_yes hlt HQ.out HD.out
    subst RV;go_upto_region 4 with fail
    rw [<- HW3.out];clear b0 b1 b2 b3;go_wp2_with fail
    refine CT.out.mono ?_; rintro e w4 ⟨rfl, hb4⟩
    have HB4 := hZ (below_over HB0.out (below_over HB3.out hb4));clear hb4;go_wp2_with fail
    go_ret;exact ⟨rfl, HB4.out⟩
   | false =>
    go_upto_region 4 with fail
    rw [<- HW3.out];clear b0 b1 b2 b3;go_wp2_with fail
    refine CT.out.mono ?_; rintro e w4 ⟨rfl, hb4⟩
    have HB4 := hZ (below_over HB3.out hb4);clear hb4;go_wp2_with fail
    go_roundw
    case rel => exact ⟨k + 1, by omega, by go_num, hZ (fun i hi => by
     by_cases e : i = k
     ·rw [e]; exact HD.out
     ·exact HQ.out i (by omega)), HB4⟩
    case measure => simp [intOf]; omega
  ·have RV : V = -1 := by rw [HV.out]; exact fstN_no (fun i hi => HQ.out i (by omega))
   subst RV;have FB := hZ (below_over HB0.out HB.out);go_wp2_with fail
   go_ret;exact ⟨rfl, FB.out⟩
end Go.Proofs.YtddlmigofilejaaGreat
namespace Go.Proofs.YtddlmigofilejaaGreat
open Go.RowKit
open Go.Sort
open M
def lnNm (k : Int) (s : ByteArray) : Bool := if k = 1 then smallB s.data.toList else if k = 2 then greatB s.data.toList else false
theorem mayLn_eq (l : Ln) : mayLn l = (lnNm l.kind l.name && (smallB l.mod.data.toList && mayT l.typ)) := by
  unfold mayLn lnNm
  by_cases h1 : l.kind = 1
  · rw [h1]
    cases smallB l.mod.data.toList <;> cases mayT l.typ <;> cases smallB l.name.data.toList <;> rfl
  · by_cases h2 : l.kind = 2
    · rw [h2]
      cases smallB l.mod.data.toList <;> cases mayT l.typ <;> cases greatB l.name.data.toList <;> rfl
    · rw [if_neg h1, if_neg h2, show (l.kind == 1) = false by simpa using h1, show (l.kind == 2) = false by simpa using h2]
      simp
theorem mayName_any (k : Int) (m s : ByteArray) (t : Ty) (An As : Option Addr) (cA cS : Nat) (w : World) (z : s.size <= 9223372036854775807) :
    Calls Tryz.prog 85 #[.agg #[.int .i64 k, .string m, .string s, .int .i64 t.kind, .string t.pkg, .int .i64 t.major, .string t.mod, .string t.name, .slice An t.names.length cA, .slice As t.subs.length cS]] w fun e w' => e = .returned (.bool (lnNm k s)) /\ Below w.heap.size w w' := by
  obtain ⟨w0, hw0⟩ : ∃ w0, w0 = w.alloc (.cells #[.int .i64 k, .string m, .string s, .int .i64 t.kind, .string t.pkg, .int .i64 t.major, .string t.mod, .string t.name, .slice An t.names.length cA, .slice As t.subs.length cS] 68) := ⟨_, rfl⟩;have B0 : Below w.heap.size w w0 := by rw [hw0]; exact below_new (Below.refl _ _) _
  have O0 : w0.heap[w.heap.size]? = some (.cells #[.int .i64 k, .string m, .string s, .int .i64 t.kind, .string t.pkg, .int .i64 t.major, .string t.mod, .string t.name, .slice An t.names.length cA, .slice As t.subs.length cS] 68 (0, 0)) := by rw [hw0]; exact heap_alloc_new w _
  have S0 := hZ (fun w => csmall_b s w z);have S1 := hZ (fun w => cgreat_b s w z);have y0 := cZ O0 0;have y2 := cZ O0 2;simp at y0 y2;have HB := hZ B0;have HW0 := hZ hw0;clear hw0 B0 O0 z;unfold lnNm
  by_cases h1 : k = 1
  · subst h1
    rw [if_pos rfl];go_enter Tryz.func85, Tryz.ntmps85
    go_upto_region 1 with fail
    rw [<- HW0.out];clear HW0;go_wp2_with fail
    refine (S0.out _).mono ?_; rintro e w1 ⟨rfl, hb1⟩
    have FIN := hZ (below_over HB.out hb1);clear hb1 y0 y2 S0 S1;go_wp2_with fail
    go_ret;exact ⟨rfl, FIN.out⟩
  have e1 : (k == 1) = false := by simpa using h1
  by_cases h2 : k = 2
  · subst h2
    rw [if_neg h1, if_pos rfl];clear h1 e1;go_enter Tryz.func85, Tryz.ntmps85
    go_upto_region 1 with fail
    rw [<- HW0.out];clear HW0;go_wp2_with fail
    refine (S1.out _).mono ?_; rintro e w1 ⟨rfl, hb1⟩
    have FIN := hZ (below_over HB.out hb1);clear hb1 y0 y2 S0 S1;go_wp2_with fail
    go_ret;exact ⟨rfl, FIN.out⟩
  have e2 : (k == 2) = false := by simpa using h2
  rw [if_neg h1, if_neg h2];clear h1 h2;go_enter Tryz.func85, Tryz.ntmps85
  go_upto_region 1 with fail
  rw [<- HW0.out];clear HW0;go_wp2_with fail
  go_ret;exact ⟨rfl, HB.out⟩
theorem cmayNotL_any (k : Int) (m s : ByteArray) (t : Ty) (An As : Option Addr) (cA cS : Nat) (w : World) (hT : TyAt w [.int .i64 t.kind, .string t.pkg, .int .i64 t.major, .string t.mod, .string t.name, .slice An t.names.length cA, .slice As t.subs.length cS] t) (zm : m.size <= 9223372036854775807) (z : s.size <= 9223372036854775807) :
    Calls Tryz.prog 57 #[.agg #[.int .i64 k, .string m, .string s, .int .i64 t.kind, .string t.pkg, .int .i64 t.major, .string t.mod, .string t.name, .slice An t.names.length cA, .slice As t.subs.length cS]] w fun e w' => e = .returned (.bool (!mayLn ⟨k, m, s, t⟩)) /\ Below w.heap.size w w' := by
  obtain ⟨w0, hw0⟩ : ∃ w0, w0 = w.alloc (.cells #[.int .i64 k, .string m, .string s, .int .i64 t.kind, .string t.pkg, .int .i64 t.major, .string t.mod, .string t.name, .slice An t.names.length cA, .slice As t.subs.length cS] 68) := ⟨_, rfl⟩;have B0 : Below w.heap.size w w0 := by rw [hw0]; exact below_new (Below.refl _ _) _
  have O0 : w0.heap[w.heap.size]? = some (.cells #[.int .i64 k, .string m, .string s, .int .i64 t.kind, .string t.pkg, .int .i64 t.major, .string t.mod, .string t.name, .slice An t.names.length cA, .slice As t.subs.length cS] 68 (0, 0)) := by rw [hw0]; exact heap_alloc_new w _
  have hl0 : w.heap.size < w0.heap.size := by rw [hw0]; simp
  have S0 := hZ (fun w => mayName_any k m s t An As cA cS w z);have S1 := hZ (fun w => csmall_b m w zm);have MY : Hid (∀ w', Below w.heap.size w w' -> Calls Tryz.prog 45 #[.agg #[.int .i64 t.kind, .string t.pkg, .int .i64 t.major, .string t.mod, .string t.name, .slice An t.names.length cA, .slice As t.subs.length cS]] w' fun e w'' => e = .returned (.bool (mayT t)) /\ Below w'.heap.size w' w'') := hZ (fun w' hb => mayK_any t _ w' ⟨_, rfl, hT.keep hb⟩);rw [mayLn_eq];generalize lnNm k s = b0 at S0
  generalize smallB m.data.toList = b1 at S1
  generalize mayT t = b2 at MY
  obtain ⟨y0, y1, y2, y3, y4, y5, y6, y7, y8⟩ := cq9 O0;have y9 := cZ O0 9;simp at y0 y1 y2 y3 y4 y5 y6 y7 y8 y9;have HO := hZ O0;have HB := hZ B0;have HW0 := hZ hw0;clear hw0 B0 O0 z zm hT;go_enter Tryz.func57, Tryz.ntmps57
  go_upto_region 1 with fail
  rw [<- HW0.out];clear HW0;go_wp2_with fail
  refine (S0.out _).mono ?_; rintro e w1 ⟨rfl, hb1⟩
  have O1 := (hb1.block _ hl0).trans HO.out;have HB1 := hZ (below_over HB.out hb1);have hl1 := Nat.lt_of_lt_of_le hl0 hb1.size;have HO1 := hZ O1;clear y0 y1 y2 y3 y4 y5 y6 y7 y8 y9;have y1 := cZ O1 1;simp at y1;clear O1 hb1 HO HB S0 hl0;cases b0 with
  | false => go_wp2_with fail; go_ret; exact ⟨rfl, HB1.out⟩
  | true =>
  go_wp2_with fail
  refine (S1.out _).mono ?_; rintro e w2 ⟨rfl, hb2⟩
  have O2 := (hb2.block _ hl1).trans HO1.out;have HB2 := hZ (below_over HB1.out hb2);clear y1 hb2 HO1 HB1 S1 hl1;cases b1 with
  | false => go_wp2_with fail; go_ret; exact ⟨rfl, HB2.out⟩
  | true =>
  obtain ⟨y0, y1, y2, y3, y4, y5, y6, y7, y8⟩ := cq9 O2;have y9 := cZ O2 9;simp at y0 y1 y2 y3 y4 y5 y6 y7 y8 y9;clear O2;go_wp2_with fail
  refine (MY.out _ HB2.out).mono ?_; rintro e w3 ⟨rfl, hb3⟩
  have FIN := hZ (below_over HB2.out hb3);clear y0 y1 y2 y3 y4 y5 y6 y7 y8 y9 hb3 MY;go_wp2_with fail
  go_ret;exact ⟨by cases b2 <;> rfl, FIN.out⟩
theorem indexL11_any (A : Option Addr) (c n : Nat) (xs : List Ln) (w : World) (hn : xs.length = n) (hz : n <= 9223372036854775807) (hS : RowIn lnR w A xs) :
    Calls Tryz.prog 84 #[.slice A n c, .func (.func 57) #[] #[]] w fun e w' => ∃ r : Int, e = .returned (.int .i64 r) /\ decide (0 <= r) = !xs.all mayLn /\ Below w.heap.size w w' := by
  have HS := hZ hS;have HN := hZ hn;clear hS hn;go_enter Tryz.func84, Tryz.ntmps84
  go_wp2_with fail
  go_loopw [8] (fun i wr => ∃ k : Nat, k <= n /\ i = .int .i64 k /\ Hid ((xs.take k).all mayLn = true) /\ Below w.heap.size w wr) (fun i _ => n - (intOf i).toNat)
  case atStart => exact ⟨0, by omega, rfl, hZ (by simp), Below.refl _ _⟩
  case round =>
    obtain ⟨k, hk, rfl, HP, hb⟩ := hrel;obtain ⟨wo, rfl⟩ : ∃ wo : World, wo = wr := ⟨_, rfl⟩;by_cases hlt : k < n
    · obtain ⟨x, hx⟩ : ∃ x, xs[k]? = some x := ⟨_, List.getElem?_eq_getElem (by rw [HN.out]; exact hlt)⟩
      obtain ⟨g, o, v0, v1, v2, v3, v4, v5, v6, rfl, -, a0, am, a1, u0, u1, u2, u3, u4, u5, u6, us, zm, zs⟩ := (HS.out.below hb).ln hx;obtain ⟨An, cA, As, cS, ev, -⟩ := us.parts;simp only [List.cons.injEq, and_true] at ev;obtain ⟨rfl, rfl, rfl, rfl, rfl, rfl, rfl⟩ := ev;have IM := hZ (cmayNotL_any x.kind x.mod x.name x.typ An As cA cS wo us zm zs);have HX := hZ hx;clear hx us zm zs;obtain ⟨q, hq⟩ : ∃ q, mayLn ⟨x.kind, x.mod, x.name, x.typ⟩ = q := ⟨_, rfl⟩;rw [hq] at IM;have HQ := hZ hq;clear hq;cases q with
      | false =>
        have R : Hid (decide (0 <= (k : Int)) = !xs.all mayLn) := hZ (by
          have : xs.all mayLn = false := by rw [List.all_eq_false]; exact ⟨x, List.mem_of_getElem? HX.out, by rw [show mayLn x = false from HQ.out]; decide⟩
          rw [this]; simp)
        go_wp2_with fail
        refine IM.out.mono ?_; rintro e w2 ⟨rfl, hb2⟩
        have hb3 := below_over hb hb2;clear a0 am a1 u0 u1 u2 u3 u4 u5 u6 hb hb2;go_wp2_with fail
        go_ret;exact ⟨_, rfl, R.out, hb3⟩
      | true =>
        go_wp2_with fail
        refine IM.out.mono ?_; rintro e w2 ⟨rfl, hb2⟩
        have hb3 := below_over hb hb2;clear a0 am a1 u0 u1 u2 u3 u4 u5 u6 hb hb2;go_wp2_with fail
        go_roundw
        case rel => exact ⟨k + 1, by omega, by go_num, hZ (by rw [all_snoc _ _ _ _ HX.out, HP.out, show mayLn x = true from HQ.out]; rfl), hb3⟩
        case measure => simp [intOf]; omega
    · have R : Hid (decide (0 <= (-1 : Int)) = !xs.all mayLn) := hZ (by
        have h := HP.out;rw [List.take_of_length_le (by rw [HN.out]; omega)] at h;rw [h]; rfl)
      go_wp2_with fail
      go_ret;exact ⟨_, rfl, R.out, hb⟩
theorem containsL11_any (A : Option Addr) (c n : Nat) (xs : List Ln) (w : World) (hn : xs.length = n) (hz : n <= 9223372036854775807) (hS : RowIn lnR w A xs) :
    Calls Tryz.prog 56 #[.slice A n c, .func (.func 57) #[] #[]] w fun e w' => e = .returned (.bool (!xs.all mayLn)) /\ Below w.heap.size w w' := by
  have HC := hZ (indexL11_any A c n xs w hn hz hS);clear hn hS;go_enter Tryz.func56, Tryz.ntmps56
  go_wp2_with fail
  refine HC.out.mono ?_; rintro e w2 ⟨r, rfl, hr, hb2⟩
  have HR := hZ hr;clear hr HC;go_wp2_with fail
  go_ret;exact ⟨ret_bool HR.out.symm, hb2⟩
theorem cmay11_any (u : Us) (l : List Value) (w : World) (h : UsAt w l u) : Calls Tryz.prog 30 #[.agg l.toArray] w fun e w' => e = .returned (.bool (mayU u)) /\ Below w.heap.size w w' := by
  obtain ⟨Ai, ci, Ad, cd, rfl, z2, z3, hI, hD⟩ := h;obtain ⟨w0, hw0⟩ : ∃ w0, w0 = w.alloc (.cells #[.slice Ai u.imps.length ci, .slice Ad u.lines.length cd] 40) := ⟨_, rfl⟩;have B0 : Below w.heap.size w w0 := by rw [hw0]; exact below_new (Below.refl _ _) _
  have O0 : w0.heap[w.heap.size]? = some (.cells #[.slice Ai u.imps.length ci, .slice Ad u.lines.length cd] 40 (0, 0)) := by rw [hw0]; exact heap_alloc_new w _
  have hl0 : w.heap.size < w0.heap.size := by rw [hw0]; simp
  have SI : Hid (∀ w', Below w.heap.size w w' -> Calls Tryz.prog 55 #[.slice Ai u.imps.length ci] w' fun e w'' => e = .returned (.bool (decide (u.imps.length <= 20) && u.imps.all mayI)) /\ Below w'.heap.size w' w'') := hZ (fun w' hb => cmayI_any Ai ci _ u.imps w' rfl z2 (hI.below hb));have SD : Hid (∀ w', Below w.heap.size w w' -> Calls Tryz.prog 56 #[.slice Ad u.lines.length cd, .func (.func 57) #[] #[]] w' fun e w'' => e = .returned (.bool (!u.lines.all mayLn)) /\ Below w'.heap.size w' w'') := hZ (fun w' hb => containsL11_any Ad cd _ u.lines w' rfl z3 (hD.below hb));obtain ⟨V, hV⟩ : ∃ V, mayU u = V := ⟨_, rfl⟩;rw [hV];have HV : Hid ((decide (u.imps.length <= 20) && (decide (u.lines.length <= 60) && (u.imps.all mayI && u.lines.all mayLn))) = V) := hZ hV;generalize u.imps.length = ni at *
  generalize u.lines.length = nd at *
  generalize u.imps.all mayI = b1 at SI HV
  generalize u.lines.all mayLn = b2 at SD HV
  have HV0 : Hid (((decide (ni <= 20) && b1) && (decide (nd <= 60) && b2)) = V) := hZ (by
    rw [<- HV.out];cases b1 <;> cases b2 <;> cases decide (ni <= 20) <;> cases decide (nd <= 60) <;> rfl)
  generalize (decide (ni <= 20) && b1) = q at SI HV0
  have x0 := cZ O0 0;simp at x0;have HO := hZ O0;have HB := hZ B0;have HW0 := hZ hw0;clear hV hI hD hw0 B0 O0 z2 HV;go_enter Tryz.func30, Tryz.ntmps30
  go_upto_region 1 with fail
  rw [<- HW0.out];clear HW0;go_wp2_with fail
  refine (SI.out _ HB.out).mono ?_; rintro e w2 ⟨rfl, hb2⟩
  have O2 := (hb2.block _ hl0).trans HO.out;have x2 := cZ O2 1;simp at x2;have HB2 := hZ (below_over HB.out hb2);clear x0 hb2 HB O2 SI;cases q with
  | false => go_wp2_with fail; go_ret; exact ⟨by rw [<- HV0.out]; rfl, HB2.out⟩
  | true =>
  by_cases hd : nd <= 60
  rotate_left
  · have e1 : ¬ (nd : Int) <= 60 := by omega
    go_wp2_with fail
    go_ret;exact ⟨by rw [<- HV0.out, decide_eq_false hd]; simp <;> omega, HB2.out⟩
  have e1 : (nd : Int) <= 60 := by omega
  go_wp2_with fail
  refine (SD.out _ HB2.out).mono ?_; rintro e w3 ⟨rfl, hb3⟩
  have HB3 := hZ (below_over HB2.out hb3);have HV3 : Hid (b2 = V) := hZ (by rw [<- HV0.out, decide_eq_true hd]; simp);clear x2 hb3 HB2 SD HV0;go_wp2_with fail
  go_ret;exact ⟨by rw [<- HV3.out]; cases b2 <;> simp, HB3.out⟩
end Go.Proofs.YtddlmigofilejaaGreat
namespace Go.Proofs.YtddlmigofilejaaGreat
open Go Go.RowKit Go.Shelf
open Go.Sort Go.Maps
open M
theorem fst_cases (p : Nat -> Bool) : ∀ n, (∀ i, i < n -> p i = false) \/ ∃ k, k < n /\ p k = true /\ ∀ i, i < k -> p i = false
 | 0 => .inl fun i h => by omega
 | n + 1 => by
  rcases fst_cases p n with h | ⟨k, h1, h2, h3⟩
  ·cases e : p n with
   | false =>
    refine .inl fun i hi => ?_
    by_cases hn : i = n
    ·rw [hn]; exact e
    ·exact h i (by omega)
   | true => exact .inr ⟨n, by omega, e, h⟩
  ·exact .inr ⟨k, by omega, h2, h3⟩
def EvU (c j : Int) (v : Value) (w : World) : Prop :=
 (c = 0 /\ v = .nilIface) \/ (c ≠ 0 /\ j = -1 /\ v = .iface 33 (.int .i64 c)) \/ (∃ g i b : Nat, c ≠ 0 /\ j = i /\ c = b /\ v = .iface 73 (.pointer (some ⟨g, 0, none⟩)) /\ SpC g i b w)
theorem ep_nat11 {m : Mo} {pkg : ByteArray} {major : Int} {env : List If} {t u : Ty} {c : Int} (h : EpIs m pkg major env t c u) : ∃ b : Nat, c = b := by
 rcases (ep_code h).1 with rfl | rfl | rfl | rfl | rfl
 ·exact ⟨0, rfl⟩
 ·exact ⟨1, rfl⟩
 ·exact ⟨3, rfl⟩
 ·exact ⟨4, rfl⟩
 ·exact ⟨9, rfl⟩
theorem ln_nat {u : Us} {env : List If} {d : Ln} {c : Int} (h : LnIs u env d c) : ∃ b : Nat, c = b := by
 rcases h with ⟨-, rfl⟩ | ⟨e, t, h, rfl⟩
 ·exact ⟨4, rfl⟩
 obtain ⟨b, rfl⟩ := ep_nat11 h
 unfold lineC
 repeat' split
 all_goals first
  | exact ⟨4, rfl⟩
  | exact ⟨9, rfl⟩
  | exact ⟨12, rfl⟩
  | exact ⟨0, rfl⟩
  | exact ⟨b, rfl⟩
def CkU (u : Us) (env : List If) (w : World) (e : Ending) (w' : World) : Prop := ∃ (c a : Int) (v : Value), UkIs u env c a /\ e = .returned v /\ EvU c a v w' /\ Below w.heap.size w w'
theorem sp_new {w : World} {i : Int} {b : Nat} : SpC w.heap.size i b (w.alloc (.cells #[.int .i64 i, .iface 33 (.int .i64 b)] 75)) := SpAt.cells (show SpAt w.heap.size i b _ from heap_alloc_new w _)
theorem mayU_kind {u : Us} (h : mayU u = true) {i : Nat} {d : Ln} (hd : u.lines[i]? = some d) : d.kind = 1 \/ d.kind = 2 := by
 obtain ⟨-, -, -, h4⟩ := mayU_parts h
 obtain ⟨-, -, h⟩ := mayLn_sorts (h4 d (List.mem_of_getElem? hd))
 exact h.imp (·.1) (·.1)
theorem ccheck11_any (u : Us) (env : List If) (l : List Value) (Ae : Option Addr) (ce : Nat) (w : World) (hU : UsAt w l u) (hC : CapU l u) (hE : RowIn ifR w Ae env) (hel : env.length <= 9223372036854775807) :
  Calls Tryz.prog 16 #[.agg l.toArray, .slice Ae env.length ce] w (CkU u env w) := by
 have HU := hZ hU
 obtain ⟨Ai, ci, Ad, cd, rfl, z2, z3, hI, hD⟩ := hU
 have hci := (hC Ai ci Ad cd rfl).1
 obtain ⟨W1, hW1⟩ : ∃ W1, W1 = w.alloc (.cells #[.slice Ai u.imps.length ci, .slice Ad u.lines.length cd] 40) := ⟨_, rfl⟩
 have B1 : Below w.heap.size w W1 := by rw [hW1]; exact below_new (Below.refl _ _) _
 have O1 : W1.heap[w.heap.size]? = some (.cells #[.slice Ai u.imps.length ci, .slice Ad u.lines.length cd] 40 (0, 0)) := by rw [hW1]; exact heap_alloc_new w _
 have hl1 : w.heap.size < W1.heap.size := by rw [hW1]; simp
 have MC := hZ (cmay11_any u [.slice Ai u.imps.length ci, .slice Ad u.lines.length cd] W1 (HU.out.below B1))
 have HX : Hid (∀ wx, Below W1.heap.size W1 wx -> wx.heap[w.heap.size]? = some (.cells #[.slice Ai u.imps.length ci, .slice Ad u.lines.length cd] 40 (0, 0))) := hZ (fun wx hb => (hb.block _ hl1).trans O1)
 have HI : Hid (∀ wx, Below W1.heap.size W1 wx -> RowIn imR wx Ai u.imps) := hZ (fun wx hb => hI.below (below_over B1 hb))
 have HD : Hid (∀ wx, Below W1.heap.size W1 wx -> RowIn lnR wx Ad u.lines) := hZ (fun wx hb => hD.below (below_over B1 hb))
 have HE : Hid (∀ wx, Below W1.heap.size W1 wx -> RowIn ifR wx Ae env) := hZ (fun wx hb => hE.below (below_over B1 hb))
 have HB1 := hZ B1
 have HW1 := hZ hW1
 have HCI := hZ hci
 obtain ⟨ni, hni⟩ : ∃ ni, ni = u.imps.length := ⟨_, rfl⟩
 obtain ⟨nd, hnd⟩ : ∃ nd, nd = u.lines.length := ⟨_, rfl⟩
 obtain ⟨ne, hne⟩ : ∃ ne, ne = env.length := ⟨_, rfl⟩
 rw [<- hni, <- hnd] at O1 MC HX HW1 ⊢
 rw [<- hne]
 rw [<- hne] at hel
 rw [<- hnd] at z3
 have HNI := hZ hni
 have HND := hZ hnd
 have HNE := hZ hne
 obtain ⟨x0, x1⟩ := cq2 O1
 simp at x0 x1
 clear hC hI hD hE B1 O1 hW1 hci hni hnd hne HU
 have hn0 : nd <= 9223372036854775807 := z3
 go_enter Tryz.func16, Tryz.ntmps16
 go_upto_region 1 with fail
 rw [<- HW1.out]
 clear HW1
 go_wp2_with (first | fail)
 refine MC.out.mono ?_; rintro e w2 ⟨rfl, hb2⟩
 have HB2 := hZ hb2
 clear hb2 MC x0 x1
 by_cases hm : mayU u = true
 rotate_left
 ·have SEAL : Hid (CkU u env w (.returned (.iface 33 (.int .i64 1))) w2) := hZ ⟨1, -1, _, .inl ⟨fun h => hm h.1, rfl, rfl⟩, rfl, .inr (.inl ⟨by decide, rfl, rfl⟩), below_over HB1.out HB2.out⟩
  have hm' : mayU u = false := by simpa using hm
  rw [hm'];clear hm hm';go_wp2_with fail
  go_ret;exact SEAL.out
 rw [hm]
 by_cases h100 : ne <= 100
 rotate_left
 ·have SEAL : Hid (CkU u env w (.returned (.iface 33 (.int .i64 1))) w2) := hZ ⟨1, -1, _, .inl ⟨fun h => h100 (by rw [HNE.out]; exact h.2), rfl, rfl⟩, rfl, .inr (.inl ⟨by decide, rfl, rfl⟩), below_over HB1.out HB2.out⟩
  have e1 : (100 : Int) < ne := by omega
  clear hm h100;go_wp2_with fail
  go_ret;exact SEAL.out
 have e1 : ¬ (100 : Int) < ne := by omega
 have hmp := mayU_parts hm
 have AG0 := againI_anyU Ai ci ni u.imps w2 HNI.out.symm (by have := hmp.1; have := HNI.out; omega) (by rw [HNI.out]; exact HCI.out) (HI.out w2 HB2.out)
 have AG := hZ AG0
 have HM := hZ hm
 have H100 : Hid (env.length <= 100) := hZ (by rw [<- HNE.out]; exact h100)
 have x0 := cZ (HX.out w2 HB2.out) 0
 simp at x0
 clear AG0 hmp hm
 go_wp2_with (first | fail)
 refine AG.out.mono ?_; rintro e w3 ⟨rfl, hb3⟩
 have HB3 := hZ (below_over HB2.out hb3)
 clear hb3 AG x0
 rcases fst_cases (dupB (·.asn) u.imps) ni with hno | ⟨k, hk1, hk2, hk3⟩
 rotate_left
 ·rw [fstN_yes hk1 hk3 hk2]
  have SEAL : Hid (CkU u env w (.returned (.iface 73 (.pointer (some ⟨w3.heap.size, 0, none⟩)))) (w3.alloc (.cells #[.int .i64 k, .iface 33 (.int .i64 5)] 75))) := hZ
   ⟨5, k, _, .inr ⟨⟨HM.out, H100.out⟩, .inl ⟨k, by rw [<- HNI.out]; exact hk1, hk2, hk3, rfl, rfl⟩⟩, rfl, .inr (.inr ⟨w3.heap.size, k, 5, by decide, rfl, rfl, rfl, sp_new⟩), below_over HB1.out (below_new HB3.out _)⟩
  have g0 : (0 : Int) <= k := by omega
  clear hk1 hk2 hk3;go_wp2_with fail
  go_ret;exact SEAL.out
 rw [fstN_no hno]
 have HNO : Hid (∀ i, i < u.imps.length -> dupB (·.asn) u.imps i = false) := hZ (by rw [<- HNI.out]; exact hno)
 have x1 := cZ (HX.out w3 HB3.out) 1
 simp at x1
 clear hno
 go_wp2_with (first | fail)
 clear x1
 go_loopw [31] (fun iv wr => ∃ j : Nat, j <= nd /\ iv = .int .i64 j /\ Hid (∀ (i : Nat) (x : Ln), i < j -> u.lines[i]? = some x -> LnIs u env x 0) /\ Hid (Below W1.heap.size W1 wr)) (fun iv _ => nd - (intOf iv).toNat)
 case atStart => exact ⟨0, by omega, rfl, hZ (fun i x h => by omega), HB3⟩
 case round =>
  obtain ⟨j, hj, rfl, HQ, HB⟩ := hrel;obtain ⟨wo, rfl⟩ : ∃ wo : World, wo = wr := ⟨_, rfl⟩;by_cases hlt : j < nd
  ·obtain ⟨x, hx⟩ : ∃ x, u.lines[j]? = some x := ⟨_, List.getElem?_eq_getElem (by rw [<- HND.out]; exact hlt)⟩
   obtain ⟨g, o, v0, v1, v2, v3, v4, v5, v6, rfl, hg, a0, am, a1, u0, u1, u2, u3, u4, u5, u6, us, zm, zs⟩ := (HD.out wo HB.out).ln hx;obtain ⟨An, cA, As, cS, ev, -⟩ := us.parts;simp only [List.cons.injEq, and_true] at ev;obtain ⟨rfl, rfl, rfl, rfl, rfl, rfl, rfl⟩ := ev;obtain ⟨w4, hw4⟩ : ∃ w4, w4 = wo.alloc (.cells #[.int .i64 x.kind, .string x.mod, .string x.name, .int .i64 x.typ.kind, .string x.typ.pkg, .int .i64 x.typ.major, .string x.typ.mod, .string x.typ.name, .slice An x.typ.names.length cA, .slice As x.typ.subs.length cS] 68) := ⟨_, rfl⟩;have B4 : Below wo.heap.size wo w4 := by rw [hw4]; exact below_new (Below.refl _ _) _
   have O4 : w4.heap[wo.heap.size]? = some (.cells #[.int .i64 x.kind, .string x.mod, .string x.name, .int .i64 x.typ.kind, .string x.typ.pkg, .int .i64 x.typ.major, .string x.typ.mod, .string x.typ.name, .slice An x.typ.names.length cA, .slice As x.typ.subs.length cS] 68 (0, 0)) := by rw [hw4]; exact heap_alloc_new wo _
   have HB4 : Hid (Below W1.heap.size W1 w4) := hZ (below_over HB.out B4);have CL0 := checkLine_any u env x An As cA cS Ai ci Ae ce w4 HM.out HNO.out H100.out (mayU_kind HM.out hx) (HI.out w4 HB4.out) HCI.out (HE.out w4 HB4.out) (us.keep B4);rw [<- HNI.out, <- HNE.out] at CL0;have CL := hZ CL0;have HXJ := hZ hx;have HW4 := hZ hw4;have x0 := cZ (HX.out w4 HB4.out) 0;obtain ⟨p0, p1, p2, p3, p4, p5, p6, p7, p8⟩ := cq9 O4;have p9 := cZ O4 9;simp at x0 p0 p1 p2 p3 p4 p5 p6 p7 p8 p9;have hj1 : (j : Int) < nd := by omega
   have hj0 : (0 : Int) <= j := by omega
   clear hx us zm zs hw4 B4 O4 CL0 hg;go_upto_region 9 with fail
   rw [<- HW4.out];clear HW4 a0 am a1 u0 u1 u2 u3 u4 u5 u6;go_wp2_with (first | fail)
   refine CL.out.mono ?_; rintro e w5 ⟨c, hc, rfl, hb5⟩
   have HB5 : Hid (Below W1.heap.size W1 w5) := hZ (below_over HB4.out hb5);clear x0 p0 p1 p2 p3 p4 p5 p6 p7 p8 p9 hb5 CL;by_cases h0 : c = 0
   ·subst h0
    rw [errV_zero11]
    have NX : Hid (∀ (i : Nat) (x : Ln), i < j + 1 -> u.lines[i]? = some x -> LnIs u env x 0) := hZ (fun i y hi hy => by
     by_cases e : i = j
     ·subst e
      rw [HXJ.out] at hy;cases hy
      exact hc
     ·exact HQ.out i y (by omega) hy)
    clear hc;go_wp2_with fail
    go_roundw
    case rel => exact ⟨j + 1, by omega, by go_num, NX, HB5⟩
    case measure => simp [intOf]; omega
   ·obtain ⟨b, rfl⟩ := ln_nat hc
    rw [errV_code11 h0]
    have SEAL : Hid (CkU u env w (.returned (.iface 73 (.pointer (some ⟨w5.heap.size, 0, none⟩)))) (w5.alloc (.cells #[.int .i64 j, .iface 33 (.int .i64 b)] 75))) := hZ
     ⟨b, j, _, .inr ⟨⟨HM.out, H100.out⟩, .inr ⟨HNO.out, .inl ⟨j, x, HXJ.out, hc, h0, rfl, HQ.out⟩⟩⟩, rfl, .inr (.inr ⟨w5.heap.size, j, b, h0, rfl, rfl, rfl, sp_new⟩), below_over HB1.out (below_new HB5.out _)⟩
    clear hc h0;go_wp2_with fail
    go_ret;exact SEAL.out
  ·have SEAL : Hid (CkU u env w (.returned .nilIface) wo) := hZ
    ⟨0, -1, _, .inr ⟨⟨HM.out, H100.out⟩, .inr ⟨HNO.out, .inr ⟨rfl, rfl, fun d hd => by
     obtain ⟨i, hi⟩ := List.getElem?_of_mem hd;exact HQ.out i d (by have := (List.getElem?_eq_some_iff.1 hi).1; have := HND.out; omega) hi⟩⟩⟩, rfl, .inl ⟨rfl, rfl⟩, below_over HB1.out HB.out⟩
   go_wp2_with fail
   go_ret;exact SEAL.out
end Go.Proofs.YtddlmigofilejaaGreat
namespace Go.Proofs.YtddlmigofilejaaGreat
open Go.RowKit
open Go.Sort
open M
theorem rfew11_any (u : Us) (l : List Value) (w : World) (h : UsAt w l u) : Calls Tryz.prog 15 #[.agg l.toArray] w fun e w' => e = .returned (.bool (fewU u)) /\ Below w.heap.size w w' := by
  obtain ⟨Ai, ci, Ad, cd, rfl, z2, z3, hI, hD⟩ := h;obtain ⟨w0, hw0⟩ : ∃ w0, w0 = w.alloc (.cells #[.slice Ai u.imps.length ci, .slice Ad u.lines.length cd] 40) := ⟨_, rfl⟩;have B0 : Below w.heap.size w w0 := by rw [hw0]; exact below_new (Below.refl _ _) _
  have O0 : w0.heap[w.heap.size]? = some (.cells #[.slice Ai u.imps.length ci, .slice Ad u.lines.length cd] 40 (0, 0)) := by rw [hw0]; exact heap_alloc_new w _
  have hl0 : w.heap.size < w0.heap.size := by rw [hw0]; simp
  obtain ⟨V, hV⟩ : ∃ V, fewU u = V := ⟨_, rfl⟩;rw [hV];have HV : Hid ((decide (u.imps.length <= 100) && (decide (u.lines.length <= 100) && u.lines.all fewLn)) = V) := hZ hV;obtain ⟨ni, hni⟩ : ∃ ni, ni = u.imps.length := ⟨_, rfl⟩;obtain ⟨nd, hnd⟩ : ∃ nd, nd = u.lines.length := ⟨_, rfl⟩;rw [<- hni] at z2 O0 hw0 HV;rw [<- hnd] at z3 O0 hw0 HV;rw [<- hni, <- hnd];have HND := hZ hnd;have HD := hZ (hD.below B0);obtain ⟨x0, x1⟩ := cq2 O0;simp at x0 x1;have HO := hZ O0;have HB := hZ B0;have HW0 := hZ hw0;clear hV hI hD hw0 B0 O0 hni hnd;by_cases h1 : 100 < ni
  · have e1 : (100 : Int) < ni := by omega
    have RV : V = false := by rw [<- HV.out, show decide (ni <= 100) = false by simp; omega]; simp
    subst RV;go_enter Tryz.func15, Tryz.ntmps15
    go_upto_region 1 with fail
    rw [<- HW0.out];go_wp2_with fail
    go_ret;exact ⟨rfl, HB.out⟩
  have e1 : ¬ (100 : Int) < ni := by omega
  by_cases h2 : 100 < nd
  · have e2 : (100 : Int) < nd := by omega
    have RV : V = false := by rw [<- HV.out, show decide (nd <= 100) = false by simp; omega]; simp
    subst RV;go_enter Tryz.func15, Tryz.ntmps15
    go_upto_region 1 with fail
    rw [<- HW0.out];go_wp2_with fail
    go_ret;exact ⟨rfl, HB.out⟩
  have e2 : ¬ (100 : Int) < nd := by omega
  have HV1 : Hid (u.lines.all fewLn = V) := hZ (by
    rw [<- HV.out, decide_eq_true (show ni <= 100 by omega), decide_eq_true (show nd <= 100 by omega)]; rfl)
  clear HV h1 h2;go_enter Tryz.func15, Tryz.ntmps15
  go_upto_region 1 with fail
  rw [<- HW0.out];clear HW0;go_wp2_with fail
  clear e1 e2;go_loopw [3] (fun iv wr => ∃ j : Nat, j <= nd /\ iv = .int .i64 j /\ Hid ((u.lines.take j).all fewLn = true) /\ Below w0.heap.size w0 wr) (fun iv _ => nd - (intOf iv).toNat)
  case atStart => exact ⟨0, by omega, rfl, hZ (by simp), Below.refl _ _⟩
  case round =>
    obtain ⟨j, hj, rfl, HQ, hb⟩ := hrel;obtain ⟨wo, rfl⟩ : ∃ wo : World, wo = wr := ⟨_, rfl⟩;have O := (hb.block _ hl0).trans HO.out;have x1 := cZ O 1;simp at x1;by_cases hlt : j < nd
    · obtain ⟨x, hx⟩ : ∃ x, u.lines[j]? = some x := ⟨_, List.getElem?_eq_getElem (by rw [<- HND.out]; exact hlt)⟩
      obtain ⟨g, o, v0, v1, v2, v3, v4, v5, v6, rfl, hg, a0, am, a1, u0, u1, u2, u3, u4, u5, u6, us, zm, zs⟩ := (HD.out.below hb).ln hx;have FW := hZ (fewB_any x.typ _ wo ⟨_, rfl, us⟩);have HX := hZ hx;have HBo := hZ hb;have HA1 := hZ a1;have HO2 := hZ O;clear hx us hb a0 a1 am zm O;go_wp2_with fail
      refine FW.out.mono ?_; rintro e w3 ⟨rfl, hb3⟩
      have a1 := (hb3.cell (p := ⟨g, _, none⟩) hg).trans HA1.out;have x1 := cZ ((hb3.block _ (Array.getElem?_eq_some_iff.1 HO2.out).1).trans HO2.out) 1;simp at x1;have HB3 := hZ (below_over HBo.out hb3);have FIN := hZ (below_over HB.out HB3.out);obtain ⟨q, hq⟩ : ∃ q, fewB x.typ = q := ⟨_, rfl⟩;rw [hq];have HQ2 := hZ hq;clear hb3 u0 u1 u2 u3 u4 u5 u6 hq FW HA1 HO2;cases q with
      | false =>
        have RV : V = false := by rw [<- HV1.out]; exact all_one _ _ _ _ HX.out (by unfold fewLn; rw [HQ2.out]; rfl)
        subst RV;go_wp2_with fail
        go_ret;exact ⟨rfl, FIN.out⟩
      | true =>
        by_cases hn : 500 < x.name.size
        · have e1 : (500 : Int) < x.name.size := by omega
          have RV : V = false := by rw [<- HV1.out]; exact all_one _ _ _ _ HX.out (by unfold fewLn; rw [show decide (x.name.size <= 500) = false by simp; omega]; simp)
          subst RV;go_wp2_with fail
          go_ret;exact ⟨rfl, FIN.out⟩
        · have e1 : ¬ (500 : Int) < x.name.size := by omega
          have HN : Hid (x.name.size <= 500) := hZ (by omega);clear hn;go_wp2_with fail
          go_roundw
          case rel => exact ⟨j + 1, by omega, by go_num, hZ (by rw [all_snoc _ _ _ _ HX.out, HQ.out]; unfold fewLn; rw [HQ2.out, decide_eq_true HN.out]; rfl), HB3.out⟩
          case measure => simp [intOf]; omega
    · have RV : V = true := by rw [<- HV1.out, <- HQ.out, List.take_of_length_le (by rw [<- HND.out]; omega)]
      subst RV;have FIN := hZ (below_over HB.out hb);clear O;go_wp2_with fail
      go_ret;exact ⟨rfl, FIN.out⟩
end Go.Proofs.YtddlmigofilejaaGreat
