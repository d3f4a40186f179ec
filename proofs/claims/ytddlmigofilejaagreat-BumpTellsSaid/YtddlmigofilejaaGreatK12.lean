/-
  Several texts in one.
-/
import Derived.Test.YtddlmigofilejaaGreatK11
set_option maxRecDepth 100000
set_option maxHeartbeats 16000000
namespace Go.Proofs.YtddlmigofilejaaGreat
open Go Go.RowKit Go.Shelf
open Go.Sort Go.Maps
open M
theorem samePk_any (x y : If) (A1 : Option Addr) (c1 : Nat) (A2 : Option Addr) (c2 : Nat) (A3 : Option Addr) (c3 : Nat) (A4 : Option Addr) (c4 : Nat) (w : World) :
  Calls Tryz.prog 25 #[.agg #[.string x.pkg, .int .i64 x.major, .string x.mod, .slice A1 x.types.length c1, .slice A2 x.vals.length c2], .agg #[.string y.pkg, .int .i64 y.major, .string y.mod, .slice A3 y.types.length c3, .slice A4 y.vals.length c4]] w fun e w' => e = .returned (.bool (samePk x y)) /\ Below w.heap.size w w' := by
 obtain ⟨W2, hW2, B2, O0, O1, hl2⟩ := two_boxes w #[.string x.pkg, .int .i64 x.major, .string x.mod, .slice A1 x.types.length c1, .slice A2 x.vals.length c2] #[.string y.pkg, .int .i64 y.major, .string y.mod, .slice A3 y.types.length c3, .slice A4 y.vals.length c4] 44 44
 obtain ⟨x0, x1, x2, x3, x4⟩ := cq5 O0
 simp at x0 x1 x2 x3 x4
 obtain ⟨y0, y1, y2, y3, y4⟩ := cq5 O1
 simp at y0 y1 y2 y3 y4
 have HB2 := hZ B2
 have HW := hZ hW2
 have hq := str_eq x.pkg y.pkg
 obtain ⟨b2, hb2⟩ : ∃ b, (x.major == y.major) = b := ⟨_, rfl⟩
 obtain ⟨b1, hb1⟩ : ∃ b, b = decide (x.pkg = y.pkg) := ⟨_, rfl⟩
 rw [<- hb1] at hq
 obtain ⟨V, hV⟩ : ∃ V, V = samePk x y := ⟨_, rfl⟩
 have HV : Hid (V = (b1 && b2)) := hZ (by rw [hV, hb1, <- hb2]; rfl)
 rw [<- hV]
 clear hW2 B2 O0 O1 hb1 hV hl2
 cases b1 with
 | false =>
  have RV : V = false := HV.out;subst RV;go_enter Tryz.func25, Tryz.ntmps25
  go_upto_region 1 with fail
  rw [<- HW.out];go_wp2_with fail
  go_ret;exact ⟨rfl, HB2.out⟩
 | true =>
  cases b2 with
  | false =>
   have RV : V = false := HV.out;subst RV;go_enter Tryz.func25, Tryz.ntmps25
   go_upto_region 1 with fail
   rw [<- HW.out];go_wp2_with fail
   go_ret;exact ⟨rfl, HB2.out⟩
  | true =>
   have RV : V = true := HV.out;subst RV;go_enter Tryz.func25, Tryz.ntmps25
   go_upto_region 1 with fail
   rw [<- HW.out];go_wp2_with fail
   go_ret;exact ⟨rfl, HB2.out⟩
theorem step_any (k : Int) (w : World) : Calls Tryz.prog 23 #[.int .i64 k] w fun e w' => e = .returned (.int .i64 (stepP k)) /\ w = w' := by
 by_cases h1 : k = 1
 ·subst h1
  go_enter Tryz.func23, Tryz.ntmps23
  go_wp2_with fail
  go_ret;exact ⟨rfl, rfl⟩
 ·by_cases h2 : k = 2
  ·subst h2
   go_enter Tryz.func23, Tryz.ntmps23
   go_wp2_with fail
   go_ret;exact ⟨rfl, rfl⟩
  ·have e : stepP k = 2 := by unfold stepP; rw [if_neg (by omega)]
   have b1 : (k == 1) = false := by simpa using h1
   have b2 : (k == 2) = false := by simpa using h2
   rw [e];go_enter Tryz.func23, Tryz.ntmps23
   go_wp2_with fail
   go_ret;exact ⟨rfl, rfl⟩
theorem oneP_gone {t : Bool} {s : ByteArray} {a b : List Nm} (h : (b.find? (isNm s)).isSome = false) : oneP t s a b = 1 := by
 unfold oneP valAt
 rw [Option.isSome_eq_false_iff, Option.isNone_iff_eq_none] at h
 rw [h]; rfl
theorem oneP_new {t : Bool} {s : ByteArray} {a b : List Nm} (h : (b.find? (isNm s)).isSome = true) (h1 : (a.find? (isNm s)).isSome = false) : oneP t s a b = 4 := by
 obtain ⟨y, hy⟩ := Option.isSome_iff_exists.1 h
 rw [Option.isSome_eq_false_iff, Option.isNone_iff_eq_none] at h1
 unfold oneP valAt
 rw [hy, h1]; rfl
theorem oneP_both {t : Bool} {s : ByteArray} {a b : List Nm} (h : (b.find? (isNm s)).isSome = true) (h1 : (a.find? (isNm s)).isSome = true) :
  oneP t s a b = if sameT (gN a s).typ (gN b s).typ = true then 0 else if t = false /\ subB (gN b s).typ (gN a s).typ = true then 3 else 2 := by
 obtain ⟨y, hy⟩ := Option.isSome_iff_exists.1 h
 obtain ⟨x, hx⟩ := Option.isSome_iff_exists.1 h1
 unfold oneP valAt gN
 rw [hy, hx]; rfl
theorem gN_ok {l : List Nm} {s : ByteArray} (h : ∀ x ∈ l, mayT x.typ = true /\ plainT x.typ = true) (hs : (l.find? (isNm s)).isSome = true) : mayT (gN l s).typ = true /\ plainT (gN l s).typ = true := by
 obtain ⟨n, hn⟩ := Option.isSome_iff_exists.1 hs
 unfold gN; rw [hn]
 exact h n (List.mem_of_find?_eq_some hn)
theorem may_9000 {t : Ty} (h : mayT t = true) : many t <= 9000 := by
 unfold mayT at h
 simp only [Bool.and_eq_true, decide_eq_true_eq] at h
 omega
theorem became_any (t : Bool) (s : ByteArray) (A : Option Addr) (ca : Nat) (B : Option Addr) (cb : Nat) (old now : List Nm) (w : World) (hA : RowIn nmR w A old) (hB : RowIn nmR w B now) (hla : old.length <= 20000) (hlb : now.length <= 20000) (hra : Rising (old.map (·.name))) (hrb : Rising (now.map (·.name)))
  (hma : ∀ x ∈ old, mayT x.typ = true /\ plainT x.typ = true) (hmb : ∀ x ∈ now, mayT x.typ = true /\ plainT x.typ = true) :
  Calls Tryz.prog 43 #[.bool t, .string s, .slice A old.length ca, .slice B now.length cb] w fun e w' => e = .returned (.int .i64 (oneP t s old now)) /\ Below w.heap.size w w' := by
 have FA := hZ (findN_any A ca old s w w hA (Below.refl _ _) (by omega) hra)
 have FB : Hid (∀ wx, Below w.heap.size w wx -> Calls Tryz.prog 71 #[.slice B now.length cb, .func (.func 42) #[] #[], .string s] wx (GnOut w wx now s)) := hZ (fun wx hb => findN_any B cb now s w wx hB hb (by omega) hrb)
 obtain ⟨na, hna⟩ : ∃ k, k = old.length := ⟨_, rfl⟩
 obtain ⟨nb, hnb⟩ : ∃ k, k = now.length := ⟨_, rfl⟩
 obtain ⟨V, hV⟩ : ∃ V, V = oneP t s old now := ⟨_, rfl⟩
 have HV := hZ hV
 have HMA := hZ hma
 have HMB := hZ hmb
 rw [<- hna] at FA
 rw [<- hnb] at FB
 rw [<- hna, <- hnb, <- hV]
 clear hA hB hla hlb hra hrb hma hmb hna hnb hV
 go_enter Tryz.func43, Tryz.ntmps43
 go_wp2_with fail
 refine FA.out.mono ?_; rintro e w2 ⟨l, rfl, hL, hb1⟩
 obtain ⟨x, hx⟩ : ∃ x, x = gN old s := ⟨_, rfl⟩
 rw [<- hx] at hL
 have hL0 := hL w (Below.refl _ _)
 obtain ⟨-, l7, rfl, hT0⟩ := hL0
 obtain ⟨A1, c1, A2, c2, rfl, -⟩ := hT0.parts
 have HTx : Hid (∀ wx, Below w.heap.size w wx -> TyAt wx [.int .i64 x.typ.kind, .string x.typ.pkg, .int .i64 x.typ.major, .string x.typ.mod, .string x.typ.name, .slice A1 x.typ.names.length c1, .slice A2 x.typ.subs.length c2] x.typ) := hZ (fun wx hb => by
  obtain ⟨-, l7, e, hT⟩ := hL wx hb;simp only [List.cons.injEq, true_and] at e;rw [e]; exact hT)
 obtain ⟨q1, hq1⟩ : ∃ q, (old.find? (isNm s)).isSome = q := ⟨_, rfl⟩
 obtain ⟨w3, hw1⟩ : ∃ wz, wz = w2.alloc (.cells #[.string x.name, .int .i64 x.typ.kind, .string x.typ.pkg, .int .i64 x.typ.major, .string x.typ.mod, .string x.typ.name, .slice A1 x.typ.names.length c1, .slice A2 x.typ.subs.length c2] 52) := ⟨_, rfl⟩
 have B1 : Below w2.heap.size w2 w3 := by rw [hw1]; exact below_new (Below.refl _ _) _
 have Z1 : w3.heap[w2.heap.size]? = some (.cells #[.string x.name, .int .i64 x.typ.kind, .string x.typ.pkg, .int .i64 x.typ.major, .string x.typ.mod, .string x.typ.name, .slice A1 x.typ.names.length c1, .slice A2 x.typ.subs.length c2] 52 (0, 0)) := by rw [hw1]; exact heap_alloc_new w2 _
 have HB1 : Hid (Below w.heap.size w w3) := hZ (below_over hb1 B1)
 have HZ1 := hZ Z1
 have HQ1 := hZ hq1
 have HX1 := hZ hx
 have HW1 := hZ hw1
 rw [hq1]
 clear hL hx hb1 FA hq1 hw1 B1 Z1 hT0
 go_upto_region 2 with fail
 rw [<- HW1.out]
 clear HW1
 go_wp2_with fail
 refine (FB.out w3 HB1.out).mono ?_; rintro e w5 ⟨l, rfl, hL, hb2⟩
 obtain ⟨y, hy⟩ : ∃ x, x = gN now s := ⟨_, rfl⟩
 rw [<- hy] at hL
 have hL0 := hL w (Below.refl _ _)
 obtain ⟨-, l7, rfl, hT0⟩ := hL0
 obtain ⟨A3, c3, A4, c4, rfl, -⟩ := hT0.parts
 have HTy : Hid (∀ wx, Below w.heap.size w wx -> TyAt wx [.int .i64 y.typ.kind, .string y.typ.pkg, .int .i64 y.typ.major, .string y.typ.mod, .string y.typ.name, .slice A3 y.typ.names.length c3, .slice A4 y.typ.subs.length c4] y.typ) := hZ (fun wx hb => by
  obtain ⟨-, l7, e, hT⟩ := hL wx hb;simp only [List.cons.injEq, true_and] at e;rw [e]; exact hT)
 obtain ⟨q2, hq2⟩ : ∃ q, (now.find? (isNm s)).isSome = q := ⟨_, rfl⟩
 obtain ⟨w6, hw2⟩ : ∃ wz, wz = w5.alloc (.cells #[.string y.name, .int .i64 y.typ.kind, .string y.typ.pkg, .int .i64 y.typ.major, .string y.typ.mod, .string y.typ.name, .slice A3 y.typ.names.length c3, .slice A4 y.typ.subs.length c4] 52) := ⟨_, rfl⟩
 have B2 : Below w5.heap.size w5 w6 := by rw [hw2]; exact below_new (Below.refl _ _) _
 have Z2 : w6.heap[w5.heap.size]? = some (.cells #[.string y.name, .int .i64 y.typ.kind, .string y.typ.pkg, .int .i64 y.typ.major, .string y.typ.mod, .string y.typ.name, .slice A3 y.typ.names.length c3, .slice A4 y.typ.subs.length c4] 52 (0, 0)) := by rw [hw2]; exact heap_alloc_new w5 _
 have HB2 : Hid (Below w.heap.size w w6) := hZ (below_over HB1.out (below_over hb2 B2))
 have HZ2 := hZ Z2
 have HQ2 := hZ hq2
 have HX2 := hZ hy
 have HW2 := hZ hw2
 rw [hq2]
 have HZ3 : Hid (w6.heap[w2.heap.size]? = some (.cells #[.string x.name, .int .i64 x.typ.kind, .string x.typ.pkg, .int .i64 x.typ.major, .string x.typ.mod, .string x.typ.name, .slice A1 x.typ.names.length c1, .slice A2 x.typ.subs.length c2] 52 (0, 0))) := hZ (((below_over hb2 B2).block _ (Array.getElem?_eq_some_iff.1 HZ1.out).1).trans HZ1.out)
 clear hL hy hb2 FB hq2 hw2 B2 Z2 hT0
 go_upto_region 3 with fail
 rw [<- HW2.out]
 clear HW2
 cases q2 with
 | false =>
  have RV : V = 1 := by rw [HV.out]; exact oneP_gone HQ2.out
  subst RV;go_wp2_with fail
  go_ret;exact ⟨rfl, HB2.out⟩
 | true =>
  cases q1 with
  | false =>
   have RV : V = 4 := by rw [HV.out]; exact oneP_new HQ2.out HQ1.out
   subst RV;go_wp2_with fail
   go_ret;exact ⟨rfl, HB2.out⟩
  | true =>
   have HV2 : Hid (V = if sameT x.typ y.typ = true then 0 else if t = false /\ subB y.typ x.typ = true then 3 else 2) := hZ (by rw [HV.out, HX1.out, HX2.out]; exact oneP_both HQ2.out HQ1.out);obtain ⟨mx, px⟩ : mayT x.typ = true /\ plainT x.typ = true := by rw [HX1.out]; exact gN_ok HMA.out HQ1.out
   obtain ⟨my, py⟩ : mayT y.typ = true /\ plainT y.typ = true := by rw [HX2.out]; exact gN_ok HMB.out HQ2.out
   have CS0 := sameK_any x.typ y.typ (.agg #[.int .i64 x.typ.kind, .string x.typ.pkg, .int .i64 x.typ.major, .string x.typ.mod, .string x.typ.name, .slice A1 x.typ.names.length c1, .slice A2 x.typ.subs.length c2]) (.agg #[.int .i64 y.typ.kind, .string y.typ.pkg, .int .i64 y.typ.major, .string y.typ.mod, .string y.typ.name, .slice A3 y.typ.names.length c3, .slice A4 y.typ.subs.length c4]) w6 ⟨_, rfl, HTx.out w6 HB2.out⟩ ⟨_, rfl, HTy.out w6 HB2.out⟩;rw [mx, my, Bool.true_and, Bool.true_and] at CS0;obtain ⟨r1, hr1⟩ : ∃ r, sameT x.typ y.typ = r := ⟨_, rfl⟩;rw [hr1] at CS0;have CS := hZ CS0
   have CU : Hid (∀ wx, Below w.heap.size w wx -> Calls Tryz.prog 73 #[.agg #[.int .i64 y.typ.kind, .string y.typ.pkg, .int .i64 y.typ.major, .string y.typ.mod, .string y.typ.name, .slice A3 y.typ.names.length c3, .slice A4 y.typ.subs.length c4], .agg #[.int .i64 x.typ.kind, .string x.typ.pkg, .int .i64 x.typ.major, .string x.typ.mod, .string x.typ.name, .slice A1 x.typ.names.length c1, .slice A2 x.typ.subs.length c2]] wx fun e w' => e = .returned (.bool (subB y.typ x.typ)) /\ Below wx.heap.size wx w') := hZ (fun wx hb => by
    have h := subC_any9 y.typ x.typ [.int .i64 y.typ.kind, .string y.typ.pkg, .int .i64 y.typ.major, .string y.typ.mod, .string y.typ.name, .slice A3 y.typ.names.length c3, .slice A4 y.typ.subs.length c4] [.int .i64 x.typ.kind, .string x.typ.pkg, .int .i64 x.typ.major, .string x.typ.mod, .string x.typ.name, .slice A1 x.typ.names.length c1, .slice A2 x.typ.subs.length c2] wx may_9000 may_9000 (HTy.out wx hb) (HTx.out wx hb);have e : subP y.typ x.typ = subB y.typ x.typ := by unfold subP; rw [mx, my, px, py]; simp
    rw [e] at h;exact h)
   have HR1 := hZ hr1;obtain ⟨x0, x1, x2, x3, x4, x5, x6, x7⟩ := cq8 HZ3.out;simp at x0 x1 x2 x3 x4 x5 x6 x7;obtain ⟨y0, y1, y2, y3, y4, y5, y6, y7⟩ := cq8 HZ2.out;simp at y0 y1 y2 y3 y4 y5 y6 y7;clear hr1 CS0 mx my px py;go_wp2_with fail
   refine CS.out.mono ?_; rintro e w7 ⟨rfl, hb7⟩
   have HB7 := hZ (below_over HB2.out hb7);have HZ4 := hZ ((hb7.block _ (Array.getElem?_eq_some_iff.1 HZ3.out).1).trans HZ3.out);have HZ5 := hZ ((hb7.block _ (Array.getElem?_eq_some_iff.1 HZ2.out).1).trans HZ2.out);clear x0 x1 x2 x3 x4 x5 x6 x7 y0 y1 y2 y3 y4 y5 y6 y7 hb7 CS;cases r1 with
   | true =>
    have RV : V = 0 := by rw [HV2.out, if_pos HR1.out]
    subst RV;go_wp2_with fail
    go_ret;exact ⟨rfl, HB7.out⟩
   | false =>
    cases t with
    | true =>
     have RV : V = 2 := by rw [HV2.out, if_neg (by rw [HR1.out]; decide), if_neg (by rintro ⟨h, -⟩; cases h)]
     subst RV;go_wp2_with fail
     go_ret;exact ⟨rfl, HB7.out⟩
    | false =>
     have CU7 := hZ (CU.out w7 HB7.out);obtain ⟨r2, hr2⟩ : ∃ r, subB y.typ x.typ = r := ⟨_, rfl⟩;rw [hr2] at CU7;have HR2 := hZ hr2;obtain ⟨x0, x1, x2, x3, x4, x5, x6, x7⟩ := cq8 HZ4.out;simp at x0 x1 x2 x3 x4 x5 x6 x7;obtain ⟨y0, y1, y2, y3, y4, y5, y6, y7⟩ := cq8 HZ5.out;simp at y0 y1 y2 y3 y4 y5 y6 y7;clear hr2;go_wp2_with fail
     refine CU7.out.mono ?_; rintro e w8 ⟨rfl, hb8⟩
     have HB8 := hZ (below_over HB7.out hb8);clear x0 x1 x2 x3 x4 x5 x6 x7 y0 y1 y2 y3 y4 y5 y6 y7 hb8 CU7;cases r2 with
     | true =>
      have RV : V = 3 := by rw [HV2.out, if_neg (by rw [HR1.out]; decide), if_pos (by first | exact ⟨rfl, HR2.out⟩ | exact ⟨trivial, HR2.out⟩)]
      subst RV;go_wp2_with fail
      go_ret;exact ⟨rfl, HB8.out⟩
     | false =>
      have RV : V = 2 := by rw [HV2.out, if_neg (by rw [HR1.out]; decide), if_neg (by rw [HR2.out]; rintro ⟨-, h⟩; cases h)]
      subst RV;go_wp2_with fail
      go_ret;exact ⟨rfl, HB8.out⟩
end Go.Proofs.YtddlmigofilejaaGreat
namespace Go.Proofs.YtddlmigofilejaaGreat
open Go Go.RowKit Go.Shelf
open Go.Sort
open M
def chL (x : Ch) : List Value := [.int .i64 x.kind, .string x.mod, .string x.name, .bool x.ofT]
def chE (_ : World) (l : List Value) (x : Ch) : Prop := l = chL x
def chR : Reads Ch := ⟨4, 54, chE, fun _ _ _ _ _ _ h _ _ => h, fun _ _ _ _ h _ => h, fun _ _ _ _ h => h, fun _ l x h => by rw [h]; rfl⟩
theorem chInfo12 : (Tryz.prog.info? 54).map (fun i => (i.zero, i.size, i.bytes)) = some (some (.agg #[.int .i64 0, .string ⟨#[]⟩, .string ⟨#[]⟩, .bool false]), 4, 48) := by kernel_rfl
theorem chL_one (x : Ch) : ∀ u ∈ chL x, u.oneCell' = true := fun u hu => by
  simp [chL] at hu;rcases hu with rfl | rfl | rfl | rfl <;> rfl
theorem chs_flat (xs : List Ch) : (xs.map chL).flatten.length = xs.length * 4 := by
  rw [flatk_len (k := 4) (fun y hy => by obtain ⟨x, -, rfl⟩ := List.mem_map.1 hy; rfl), List.length_map]
theorem chs_one (xs : List Ch) : ∀ u ∈ (xs.map chL).flatten, u.oneCell' = true := fun u hu => by
  obtain ⟨y, hy, hu⟩ := List.mem_flatten.1 hu;obtain ⟨x, -, rfl⟩ := List.mem_map.1 hy;exact chL_one x u hu
theorem chs_row {w : World} {lo c n : Nat} {A : Option Addr} {xs : List Ch} (hn : n = xs.length) (h : w.ownsRow lo 54 4 (.slice A n c) n (xs.map chL).flatten) : RowIn chR w A xs := by
  subst hn
  exact RowIn.of_own (R := chR) h (by simp) (fun y hy => by obtain ⟨x, -, rfl⟩ := List.mem_map.1 hy; rfl) fun i l x h1 h2 => by
    rw [List.getElem?_map, h2] at h1;cases h1; rfl
theorem RowIn.ch {w : World} {A : Option Addr} {xs : List Ch} (h : RowIn chR w A xs) {i : Nat} {x : Ch} (hx : xs[i]? = some x) : ∃ g o, A = some ⟨g, o, none⟩ /\ g < w.heap.size /\
    w.cell? ⟨g, o + i * 4, none⟩ = some (.int .i64 x.kind) /\ w.cell? ⟨g, o + i * 4 + 1, none⟩ = some (.string x.mod) /\ w.cell? ⟨g, o + i * 4 + 2, none⟩ = some (.string x.name) /\ w.cell? ⟨g, o + i * 4 + 3, none⟩ = some (.bool x.ofT) := by
  obtain ⟨g, o, l, hA, hg, hc, rfl⟩ := h i x hx;exact ⟨g, o, hA, hg, hc 0 _ rfl, hc 1 _ rfl, hc 2 _ rfl, hc 3 _ rfl⟩
theorem chOne_len (m : ByteArray) (t : Bool) (a b : List Nm) (s : ByteArray) : (chOne m t a b s).length <= 1 := by
  unfold chOne; split <;> simp
theorem chOnes_len {m : ByteArray} {t : Bool} {a b : List Nm} : ∀ (l : List ByteArray), (l.flatMap (chOne m t a b)).length <= l.length
  | [] => by simp
  | s :: r => by
    rw [List.flatMap_cons, List.length_append, List.length_cons];have := chOne_len m t a b s
    have := chOnes_len (m := m) (t := t) (a := a) (b := b) r
    omega
theorem uniN_le (l : List ByteArray) : (uniN l).length <= l.length := by rw [uniN_len]; exact uniS_le l
theorem chRow_len (m : ByteArray) (t : Bool) (a b : List Nm) : (chRow m t a b).length <= a.length + b.length := by
  unfold chRow
  refine Nat.le_trans (chOnes_len _) (Nat.le_trans (uniN_le _) ?_);simp
structure OkN (l : List Nm) : Prop where
  len : l.length <= 20000
  rise : Rising (l.map (·.name))
  ok : ∀ x ∈ l, mayT x.typ = true /\ plainT x.typ = true
  size : ∀ x ∈ l, x.name.size <= 281474976710656
theorem differ_any (m : ByteArray) (t : Bool) (A : Option Addr) (ca : Nat) (B : Option Addr) (cb : Nat) (old now : List Nm) (w : World) (hA : RowIn nmR w A old) (hB : RowIn nmR w B now) (ha : OkN old) (hb : OkN now) (hm : m.size <= 281474976710656) :
    Calls Tryz.prog 22 #[.string m, .bool t, .slice A old.length ca, .slice B now.length cb] w fun e w' => ∃ (A' : Option Addr) (c' : Nat), e = .returned (.slice A' (chRow m t old now).length c') /\ RowIn chR w' A' (chRow m t old now) /\ Below w.heap.size w w' := by
  have CE := hZ (eitherN_any A ca B cb old now w hA hB ha.len hb.len);have CB : Hid (∀ (s : ByteArray) (wx : World), Below w.heap.size w wx -> Calls Tryz.prog 43 #[.bool t, .string s, .slice A old.length ca, .slice B now.length cb] wx fun e w' => e = .returned (.int .i64 (oneP t s old now)) /\ Below wx.heap.size wx w') := hZ (fun s wx hx => became_any t s A ca B cb old now wx (hA.below hx) (hB.below hx) ha.len hb.len ha.rise hb.rise ha.ok hb.ok);have HM := hZ (fun wx => cln_any m wx hm);obtain ⟨ns, hns⟩ : ∃ ns, ns = uniN (old.map (·.name) ++ now.map (·.name)) := ⟨_, rfl⟩
  have HSZ : Hid (∀ s ∈ ns, s.size <= 281474976710656) := hZ (fun s hs => by
    rw [hns, uniN_mem, List.mem_append] at hs;rcases hs with hs | hs
    · obtain ⟨x, hx, rfl⟩ := List.mem_map.1 hs
      exact ha.size x hx
    · obtain ⟨x, hx, rfl⟩ := List.mem_map.1 hs
      exact hb.size x hx)
  have hl : ns.length <= 40000 := by
    rw [hns];refine Nat.le_trans (uniN_le _) ?_;have := ha.len
    have := hb.len
    simp; omega
  have hrow : chRow m t old now = ns.flatMap (chOne m t old now) := by rw [hns]; rfl
  rw [hrow];rw [<- hns] at CE;obtain ⟨n, hn⟩ : ∃ n, n = ns.length := ⟨_, rfl⟩;rw [<- hn] at CE hl;have HN := hZ hn;obtain ⟨na, hna⟩ : ∃ k, k = old.length := ⟨_, rfl⟩;obtain ⟨nb, hnb⟩ : ∃ k, k = now.length := ⟨_, rfl⟩;rw [<- hna, <- hnb] at CE CB;rw [<- hna, <- hnb];clear hA hB ha hb hm hns hrow hn hna hnb;go_enter Tryz.func22, Tryz.ntmps22
  go_wp2_with fail
  refine CE.out.mono ?_; rintro e w2 ⟨A2, c2, rfl, hN2, hb2⟩
  have HN2 := hZ hN2;have HB2 := hZ hb2;clear CE hN2 hb2;go_wp2_with fail
  go_loopw [9, 17] (fun s9 s17 wr => ∃ (k q : Nat) (A9 : Option Addr) (c9 : Nat), k <= n /\ q <= k /\ s17 = .int .i64 k /\ s9 = .slice A9 q c9 /\ Hid (q = ((ns.take k).flatMap (chOne m t old now)).length) /\ Hid (wr.ownsRow w2.heap.size 54 4 (.slice A9 q c9) q (((ns.take k).flatMap (chOne m t old now)).map chL).flatten) /\ Hid (Below w2.heap.size w2 wr)) (fun _ s17 _ => n - (intOf s17).toNat)
  case atStart => exact ⟨0, 0, none, 0, by omega, by omega, rfl, rfl, hZ rfl, hZ (World.ownsRow_nil _ _ _ _), hZ (Below.refl _ _)⟩
  case round =>
    obtain ⟨k, q, A9, c9, hk, hq, rfl, rfl, HQ, HO, HB⟩ := hrel;obtain ⟨wo, rfl⟩ : ∃ wo : World, wo = wr := ⟨_, rfl⟩;by_cases hlt : k < n
    · obtain ⟨s, hs⟩ : ∃ s, ns[k]? = some s := ⟨_, List.getElem?_eq_getElem (by rw [<- HN.out]; exact hlt)⟩
      obtain ⟨g, o, rfl, hg, hc, -⟩ := (HN2.out.below HB.out) k s hs;have BC := hZ (CB.out s wo (below_over HB2.out HB.out));have HS := hZ hs;have hk0 : (0 : Int) <= k := by omega
      have hk1 : (k : Int) < n := by omega
      have STEP : Hid ((ns.take (k + 1)).flatMap (chOne m t old now) = (ns.take k).flatMap (chOne m t old now) ++ chOne m t old now s) := hZ (by rw [List.take_add_one, hs]; simp);obtain ⟨v, hv⟩ : ∃ v, v = oneP t s old now := ⟨_, rfl⟩;rw [<- hv] at BC;have HVV := hZ hv;clear hs hg hv;go_upto_region 5 with fail
      clear hc;go_wp2_with fail
      refine BC.out.mono ?_; rintro e w3 ⟨rfl, hb3⟩
      have HB3 := hZ (HB.out.trans (hb3.mono HB.out.size));have HO3 : Hid (w3.ownsRow w2.heap.size 54 4 (.slice A9 q c9) q (((ns.take k).flatMap (chOne m t old now)).map chL).flatten) := hZ (own_block11 HO.out (fun b hb => hb3.block b (HO.out.lt b hb).2));clear hb3 BC;by_cases h0 : v = 0
      · have e1 : (v != 0) = false := by simpa using h0
        have CN : Hid (chOne m t old now s = []) := hZ (by unfold chOne; rw [if_pos (by rw [<- HVV.out]; exact h0)]);have NQ : Hid (q = ((ns.take (k + 1)).flatMap (chOne m t old now)).length) := hZ (by rw [STEP.out, CN.out, List.append_nil]; exact HQ.out);have NO : Hid (w3.ownsRow w2.heap.size 54 4 (.slice A9 q c9) q (((ns.take (k + 1)).flatMap (chOne m t old now)).map chL).flatten) := hZ (by rw [STEP.out, CN.out, List.append_nil]; exact HO3.out);clear h0;go_wp2_with fail
        go_roundw
        case rel => exact ⟨k + 1, q, A9, c9, by omega, by omega, by go_num, rfl, NQ, NO, HB3⟩
        case measure => simp [intOf]; omega
      · have e1 : (v != 0) = true := by simpa using h0
        have CN : Hid (chOne m t old now s = [⟨v, m, s, t⟩]) := hZ (by unfold chOne; rw [if_neg (by rw [<- HVV.out]; exact h0), <- HVV.out]);have CS := hZ (fun wx => cln_any s wx (HSZ.out s (List.mem_of_getElem? HS.out)));clear h0;go_wp2_with fail
        refine (HM.out _).mono ?_; rintro e w4 ⟨rfl, hb4⟩
        have HB4 := hZ (HB3.out.trans (hb4.mono HB3.out.size));have HO4 : Hid (w4.ownsRow w2.heap.size 54 4 (.slice A9 q c9) q (((ns.take k).flatMap (chOne m t old now)).map chL).flatten) := hZ (own_block11 HO3.out (fun b hb => hb4.block b (HO3.out.lt b hb).2));clear hb4;go_wp2_with fail
        refine (CS.out _).mono ?_; rintro e w5 ⟨rfl, hb5⟩
        have HB5 := hZ (HB4.out.trans (hb5.mono HB4.out.size));have hown : w5.ownsRow w2.heap.size 54 4 (.slice A9 q c9) q (((ns.take k).flatMap (chOne m t old now)).map chL).flatten := own_block11 HO4.out (fun b hb => hb5.block b (HO4.out.lt b hb).2);have hsz : w2.heap.size <= w5.heap.size := HB5.out.size;have hAL : ∀ oo, w2.heap.size <= (w5.alloc oo).heap.size := fun oo => by have e1 : (w5.alloc oo).heap.size = w5.heap.size + 1 := (by simp); omega
        obtain ⟨inf, g1', g2', g3', g4'⟩ := info_parts chInfo12;have hMX : q + 1 <= maxLen := by unfold maxLen; omega
        clear hb5 CS;go_wp2_with (first | (refine wpList_append_lies _ rfl (.tmp 28) (.tmp 36) 25 rfl w2.heap.size 54 inf _ 4 48 Tryz.underlying25 g1' g2' g3' g4' (by rfl) (Nat.zero_lt_succ 3) (.slice A9 q c9) q _ rfl (hown.alloc _) ⟨w5.heap.size, 0, none⟩ 1 1 [.int .i64 v, .string m, .string s, .bool t] rfl rfl (fun q u hq => by rw [WideShapes.add_plain, Nat.zero_add, cZ (heap_alloc_new w5 _), <- hq, <- List.getElem?_toArray]) (fun u hu => by simp at hu; rcases hu with rfl | rfl | rfl | rfl <;> rfl) Nat.one_pos hMX (by omega) (hAL _) _ rfl ?_; intro gq pq w6 hown6 hgrow hat hlt6; replace HB5 := hZ (below_grown (below_new HB5.out _) (hAL _) (hown.alloc _) hgrow); replace HO := hZ hown6; clear hown6 hgrow hat hlt6))
        have NQ : Hid (q + 1 = ((ns.take (k + 1)).flatMap (chOne m t old now)).length) := hZ (by rw [STEP.out, CN.out, List.length_append, <- HQ.out]; rfl)
        have NO : Hid (w6.ownsRow w2.heap.size 54 4 (.slice (some ⟨gq, 0, none⟩) (q + 1) pq) (q + 1) (((ns.take (k + 1)).flatMap (chOne m t old now)).map chL).flatten) := hZ (by
          rw [STEP.out, CN.out, List.map_append, List.flatten_append];simpa [chL] using HO.out)
        clear hown hAL g1' g2' g3' g4' HO;go_wp2_with fail
        go_roundw
        case rel => exact ⟨k + 1, q + 1, some ⟨gq, 0, none⟩, pq, by omega, by omega, by go_num, rfl, NQ, NO, HB5⟩
        case measure => simp [intOf]; omega
    · obtain rfl : k = n := by omega
      have ET : Hid (ns.take k = ns) := hZ (List.take_of_length_le (by rw [<- HN.out]; exact Nat.le_refl _))
      have FIN : Hid (q = (ns.flatMap (chOne m t old now)).length /\ RowIn chR wo A9 (ns.flatMap (chOne m t old now)) /\ Below w.heap.size w wo) := hZ (by
        have h1 := HQ.out;have h2 := HO.out;rw [ET.out] at h1 h2;exact ⟨h1, chs_row h1 h2, below_over HB2.out HB.out⟩)
      clear HQ HO;go_wp2_with fail
      go_ret;exact ⟨A9, c9, by (rw [<- FIN.out.1]; try rfl), FIN.out.2.1, FIN.out.2.2⟩
theorem open10_any (p : ByteArray) (j : Int) (d n : ByteArray) (w : World) : Calls Tryz.prog 46 #[.string p, .int .i64 j, .string d, .string n] w fun e w' => e = .returned (.agg #[.int .i64 9, .string p, .int .i64 j, .string d, .string n, .slice none 0 0, .slice none 0 0]) /\ Below w.heap.size w w' := by
  obtain ⟨W2, hW2⟩ : ∃ W2, W2 = w.alloc (.cells #[.int .i64 0, .string ⟨#[]⟩, .int .i64 0, .string ⟨#[]⟩, .string ⟨#[]⟩, .slice none 0 0, .slice none 0 0] 50) := ⟨_, rfl⟩;have B2 : Below w.heap.size w W2 := by rw [hW2]; exact below_new (Below.refl _ _) _
  have X2 : W2.heap[w.heap.size]? = some (.cells #[.int .i64 0, .string ⟨#[]⟩, .int .i64 0, .string ⟨#[]⟩, .string ⟨#[]⟩, .slice none 0 0, .slice none 0 0] 50 (0, 0)) := by rw [hW2]; exact heap_alloc_new w _
  have HX := hZ X2;have FIN := hZ (setRow_below (b := w.heap.size) B2 (Nat.le_refl _) #[.int .i64 9, .string p, .int .i64 j, .string d, .string n, .slice none 0 0, .slice none 0 0]);have HW := hZ hW2;clear hW2 B2;go_enter Tryz.func46, Tryz.ntmps46
  go_upto_region 1 with fail
  rw [<- HW.out];go_wp2_with (first | ((with_reducible refine wpList_putRow 50 (w.heap.size) #[.int .i64 9, .string p, .int .i64 j, .string d, .string n, .slice none 0 0, .slice none 0 0] _ _ X2 ?_ ?_ ?_ ?_ ?_ ?_); exact tySize; rfl; exact tyOne; iterate 2 (focus (first | (go_simp; done) | rfl))))
  exact ret_agg1 (fn := Tryz.f46) (vs := [.int .i64 9, .string p, .int .i64 j, .string d, .string n, .slice none 0 0, .slice none 0 0]) (b := w.heap.size) rfl rfl Tryz.underlying50 (by kernel_rfl) (cell7 (setRow_heap W2 (w.heap.size) _ _ _ _ HX.out)) rfl ⟨rfl, FIN.out⟩
theorem opV (p : ByteArray) (j : Int) (d n : ByteArray) (w : World) (hp : p.size <= 9223372036854775807) (hd : d.size <= 9223372036854775807) (hn : n.size <= 9223372036854775807) : TyV w (.agg #[.int .i64 9, .string p, .int .i64 j, .string d, .string n, .slice none 0 0, .slice none 0 0]) (opT p j d n) := ⟨_, rfl, openTy_at p j d n w hp hd hn⟩
theorem great10_any (n : ByteArray) (w : World) (hn : n.size <= 9223372036854775807) : Calls Tryz.prog 48 #[.string n] w fun e w' => e = .returned (.bool (nameOk true n)) /\ Below w.heap.size w w' := by
  have e : nameOk true n = mayT (opT ⟨#[112]⟩ 1 ⟨#[109]⟩ n) := (great_may n).symm;rw [e];go_enter Tryz.func48, Tryz.ntmps48
  go_wp2_with fail
  refine (open10_any _ _ _ _ _).mono ?_; rintro e w2 ⟨rfl, hb2⟩
  go_wp2_with fail
  refine (mayK_any _ _ _ (opV ⟨#[112]⟩ 1 ⟨#[109]⟩ n w2 (by decide) (by decide) hn)).mono ?_; rintro e w3 ⟨rfl, hb3⟩
  go_wp2_with fail
  go_ret;exact ⟨rfl, below_over hb2 hb3⟩
theorem small10_any (n : ByteArray) (w : World) (hn : n.size <= 9223372036854775807) : Calls Tryz.prog 49 #[.string n] w fun e w' => e = .returned (.bool (nameOk false n)) /\ Below w.heap.size w w' := by
  have e : nameOk false n = mayT (opT ⟨#[112]⟩ 1 n ⟨#[84]⟩) := (small_may n).symm;rw [e];go_enter Tryz.func49, Tryz.ntmps49
  go_wp2_with fail
  refine (open10_any _ _ _ _ _).mono ?_; rintro e w2 ⟨rfl, hb2⟩
  go_wp2_with fail
  refine (mayK_any _ _ _ (opV ⟨#[112]⟩ 1 n ⟨#[84]⟩ w2 (by decide) hn (by decide))).mono ?_; rintro e w3 ⟨rfl, hb3⟩
  go_wp2_with fail
  go_ret;exact ⟨rfl, below_over hb2 hb3⟩
theorem rising10_great (A : Option Addr) (c : Nat) (l : List Nm) (w : World) (hR : RowIn nmR w A l) (hl : l.length <= 9223372036854775807) :
  Calls Tryz.prog 47 #[.slice A l.length c, .func (.func 48) #[] #[]] w fun e w' => e = .returned (.bool (risesN true l)) /\ Below w.heap.size w w' := by
 have HR := hZ hR
 obtain ⟨n, hn⟩ : ∃ n, n = l.length := ⟨_, rfl⟩
 have HN := hZ hn
 obtain ⟨V, hV⟩ : ∃ V, V = risesN true l := ⟨_, rfl⟩
 have HV := hZ hV
 rw [<- hn] at hl ⊢
 rw [<- hV]
 clear hR hn hV
 go_enter Tryz.func47, Tryz.ntmps47
 go_wp2_with fail
 go_loopw [9] (fun s9 wr => ∃ k : Nat, k <= n /\ s9 = .int .i64 k /\ Hid (∀ i, i < k -> okAt true l i = true) /\ Hid (Below w.heap.size w wr)) (fun s9 _ => n - (intOf s9).toNat)
 case atStart => exact ⟨0, by omega, rfl, hZ (fun i h => by omega), hZ (Below.refl _ _)⟩
 case round =>
  obtain ⟨k, hk, rfl, HP, HB⟩ := hrel;obtain ⟨wo, rfl⟩ : ∃ wo : World, wo = wr := ⟨_, rfl⟩;by_cases hlt : k < n
  ·obtain ⟨x, hx⟩ : ∃ x, l[k]? = some x := ⟨_, List.getElem?_eq_getElem (by rw [<- HN.out]; exact hlt)⟩
   obtain ⟨g, o, Bn, cB, Bs, dB, rfl, hg, a0, a1, a2, a3, a4, a5, a6, a7, hT, hs⟩ := (HR.out.below HB.out).nm hx;have HX := hZ hx;obtain ⟨w4, hw4⟩ : ∃ w4, w4 = wo.alloc (.cells #[.string x.name, .int .i64 x.typ.kind, .string x.typ.pkg, .int .i64 x.typ.major, .string x.typ.mod, .string x.typ.name, .slice Bn x.typ.names.length cB, .slice Bs x.typ.subs.length dB] 52) := ⟨_, rfl⟩;have B4 : Below wo.heap.size wo w4 := by rw [hw4]; exact below_new (Below.refl _ _) _
   have Y4 : w4.heap[wo.heap.size]? = some (.cells #[.string x.name, .int .i64 x.typ.kind, .string x.typ.pkg, .int .i64 x.typ.major, .string x.typ.mod, .string x.typ.name, .slice Bn x.typ.names.length cB, .slice Bs x.typ.subs.length dB] 52 (0, 0)) := by rw [hw4]; exact heap_alloc_new wo _
   have HB4 := hZ (below_over HB.out B4);have HT4 := hZ (hT.keep B4);have HW4 := hZ hw4;have hk0 : (0 : Int) <= k := by omega
   have hk1 : (k : Int) < n := by omega
   obtain ⟨q1, hq1⟩ : ∃ q, q = nameOk true x.name := ⟨_, rfl⟩;obtain ⟨q4, hq4⟩ : ∃ q, q = (mayT x.typ && plainT x.typ) := ⟨_, rfl⟩;have cN : ∀ dd os, Calls Tryz.prog 48 #[.string x.name] (Sort.grow (redrawn w4 dd) os) fun e w'' => e = .returned (.bool q1) /\ ∃ pp : Regrown, w'' = Sort.grow (redrawn w4 pp.d) pp.os := fun dd os => Calls.regrown_of (by rw [hq1]; exact great10_any x.name _ hs)
   have cP : ∀ dd os, Calls Tryz.prog 76 #[.agg #[.int .i64 x.typ.kind, .string x.typ.pkg, .int .i64 x.typ.major, .string x.typ.mod, .string x.typ.name, .slice Bn x.typ.names.length cB, .slice Bs x.typ.subs.length dB]] (Sort.grow (redrawn w4 dd) os) fun e w'' => e = .returned (.bool q4) /\ ∃ pp : Regrown, w'' = Sort.grow (redrawn w4 pp.d) pp.os := fun dd os => Calls.regrown_of (by
    rw [hq4]; exact plainK_any _ _ _ ⟨_, rfl, HT4.out.keep (below_regrown w4 dd os)⟩)
   have HQ1 := hZ hq1;have HQ4 := hZ hq4;obtain ⟨y0, y1, y2, y3, y4, y5, y6, y7⟩ := cq8 Y4;simp at y0 y1 y2 y3 y4 y5 y6 y7;clear hq1 hq4 Y4 hT hx hg hs B4 hw4;cases k with
   | zero =>
    simp at a0 a1 a2 a3 a4 a5 a6 a7;go_upto_region 4 with fail
    rw [<- HW4.out];clear HW4;cases q1 with
    | false =>
     have p0 := cell_regrown y0;have p1 := cell_regrown y1;have p2 := cell_regrown y2;have p3 := cell_regrown y3;have p4 := cell_regrown y4;have p5 := cell_regrown y5;have p6 := cell_regrown y6;have p7 := cell_regrown y7;clear y0 y1 y2 y3 y4 y5 y6 y7;refine wp_region_quiet_below (by kernel_rfl) (by kernel_rfl) ?_;repeat (any_goals (first | go_big_quiet_step (first | with_reducible exact cN _ _ | with_reducible exact cP _ _) | quiet_step (first | with_reducible exact cN _ _ | with_reducible exact cP _ _)))
     refine wpQuiet_nil ?_;intro w5 hw'
     have HB5 : Hid (Below w.heap.size w w5) := hZ (by
      obtain ⟨⟨dq, osq⟩, hw''⟩ := hw';rw [hw''];exact below_over HB4.out (below_regrown w4 dq osq))
     clear hw' cN cP p0 p1 p2 p3 p4 p5 p6 p7;have RES : V = false := by rw [HV.out]; exact rises_no (i := 0) (by have := HN.out; omega) (by rw [okAt_0 HX.out, <- HQ1.out, <- HQ4.out]; try simp)
     subst RES;go_wp2_with fail
     go_ret;exact ⟨rfl, HB5.out⟩
    | true =>
     cases q4 with
     | false =>
      have p0 := cell_regrown y0;have p1 := cell_regrown y1;have p2 := cell_regrown y2;have p3 := cell_regrown y3;have p4 := cell_regrown y4;have p5 := cell_regrown y5;have p6 := cell_regrown y6;have p7 := cell_regrown y7;clear y0 y1 y2 y3 y4 y5 y6 y7;refine wp_region_quiet_below (by kernel_rfl) (by kernel_rfl) ?_;repeat (any_goals (first | go_big_quiet_step (first | with_reducible exact cN _ _ | with_reducible exact cP _ _) | quiet_step (first | with_reducible exact cN _ _ | with_reducible exact cP _ _)))
      refine wpQuiet_nil ?_;intro w5 hw'
      have HB5 : Hid (Below w.heap.size w w5) := hZ (by
       obtain ⟨⟨dq, osq⟩, hw''⟩ := hw';rw [hw''];exact below_over HB4.out (below_regrown w4 dq osq))
      clear hw' cN cP p0 p1 p2 p3 p4 p5 p6 p7;have RES : V = false := by rw [HV.out]; exact rises_no (i := 0) (by have := HN.out; omega) (by rw [okAt_0 HX.out, <- HQ1.out, <- HQ4.out]; try simp)
      subst RES;go_wp2_with fail
      go_ret;exact ⟨rfl, HB5.out⟩
     | true =>
      have p0 := cell_regrown y0;have p1 := cell_regrown y1;have p2 := cell_regrown y2;have p3 := cell_regrown y3;have p4 := cell_regrown y4;have p5 := cell_regrown y5;have p6 := cell_regrown y6;have p7 := cell_regrown y7;clear y0 y1 y2 y3 y4 y5 y6 y7;refine wp_region_quiet_below (by kernel_rfl) (by kernel_rfl) ?_;repeat (any_goals (first | go_big_quiet_step (first | with_reducible exact cN _ _ | with_reducible exact cP _ _) | quiet_step (first | with_reducible exact cN _ _ | with_reducible exact cP _ _)))
      refine wpQuiet_nil ?_;intro w5 hw'
      have HB5 : Hid (Below w.heap.size w w5) := hZ (by
       obtain ⟨⟨dq, osq⟩, hw''⟩ := hw';rw [hw''];exact below_over HB4.out (below_regrown w4 dq osq))
      clear hw' cN cP p0 p1 p2 p3 p4 p5 p6 p7
      have NX : Hid (∀ i, i < 0 + 1 -> okAt true l i = true) := hZ (fun i hi => by
       rcases Nat.lt_or_ge i (0) with c | c
       ·exact HP.out i c
       ·obtain rfl : i = 0 := by omega
        rw [okAt_0 HX.out, <- HQ1.out, <- HQ4.out]; try simp)
      go_wp2_with fail
      go_roundw
      case rel => exact ⟨0 + 1, by omega, by go_num, NX, HB5⟩
      case measure => simp [intOf]; omega
   | succ k =>
    obtain ⟨y, hy⟩ : ∃ y, l[k]? = some y := ⟨_, List.getElem?_eq_getElem (by rw [<- HN.out]; omega)⟩;obtain ⟨g', o', Dn, cD, Ds, dD, e', hg', b0, -⟩ := (HR.out.below HB4.out).nm hy;cases e'
    have HY := hZ hy;obtain ⟨q3, hq3⟩ : ∃ q, Op.bytesLess y.name.toList x.name.toList = q := ⟨_, rfl⟩;have HQ3 : Hid (leS x.name y.name = !q3) := hZ (by rw [leS_eq, hq3]);have hp1 : ((k : Nat) : Int) + 1 - 1 = k := by omega
    have hp1' : (((k + 1 : Nat) : Int)) - 1 = k := by omega
    have hp0 : decide ((0 : Int) < ((k + 1 : Nat) : Int)) = true := by simp; try omega
    have hp0' : decide ((0 : Int) < (k : Int) + 1) = true := by simp; try omega
    have hkk0 : (0 : Int) <= (k : Int) := by omega
    have hkk1 : (k : Int) < n := by omega
    clear hy hg';go_upto_region 4 with fail
    rw [<- HW4.out];clear HW4;cases q1 with
    | false =>
     have p0 := cell_regrown y0;have p1 := cell_regrown y1;have p2 := cell_regrown y2;have p3 := cell_regrown y3;have p4 := cell_regrown y4;have p5 := cell_regrown y5;have p6 := cell_regrown y6;have p7 := cell_regrown y7;have r0 := cell_regrown b0;clear y0 y1 y2 y3 y4 y5 y6 y7 b0;refine wp_region_quiet_below (by kernel_rfl) (by kernel_rfl) ?_;repeat (any_goals (first | go_big_quiet_step (first | with_reducible exact cN _ _ | with_reducible exact cP _ _) | quiet_step (first | with_reducible exact cN _ _ | with_reducible exact cP _ _)))
     refine wpQuiet_nil ?_;intro w5 hw'
     have HB5 : Hid (Below w.heap.size w w5) := hZ (by
      obtain ⟨⟨dq, osq⟩, hw''⟩ := hw';rw [hw''];exact below_over HB4.out (below_regrown w4 dq osq))
     clear hw' cN cP p0 p1 p2 p3 p4 p5 p6 p7 r0;have RES : V = false := by rw [HV.out]; exact rises_no (i := k + 1) (by have := HN.out; omega) (by rw [okAt_s HX.out HY.out, <- HQ1.out, HQ3.out, <- HQ4.out]; try simp)
     subst RES;go_wp2_with fail
     go_ret;exact ⟨rfl, HB5.out⟩
    | true =>
     cases q3 with
     | false =>
      have p0 := cell_regrown y0;have p1 := cell_regrown y1;have p2 := cell_regrown y2;have p3 := cell_regrown y3;have p4 := cell_regrown y4;have p5 := cell_regrown y5;have p6 := cell_regrown y6;have p7 := cell_regrown y7;have r0 := cell_regrown b0;clear y0 y1 y2 y3 y4 y5 y6 y7 b0;refine wp_region_quiet_below (by kernel_rfl) (by kernel_rfl) ?_;repeat (any_goals (first | go_big_quiet_step (first | with_reducible exact cN _ _ | with_reducible exact cP _ _) | quiet_step (first | with_reducible exact cN _ _ | with_reducible exact cP _ _)))
      refine wpQuiet_nil ?_;intro w5 hw'
      have HB5 : Hid (Below w.heap.size w w5) := hZ (by
       obtain ⟨⟨dq, osq⟩, hw''⟩ := hw';rw [hw''];exact below_over HB4.out (below_regrown w4 dq osq))
      clear hw' cN cP p0 p1 p2 p3 p4 p5 p6 p7 r0;have RES : V = false := by rw [HV.out]; exact rises_no (i := k + 1) (by have := HN.out; omega) (by rw [okAt_s HX.out HY.out, <- HQ1.out, HQ3.out, <- HQ4.out]; try simp)
      subst RES;go_wp2_with fail
      go_ret;exact ⟨rfl, HB5.out⟩
     | true =>
      cases q4 with
      | false =>
       have p0 := cell_regrown y0;have p1 := cell_regrown y1;have p2 := cell_regrown y2;have p3 := cell_regrown y3;have p4 := cell_regrown y4;have p5 := cell_regrown y5;have p6 := cell_regrown y6;have p7 := cell_regrown y7;have r0 := cell_regrown b0;clear y0 y1 y2 y3 y4 y5 y6 y7 b0;refine wp_region_quiet_below (by kernel_rfl) (by kernel_rfl) ?_;repeat (any_goals (first | go_big_quiet_step (first | with_reducible exact cN _ _ | with_reducible exact cP _ _) | quiet_step (first | with_reducible exact cN _ _ | with_reducible exact cP _ _)))
       refine wpQuiet_nil ?_;intro w5 hw'
       have HB5 : Hid (Below w.heap.size w w5) := hZ (by
        obtain ⟨⟨dq, osq⟩, hw''⟩ := hw';rw [hw''];exact below_over HB4.out (below_regrown w4 dq osq))
       clear hw' cN cP p0 p1 p2 p3 p4 p5 p6 p7 r0;have RES : V = false := by rw [HV.out]; exact rises_no (i := k + 1) (by have := HN.out; omega) (by rw [okAt_s HX.out HY.out, <- HQ1.out, HQ3.out, <- HQ4.out]; try simp)
       subst RES;go_wp2_with fail
       go_ret;exact ⟨rfl, HB5.out⟩
      | true =>
       have p0 := cell_regrown y0;have p1 := cell_regrown y1;have p2 := cell_regrown y2;have p3 := cell_regrown y3;have p4 := cell_regrown y4;have p5 := cell_regrown y5;have p6 := cell_regrown y6;have p7 := cell_regrown y7;have r0 := cell_regrown b0;clear y0 y1 y2 y3 y4 y5 y6 y7 b0;refine wp_region_quiet_below (by kernel_rfl) (by kernel_rfl) ?_;repeat (any_goals (first | go_big_quiet_step (first | with_reducible exact cN _ _ | with_reducible exact cP _ _) | quiet_step (first | with_reducible exact cN _ _ | with_reducible exact cP _ _)))
       refine wpQuiet_nil ?_;intro w5 hw'
       have HB5 : Hid (Below w.heap.size w w5) := hZ (by
        obtain ⟨⟨dq, osq⟩, hw''⟩ := hw';rw [hw''];exact below_over HB4.out (below_regrown w4 dq osq))
       clear hw' cN cP p0 p1 p2 p3 p4 p5 p6 p7 r0
       have NX : Hid (∀ i, i < k + 1 + 1 -> okAt true l i = true) := hZ (fun i hi => by
        rcases Nat.lt_or_ge i (k + 1) with c | c
        ·exact HP.out i c
        ·obtain rfl : i = k + 1 := by omega
         rw [okAt_s HX.out HY.out, <- HQ1.out, HQ3.out, <- HQ4.out]; try simp)
       go_wp2_with fail
       go_roundw
       case rel => exact ⟨k + 1 + 1, by omega, by go_num, NX, HB5⟩
       case measure => simp [intOf]; omega
  ·have RV : V = true := by rw [HV.out]; exact rises_yes (fun i hi => HP.out i (by have := HN.out; omega))
   subst RV;go_wp2_with fail
   go_ret;exact ⟨rfl, HB.out⟩
theorem rising10_small (A : Option Addr) (c : Nat) (l : List Nm) (w : World) (hR : RowIn nmR w A l) (hl : l.length <= 9223372036854775807) :
  Calls Tryz.prog 47 #[.slice A l.length c, .func (.func 49) #[] #[]] w fun e w' => e = .returned (.bool (risesN false l)) /\ Below w.heap.size w w' := by
 have HR := hZ hR
 obtain ⟨n, hn⟩ : ∃ n, n = l.length := ⟨_, rfl⟩
 have HN := hZ hn
 obtain ⟨V, hV⟩ : ∃ V, V = risesN false l := ⟨_, rfl⟩
 have HV := hZ hV
 rw [<- hn] at hl ⊢
 rw [<- hV]
 clear hR hn hV
 go_enter Tryz.func47, Tryz.ntmps47
 go_wp2_with fail
 go_loopw [9] (fun s9 wr => ∃ k : Nat, k <= n /\ s9 = .int .i64 k /\ Hid (∀ i, i < k -> okAt false l i = true) /\ Hid (Below w.heap.size w wr)) (fun s9 _ => n - (intOf s9).toNat)
 case atStart => exact ⟨0, by omega, rfl, hZ (fun i h => by omega), hZ (Below.refl _ _)⟩
 case round =>
  obtain ⟨k, hk, rfl, HP, HB⟩ := hrel;obtain ⟨wo, rfl⟩ : ∃ wo : World, wo = wr := ⟨_, rfl⟩;by_cases hlt : k < n
  ·obtain ⟨x, hx⟩ : ∃ x, l[k]? = some x := ⟨_, List.getElem?_eq_getElem (by rw [<- HN.out]; exact hlt)⟩
   obtain ⟨g, o, Bn, cB, Bs, dB, rfl, hg, a0, a1, a2, a3, a4, a5, a6, a7, hT, hs⟩ := (HR.out.below HB.out).nm hx;have HX := hZ hx;obtain ⟨w4, hw4⟩ : ∃ w4, w4 = wo.alloc (.cells #[.string x.name, .int .i64 x.typ.kind, .string x.typ.pkg, .int .i64 x.typ.major, .string x.typ.mod, .string x.typ.name, .slice Bn x.typ.names.length cB, .slice Bs x.typ.subs.length dB] 52) := ⟨_, rfl⟩;have B4 : Below wo.heap.size wo w4 := by rw [hw4]; exact below_new (Below.refl _ _) _
   have Y4 : w4.heap[wo.heap.size]? = some (.cells #[.string x.name, .int .i64 x.typ.kind, .string x.typ.pkg, .int .i64 x.typ.major, .string x.typ.mod, .string x.typ.name, .slice Bn x.typ.names.length cB, .slice Bs x.typ.subs.length dB] 52 (0, 0)) := by rw [hw4]; exact heap_alloc_new wo _
   have HB4 := hZ (below_over HB.out B4);have HT4 := hZ (hT.keep B4);have HW4 := hZ hw4;have hk0 : (0 : Int) <= k := by omega
   have hk1 : (k : Int) < n := by omega
   obtain ⟨q1, hq1⟩ : ∃ q, q = nameOk false x.name := ⟨_, rfl⟩;obtain ⟨q4, hq4⟩ : ∃ q, q = (mayT x.typ && plainT x.typ) := ⟨_, rfl⟩;have cN : ∀ dd os, Calls Tryz.prog 49 #[.string x.name] (Sort.grow (redrawn w4 dd) os) fun e w'' => e = .returned (.bool q1) /\ ∃ pp : Regrown, w'' = Sort.grow (redrawn w4 pp.d) pp.os := fun dd os => Calls.regrown_of (by rw [hq1]; exact small10_any x.name _ hs)
   have cP : ∀ dd os, Calls Tryz.prog 76 #[.agg #[.int .i64 x.typ.kind, .string x.typ.pkg, .int .i64 x.typ.major, .string x.typ.mod, .string x.typ.name, .slice Bn x.typ.names.length cB, .slice Bs x.typ.subs.length dB]] (Sort.grow (redrawn w4 dd) os) fun e w'' => e = .returned (.bool q4) /\ ∃ pp : Regrown, w'' = Sort.grow (redrawn w4 pp.d) pp.os := fun dd os => Calls.regrown_of (by
    rw [hq4]; exact plainK_any _ _ _ ⟨_, rfl, HT4.out.keep (below_regrown w4 dd os)⟩)
   have HQ1 := hZ hq1;have HQ4 := hZ hq4;obtain ⟨y0, y1, y2, y3, y4, y5, y6, y7⟩ := cq8 Y4;simp at y0 y1 y2 y3 y4 y5 y6 y7;clear hq1 hq4 Y4 hT hx hg hs B4 hw4;cases k with
   | zero =>
    simp at a0 a1 a2 a3 a4 a5 a6 a7;go_upto_region 4 with fail
    rw [<- HW4.out];clear HW4;cases q1 with
    | false =>
     have p0 := cell_regrown y0;have p1 := cell_regrown y1;have p2 := cell_regrown y2;have p3 := cell_regrown y3;have p4 := cell_regrown y4;have p5 := cell_regrown y5;have p6 := cell_regrown y6;have p7 := cell_regrown y7;clear y0 y1 y2 y3 y4 y5 y6 y7;refine wp_region_quiet_below (by kernel_rfl) (by kernel_rfl) ?_;repeat (any_goals (first | go_big_quiet_step (first | with_reducible exact cN _ _ | with_reducible exact cP _ _) | quiet_step (first | with_reducible exact cN _ _ | with_reducible exact cP _ _)))
     refine wpQuiet_nil ?_;intro w5 hw'
     have HB5 : Hid (Below w.heap.size w w5) := hZ (by
      obtain ⟨⟨dq, osq⟩, hw''⟩ := hw';rw [hw''];exact below_over HB4.out (below_regrown w4 dq osq))
     clear hw' cN cP p0 p1 p2 p3 p4 p5 p6 p7;have RES : V = false := by rw [HV.out]; exact rises_no (i := 0) (by have := HN.out; omega) (by rw [okAt_0 HX.out, <- HQ1.out, <- HQ4.out]; try simp)
     subst RES;go_wp2_with fail
     go_ret;exact ⟨rfl, HB5.out⟩
    | true =>
     cases q4 with
     | false =>
      have p0 := cell_regrown y0;have p1 := cell_regrown y1;have p2 := cell_regrown y2;have p3 := cell_regrown y3;have p4 := cell_regrown y4;have p5 := cell_regrown y5;have p6 := cell_regrown y6;have p7 := cell_regrown y7;clear y0 y1 y2 y3 y4 y5 y6 y7;refine wp_region_quiet_below (by kernel_rfl) (by kernel_rfl) ?_;repeat (any_goals (first | go_big_quiet_step (first | with_reducible exact cN _ _ | with_reducible exact cP _ _) | quiet_step (first | with_reducible exact cN _ _ | with_reducible exact cP _ _)))
      refine wpQuiet_nil ?_;intro w5 hw'
      have HB5 : Hid (Below w.heap.size w w5) := hZ (by
       obtain ⟨⟨dq, osq⟩, hw''⟩ := hw';rw [hw''];exact below_over HB4.out (below_regrown w4 dq osq))
      clear hw' cN cP p0 p1 p2 p3 p4 p5 p6 p7;have RES : V = false := by rw [HV.out]; exact rises_no (i := 0) (by have := HN.out; omega) (by rw [okAt_0 HX.out, <- HQ1.out, <- HQ4.out]; try simp)
      subst RES;go_wp2_with fail
      go_ret;exact ⟨rfl, HB5.out⟩
     | true =>
      have p0 := cell_regrown y0;have p1 := cell_regrown y1;have p2 := cell_regrown y2;have p3 := cell_regrown y3;have p4 := cell_regrown y4;have p5 := cell_regrown y5;have p6 := cell_regrown y6;have p7 := cell_regrown y7;clear y0 y1 y2 y3 y4 y5 y6 y7;refine wp_region_quiet_below (by kernel_rfl) (by kernel_rfl) ?_;repeat (any_goals (first | go_big_quiet_step (first | with_reducible exact cN _ _ | with_reducible exact cP _ _) | quiet_step (first | with_reducible exact cN _ _ | with_reducible exact cP _ _)))
      refine wpQuiet_nil ?_;intro w5 hw'
      have HB5 : Hid (Below w.heap.size w w5) := hZ (by
       obtain ⟨⟨dq, osq⟩, hw''⟩ := hw';rw [hw''];exact below_over HB4.out (below_regrown w4 dq osq))
      clear hw' cN cP p0 p1 p2 p3 p4 p5 p6 p7
      have NX : Hid (∀ i, i < 0 + 1 -> okAt false l i = true) := hZ (fun i hi => by
       rcases Nat.lt_or_ge i (0) with c | c
       ·exact HP.out i c
       ·obtain rfl : i = 0 := by omega
        rw [okAt_0 HX.out, <- HQ1.out, <- HQ4.out]; try simp)
      go_wp2_with fail
      go_roundw
      case rel => exact ⟨0 + 1, by omega, by go_num, NX, HB5⟩
      case measure => simp [intOf]; omega
   | succ k =>
    obtain ⟨y, hy⟩ : ∃ y, l[k]? = some y := ⟨_, List.getElem?_eq_getElem (by rw [<- HN.out]; omega)⟩;obtain ⟨g', o', Dn, cD, Ds, dD, e', hg', b0, -⟩ := (HR.out.below HB4.out).nm hy;cases e'
    have HY := hZ hy;obtain ⟨q3, hq3⟩ : ∃ q, Op.bytesLess y.name.toList x.name.toList = q := ⟨_, rfl⟩;have HQ3 : Hid (leS x.name y.name = !q3) := hZ (by rw [leS_eq, hq3]);have hp1 : ((k : Nat) : Int) + 1 - 1 = k := by omega
    have hp1' : (((k + 1 : Nat) : Int)) - 1 = k := by omega
    have hp0 : decide ((0 : Int) < ((k + 1 : Nat) : Int)) = true := by simp; try omega
    have hp0' : decide ((0 : Int) < (k : Int) + 1) = true := by simp; try omega
    have hkk0 : (0 : Int) <= (k : Int) := by omega
    have hkk1 : (k : Int) < n := by omega
    clear hy hg';go_upto_region 4 with fail
    rw [<- HW4.out];clear HW4;cases q1 with
    | false =>
     have p0 := cell_regrown y0;have p1 := cell_regrown y1;have p2 := cell_regrown y2;have p3 := cell_regrown y3;have p4 := cell_regrown y4;have p5 := cell_regrown y5;have p6 := cell_regrown y6;have p7 := cell_regrown y7;have r0 := cell_regrown b0;clear y0 y1 y2 y3 y4 y5 y6 y7 b0;refine wp_region_quiet_below (by kernel_rfl) (by kernel_rfl) ?_;repeat (any_goals (first | go_big_quiet_step (first | with_reducible exact cN _ _ | with_reducible exact cP _ _) | quiet_step (first | with_reducible exact cN _ _ | with_reducible exact cP _ _)))
     refine wpQuiet_nil ?_;intro w5 hw'
     have HB5 : Hid (Below w.heap.size w w5) := hZ (by
      obtain ⟨⟨dq, osq⟩, hw''⟩ := hw';rw [hw''];exact below_over HB4.out (below_regrown w4 dq osq))
     clear hw' cN cP p0 p1 p2 p3 p4 p5 p6 p7 r0;have RES : V = false := by rw [HV.out]; exact rises_no (i := k + 1) (by have := HN.out; omega) (by rw [okAt_s HX.out HY.out, <- HQ1.out, HQ3.out, <- HQ4.out]; try simp)
     subst RES;go_wp2_with fail
     go_ret;exact ⟨rfl, HB5.out⟩
    | true =>
     cases q3 with
     | false =>
      have p0 := cell_regrown y0;have p1 := cell_regrown y1;have p2 := cell_regrown y2;have p3 := cell_regrown y3;have p4 := cell_regrown y4;have p5 := cell_regrown y5;have p6 := cell_regrown y6;have p7 := cell_regrown y7;have r0 := cell_regrown b0;clear y0 y1 y2 y3 y4 y5 y6 y7 b0;refine wp_region_quiet_below (by kernel_rfl) (by kernel_rfl) ?_;repeat (any_goals (first | go_big_quiet_step (first | with_reducible exact cN _ _ | with_reducible exact cP _ _) | quiet_step (first | with_reducible exact cN _ _ | with_reducible exact cP _ _)))
      refine wpQuiet_nil ?_;intro w5 hw'
      have HB5 : Hid (Below w.heap.size w w5) := hZ (by
       obtain ⟨⟨dq, osq⟩, hw''⟩ := hw';rw [hw''];exact below_over HB4.out (below_regrown w4 dq osq))
      clear hw' cN cP p0 p1 p2 p3 p4 p5 p6 p7 r0;have RES : V = false := by rw [HV.out]; exact rises_no (i := k + 1) (by have := HN.out; omega) (by rw [okAt_s HX.out HY.out, <- HQ1.out, HQ3.out, <- HQ4.out]; try simp)
      subst RES;go_wp2_with fail
      go_ret;exact ⟨rfl, HB5.out⟩
     | true =>
      cases q4 with
      | false =>
       have p0 := cell_regrown y0;have p1 := cell_regrown y1;have p2 := cell_regrown y2;have p3 := cell_regrown y3;have p4 := cell_regrown y4;have p5 := cell_regrown y5;have p6 := cell_regrown y6;have p7 := cell_regrown y7;have r0 := cell_regrown b0;clear y0 y1 y2 y3 y4 y5 y6 y7 b0;refine wp_region_quiet_below (by kernel_rfl) (by kernel_rfl) ?_;repeat (any_goals (first | go_big_quiet_step (first | with_reducible exact cN _ _ | with_reducible exact cP _ _) | quiet_step (first | with_reducible exact cN _ _ | with_reducible exact cP _ _)))
       refine wpQuiet_nil ?_;intro w5 hw'
       have HB5 : Hid (Below w.heap.size w w5) := hZ (by
        obtain ⟨⟨dq, osq⟩, hw''⟩ := hw';rw [hw''];exact below_over HB4.out (below_regrown w4 dq osq))
       clear hw' cN cP p0 p1 p2 p3 p4 p5 p6 p7 r0;have RES : V = false := by rw [HV.out]; exact rises_no (i := k + 1) (by have := HN.out; omega) (by rw [okAt_s HX.out HY.out, <- HQ1.out, HQ3.out, <- HQ4.out]; try simp)
       subst RES;go_wp2_with fail
       go_ret;exact ⟨rfl, HB5.out⟩
      | true =>
       have p0 := cell_regrown y0;have p1 := cell_regrown y1;have p2 := cell_regrown y2;have p3 := cell_regrown y3;have p4 := cell_regrown y4;have p5 := cell_regrown y5;have p6 := cell_regrown y6;have p7 := cell_regrown y7;have r0 := cell_regrown b0;clear y0 y1 y2 y3 y4 y5 y6 y7 b0;refine wp_region_quiet_below (by kernel_rfl) (by kernel_rfl) ?_;repeat (any_goals (first | go_big_quiet_step (first | with_reducible exact cN _ _ | with_reducible exact cP _ _) | quiet_step (first | with_reducible exact cN _ _ | with_reducible exact cP _ _)))
       refine wpQuiet_nil ?_;intro w5 hw'
       have HB5 : Hid (Below w.heap.size w w5) := hZ (by
        obtain ⟨⟨dq, osq⟩, hw''⟩ := hw';rw [hw''];exact below_over HB4.out (below_regrown w4 dq osq))
       clear hw' cN cP p0 p1 p2 p3 p4 p5 p6 p7 r0
       have NX : Hid (∀ i, i < k + 1 + 1 -> okAt false l i = true) := hZ (fun i hi => by
        rcases Nat.lt_or_ge i (k + 1) with c | c
        ·exact HP.out i c
        ·obtain rfl : i = k + 1 := by omega
         rw [okAt_s HX.out HY.out, <- HQ1.out, HQ3.out, <- HQ4.out]; try simp)
       go_wp2_with fail
       go_roundw
       case rel => exact ⟨k + 1 + 1, by omega, by go_num, NX, HB5⟩
       case measure => simp [intOf]; omega
  ·have RV : V = true := by rw [HV.out]; exact rises_yes (fun i hi => HP.out i (by have := HN.out; omega))
   subst RV;go_wp2_with fail
   go_ret;exact ⟨rfl, HB.out⟩
end Go.Proofs.YtddlmigofilejaaGreat
