/-
  The walk of ExpandParts: whatever is handed in.
-/
import Derived.Test.YtkgmdbkcldojnaaGreatDoorJ25
import Derived.Test.YtkgmdbkcldojnaaGreatDoorJ05
namespace Go.Proofs.YtkgmdbkcldojnaaGreatDoor
open Go Go.RowKit Go.Shelf
open Go.Sort Go.Maps
open M

theorem code_err (v : Value) (c : Int) (w : World) (hv : v = errV c) (hc : c = 0 ∨ c = 1 ∨ c = 3 ∨ c = 4 ∨ c = 9) : Calls Tryz.prog 17 #[v] w fun ev w' => ev = .returned (.int .i64 c) ∧ Below w.heap.size w w' := by
  subst hv
  rcases hc with rfl | rfl | rfl | rfl | rfl
  · exact codeN_none w
  · exact codeN_code 1 (by decide) (by decide) w
  · exact codeN_code 3 (by decide) (by decide) w
  · exact codeN_code 4 (by decide) (by decide) w
  · exact codeN_code 9 (by decide) (by decide) w

set_option maxRecDepth 100000 in
set_option maxHeartbeats 16000000 in
theorem expandParts_any (m : Mo) (l : List Value) (pkg : ByteArray) (major : Int) (env : List If) (Ae : Option Addr) (ce : Nat) (t : Ty) (lt : List Value) (w : World) (hv : MoAt w l m) (hcap : CapsAt l m) (hpk : pkg.size ≤ 9223372036854775807) (hE : RowIn ifR w Ae env) (hel : env.length ≤ 9223372036854775807) (hT : TyAt w lt t) (hP : Pow w) (a : Int) (ha1 : -9223372036854775808 ≤ a) (ha2 : a ≤ 9223372036854775807) :
    Calls Tryz.prog 5 #[.agg l.toArray, .string pkg, .int .i64 major, .slice Ae env.length ce, .agg lt.toArray, .int .i64 a] w fun e w' => e = .returned (.bool true) ∧ Below w.heap.size w w' := by
  have HMo := Lib.hid hv
  have HT := Lib.hid hT
  have HE := Lib.hid hE
  have HP := Lib.hid hP
  have HCAP := Lib.hid hcap
  obtain ⟨Ai, ci, Ad, cd, rfl, -⟩ := hv
  obtain ⟨Bn, cB, Bs, dB, rfl, -⟩ := hT.parts
  obtain ⟨W2, hW2, B2, O0, O1, hl2⟩ := two_boxes w #[.string m.name, .slice Ai m.imps.length ci, .slice Ad m.decs.length cd] #[.int .i64 t.kind, .string t.pkg, .int .i64 t.major, .string t.mod, .string t.name, .slice Bn t.names.length cB, .slice Bs t.subs.length dB] 25 30
  have HB2 := Lib.hid B2
  have HX0 : Hid (∀ wx, Below W2.heap.size W2 wx → wx.heap[w.heap.size]? = some (.cells #[.string m.name, .slice Ai m.imps.length ci, .slice Ad m.decs.length cd] 25 (0, 0))) := Lib.hid (fun wx hb => (hb.block _ (by omega)).trans O0)
  have HX1 : Hid (∀ wx, Below W2.heap.size W2 wx → wx.heap[w.heap.size + 1]? = some (.cells #[.int .i64 t.kind, .string t.pkg, .int .i64 t.major, .string t.mod, .string t.name, .slice Bn t.names.length cB, .slice Bs t.subs.length dB] 30 (0, 0))) := Lib.hid (fun wx hb => (hb.block _ (by omega)).trans O1)
  have HMW : Hid (∀ wx, Below W2.heap.size W2 wx → MoAt wx [.string m.name, .slice Ai m.imps.length ci, .slice Ad m.decs.length cd] m) := Lib.hid (fun wx hb => HMo.out.below (below_over HB2.out hb))
  have HTW : Hid (∀ wx, Below W2.heap.size W2 wx → TyAt wx [.int .i64 t.kind, .string t.pkg, .int .i64 t.major, .string t.mod, .string t.name, .slice Bn t.names.length cB, .slice Bs t.subs.length dB] t) := Lib.hid (fun wx hb => HT.out.keep (below_over HB2.out hb))
  have HEW : Hid (∀ wx, Below W2.heap.size W2 wx → RowIn ifR wx Ae env) := Lib.hid (fun wx hb => HE.out.below (below_over HB2.out hb))
  have HL2 := Lib.hid hl2
  have HW := Lib.hid hW2
  clear hW2 B2 O0 O1 hl2 hT hE hP hcap
  go_enter Tryz.func5, Tryz.ntmps5
  go_upto_region 1 with fail
  rw [← HW.out]
  clear HW
  go_wp2_with fail
  refine (up8_any W2 (HP.out.on HB2.out)).mono ?_; rintro e w3 ⟨rfl, hb3⟩
  have HB3 := Lib.hid hb3
  clear hb3
  have X0 := HX0.out w3 HB3.out
  have x0 := Lib.cell_of_heap X0 0
  have x1 := Lib.cell_of_heap X0 1
  have x2 := Lib.cell_of_heap X0 2
  simp at x0 x1 x2
  clear X0
  obtain ⟨f6, hf6⟩ : ∃ b, b = fewM m := ⟨_, rfl⟩
  have C6 := Lib.hid (rfew6_any m _ w3 (HMW.out w3 HB3.out))
  rw [← hf6] at C6
  have HF6 := Lib.hid hf6
  clear hf6
  go_wp2_with fail
  refine C6.out.mono ?_; rintro e w4 ⟨rfl, hb4⟩
  have HB4 := Lib.hid (below_over HB3.out hb4)
  clear x0 x1 x2 hb4 C6
  have X1 := HX1.out w4 HB4.out
  have y0 := Lib.cell_of_heap X1 0
  have y1 := Lib.cell_of_heap X1 1
  have y2 := Lib.cell_of_heap X1 2
  have y3 := Lib.cell_of_heap X1 3
  have y4 := Lib.cell_of_heap X1 4
  have y5 := Lib.cell_of_heap X1 5
  have y6 := Lib.cell_of_heap X1 6
  simp at y0 y1 y2 y3 y4 y5 y6
  clear X1
  obtain ⟨f4, hf4⟩ : ∃ b, b = fewB t := ⟨_, rfl⟩
  have C4 := Lib.hid (fewB_any t (.agg #[.int .i64 t.kind, .string t.pkg, .int .i64 t.major, .string t.mod, .string t.name, .slice Bn t.names.length cB, .slice Bs t.subs.length dB]) w4 ⟨_, rfl, HTW.out w4 HB4.out⟩)
  rw [← hf4] at C4
  have HF4 := Lib.hid hf4
  clear hf4
  go_wp2_with fail
  refine C4.out.mono ?_; rintro e w5 ⟨rfl, hb5⟩
  have HB5 := Lib.hid (below_over HB4.out hb5)
  clear y0 y1 y2 y3 y4 y5 y6 hb5 C4
  obtain ⟨f8, hf8⟩ : ∃ b, b = fewE env := ⟨_, rfl⟩
  have C8 := Lib.hid (rfew8_any Ae ce env w5 (HEW.out w5 HB5.out) hel)
  rw [← hf8] at C8
  have HF8 := Lib.hid hf8
  clear hf8
  go_wp2_with fail
  refine C8.out.mono ?_; rintro e w6 ⟨rfl, hb6⟩
  have HB6 := Lib.hid (below_over HB5.out hb6)
  have RET6 : Hid (Below w.heap.size w w6) := Lib.hid (below_over HB2.out HB6.out)
  clear hb6 C8
  cases f6 with
  | false =>
    go_wp2_with fail
    go_ret
    exact ⟨rfl, RET6.out⟩
  | true =>
  cases f4 with
  | false =>
    go_wp2_with fail
    go_ret
    exact ⟨rfl, RET6.out⟩
  | true =>
  cases f8 with
  | false =>
    go_wp2_with fail
    go_ret
    exact ⟨rfl, RET6.out⟩
  | true =>
  by_cases hp5 : (500 : Int) < (pkg.size : Int)
  · go_wp2_with fail
    go_ret
    exact ⟨rfl, RET6.out⟩
  have hp5' : decide ((500 : Int) < (pkg.size : Int)) = false := decide_eq_false hp5
  have HM9 : Hid (∀ d ∈ m.decs, many d.typ ≤ 9000 ∧ shortT d.typ) := Lib.hid (few7 HF6.out.symm).2.2
  have hi100 := (few7 HF6.out.symm).1
  have hd100 := (few7 HF6.out.symm).2.1
  have ht3 := few_small HF4.out.symm
  have HDW : Hid (RowIn deR W2 Ad m.decs) := Lib.hid (by
    obtain ⟨A1, c1, A2, c2, e, -, -, -, -, h⟩ := HMW.out W2 (Below.refl _ _)
    simp at e
    rw [e.2.1]; exact h)
  have X0 := HX0.out w6 HB6.out
  have x0 := Lib.cell_of_heap X0 0
  have x1 := Lib.cell_of_heap X0 1
  have x2 := Lib.cell_of_heap X0 2
  simp at x0 x1 x2
  clear X0
  have CK := Lib.hid (check7_any m _ w6 (HMW.out w6 HB6.out) (fun d hd => (HM9.out d hd).1) HCAP.out)
  go_wp2_with fail
  clear hp5 hp5'
  refine CK.out.mono ?_; rintro e w7 ⟨hck, hb7⟩
  obtain ⟨v17, rfl, hv17⟩ : ∃ v17, e = .returned v17 ∧ ((v17 = .nilIface ∧ mayM m = true ∧ Ok7 m) ∨ ∃ T x, v17 = .iface T x) := by
    rcases ck_cases hck with ⟨rfl, hok⟩ | ⟨T, x, rfl, -⟩
    · exact ⟨_, rfl, .inl ⟨rfl, hok⟩⟩
    · exact ⟨_, rfl, .inr ⟨T, x, rfl⟩⟩
  have HCK := Lib.hid hv17
  have HB7 := Lib.hid (below_over HB6.out hb7)
  clear x0 x1 x2 hb7 hck hv17 CK
  have X0 := HX0.out w7 HB7.out
  have x0 := Lib.cell_of_heap X0 0
  have x1 := Lib.cell_of_heap X0 1
  have x2 := Lib.cell_of_heap X0 2
  simp at x0 x1 x2
  clear X0
  have X1 := HX1.out w7 HB7.out
  have y0 := Lib.cell_of_heap X1 0
  have y1 := Lib.cell_of_heap X1 1
  have y2 := Lib.cell_of_heap X1 2
  have y3 := Lib.cell_of_heap X1 3
  have y4 := Lib.cell_of_heap X1 4
  have y5 := Lib.cell_of_heap X1 5
  have y6 := Lib.cell_of_heap X1 6
  simp at y0 y1 y2 y3 y4 y5 y6
  clear X1
  have CE := Lib.hid (expand8_any m pkg major env Ai ci Ad cd Ae ce t _ w7 (HMW.out w7 HB7.out) HCAP.out hpk (HEW.out w7 HB7.out) hel (HTW.out w7 HB7.out) (fun d hd => (HM9.out d hd).1))
  go_wp2_with fail
  refine CE.out.mono ?_; rintro e w8 ⟨c1, u1, l1, hep1, rfl, hT1, hb8⟩
  have HEP1 := Lib.hid hep1
  have hT1 := hT1.free
  obtain ⟨Un, un, Us, us, rfl, -⟩ := hT1.parts
  obtain ⟨w9, hw9⟩ : ∃ w9, w9 = w8.alloc (.cells #[.int .i64 u1.kind, .string u1.pkg, .int .i64 u1.major, .string u1.mod, .string u1.name, .slice Un u1.names.length un, .slice Us u1.subs.length us] 30) := ⟨_, rfl⟩
  have B9 : Below w8.heap.size w8 w9 := by rw [hw9]; exact below_new (Below.refl _ _) _
  have Y9 : w9.heap[w8.heap.size]? = some (.cells #[.int .i64 u1.kind, .string u1.pkg, .int .i64 u1.major, .string u1.mod, .string u1.name, .slice Un u1.names.length un, .slice Us u1.subs.length us] 30 (0, 0)) := by rw [hw9]; exact heap_alloc_new w8 _
  have hl9 : w8.heap.size < w9.heap.size := by rw [hw9]; simp
  have HB9 : Hid (Below W2.heap.size W2 w9) := Lib.hid (below_over (below_over HB7.out hb8) B9)
  have HTU1 : Hid (∀ wx, Below w9.heap.size w9 wx → TyAt wx [.int .i64 u1.kind, .string u1.pkg, .int .i64 u1.major, .string u1.mod, .string u1.name, .slice Un u1.names.length un, .slice Us u1.subs.length us] u1) := Lib.hid (fun wx hb => (hT1.keep B9).keep hb)
  have HUX1 : Hid (∀ wx, Below w9.heap.size w9 wx → wx.heap[w8.heap.size]? = some (.cells #[.int .i64 u1.kind, .string u1.pkg, .int .i64 u1.major, .string u1.mod, .string u1.name, .slice Un u1.names.length un, .slice Us u1.subs.length us] 30 (0, 0))) := Lib.hid (fun wx hb => (hb.block _ hl9).trans Y9)
  have HW9 := Lib.hid hw9
  obtain ⟨e1, he1⟩ : ∃ e1, e1 = errV c1 := ⟨_, rfl⟩
  rw [← he1]
  have HE1 := Lib.hid he1
  clear x0 x1 x2 y0 y1 y2 y3 y4 y5 y6 hep1 hT1 hb8 B9 Y9 hl9 hw9 CE he1
  go_upto_region 9 with fail
  rw [← HW9.out]
  clear HW9
  have X0 := HX0.out w9 HB9.out
  have x0 := Lib.cell_of_heap X0 0
  have x1 := Lib.cell_of_heap X0 1
  have x2 := Lib.cell_of_heap X0 2
  simp at x0 x1 x2
  clear X0
  have X1 := HX1.out w9 HB9.out
  have y0 := Lib.cell_of_heap X1 0
  have y1 := Lib.cell_of_heap X1 1
  have y2 := Lib.cell_of_heap X1 2
  have y3 := Lib.cell_of_heap X1 3
  have y4 := Lib.cell_of_heap X1 4
  have y5 := Lib.cell_of_heap X1 5
  have y6 := Lib.cell_of_heap X1 6
  simp at y0 y1 y2 y3 y4 y5 y6
  clear X1
  obtain ⟨w10, hw10⟩ : ∃ w10, w10 = w9.alloc (.cells #[.int .i64 t.kind, .string t.pkg, .int .i64 t.major, .string t.mod, .string t.name, .slice Bn t.names.length cB, .slice Bs t.subs.length dB] 30) := ⟨_, rfl⟩
  have B10 : Below w9.heap.size w9 w10 := by rw [hw10]; exact below_new (Below.refl _ _) _
  have Y10 : w10.heap[w9.heap.size]? = some (.cells #[.int .i64 t.kind, .string t.pkg, .int .i64 t.major, .string t.mod, .string t.name, .slice Bn t.names.length cB, .slice Bs t.subs.length dB] 30 (0, 0)) := by rw [hw10]; exact heap_alloc_new w9 _
  have HB10 : Hid (Below W2.heap.size W2 w10) := Lib.hid (below_over HB9.out B10)
  have CE := Lib.hid (expand8_any m pkg major env Ai ci Ad cd Ae ce (liT t) [.int .i64 4, .string ⟨#[]⟩, .int .i64 0, .string ⟨#[]⟩, .string ⟨#[]⟩, .slice none 0 0, .slice (some ⟨w9.heap.size, 0, none⟩) 1 1] w10 (HMW.out w10 HB10.out) HCAP.out hpk (HEW.out w10 HB10.out) hel (li_at w10 w9.heap.size t _ (HTW.out w10 HB10.out) Y10) (fun d hd => (HM9.out d hd).1))
  have HW10 := Lib.hid hw10
  have HB910 := Lib.hid B10
  clear B10 Y10 hw10
  go_wp2_with fail
  rw [← HW10.out]
  refine CE.out.mono ?_; rintro e w11 ⟨c2, u2, l2, hep2, rfl, hT2, hb11⟩
  have HEP2 := Lib.hid hep2
  have hT2 := hT2.free
  obtain ⟨Vn, vn, Vs, vs, rfl, -⟩ := hT2.parts
  obtain ⟨w12, hw12⟩ : ∃ w12, w12 = w11.alloc (.cells #[.int .i64 u2.kind, .string u2.pkg, .int .i64 u2.major, .string u2.mod, .string u2.name, .slice Vn u2.names.length vn, .slice Vs u2.subs.length vs] 30) := ⟨_, rfl⟩
  have B12 : Below w11.heap.size w11 w12 := by rw [hw12]; exact below_new (Below.refl _ _) _
  have Y12 : w12.heap[w11.heap.size]? = some (.cells #[.int .i64 u2.kind, .string u2.pkg, .int .i64 u2.major, .string u2.mod, .string u2.name, .slice Vn u2.names.length vn, .slice Vs u2.subs.length vs] 30 (0, 0)) := by rw [hw12]; exact heap_alloc_new w11 _
  have hl12 : w11.heap.size < w12.heap.size := by rw [hw12]; simp
  have HB12 : Hid (Below w9.heap.size w9 w12) := Lib.hid (below_over (below_over HB910.out hb11) B12)
  have HTU2 : Hid (TyAt w12 [.int .i64 u2.kind, .string u2.pkg, .int .i64 u2.major, .string u2.mod, .string u2.name, .slice Vn u2.names.length vn, .slice Vs u2.subs.length vs] u2) := Lib.hid (hT2.keep B12)
  have HW12 := Lib.hid hw12
  have HY12 := Lib.hid Y12
  obtain ⟨e2, he2⟩ : ∃ e2, e2 = errV c2 := ⟨_, rfl⟩
  rw [← he2]
  have HE2 := Lib.hid he2
  have HBW : Hid (Below W2.heap.size W2 w12) := Lib.hid (below_over HB9.out HB12.out)
  clear x0 x1 x2 y0 y1 y2 y3 y4 y5 y6 hep2 hT2 hb11 B12 Y12 hl12 hw12 CE he2 HW10
  go_upto_region 10 with fail
  rw [← HW12.out]
  clear HW12
  by_cases hc2 : c2 = 0
  · subst hc2
    obtain ⟨hc1, rfl⟩ := ep_list HEP1.out HEP2.out
    subst hc1
    obtain rfl : e1 = .nilIface := HE1.out.trans errV_zero
    obtain rfl : e2 = .nilIface := HE2.out.trans errV_zero
    have X0 := HUX1.out w12 HB12.out
    have X1 := HY12.out
    have x0 := Lib.cell_of_heap X0 0
    have x1 := Lib.cell_of_heap X0 1
    have x2 := Lib.cell_of_heap X0 2
    have x3 := Lib.cell_of_heap X0 3
    have x4 := Lib.cell_of_heap X0 4
    have x5 := Lib.cell_of_heap X0 5
    have x6 := Lib.cell_of_heap X0 6
    have z0 := Lib.cell_of_heap X1 0
    have z1 := Lib.cell_of_heap X1 1
    have z2 := Lib.cell_of_heap X1 2
    have z3 := Lib.cell_of_heap X1 3
    have z4 := Lib.cell_of_heap X1 4
    have z5 := Lib.cell_of_heap X1 5
    have z6 := Lib.cell_of_heap X1 6
    simp at x0 x1 x2 x3 x4 x5 x6 z0 z1 z2 z3 z4 z5 z6
    clear X0 X1
    obtain ⟨w13, hw13⟩ : ∃ w13, w13 = w12.alloc (.cells #[.int .i64 u1.kind, .string u1.pkg, .int .i64 u1.major, .string u1.mod, .string u1.name, .slice Un u1.names.length un, .slice Us u1.subs.length us] 30) := ⟨_, rfl⟩
    have B13 : Below w12.heap.size w12 w13 := by rw [hw13]; exact below_new (Below.refl _ _) _
    have Y13 : w13.heap[w12.heap.size]? = some (.cells #[.int .i64 u1.kind, .string u1.pkg, .int .i64 u1.major, .string u1.mod, .string u1.name, .slice Un u1.names.length un, .slice Us u1.subs.length us] 30 (0, 0)) := by rw [hw13]; exact heap_alloc_new w12 _
    have HB13 := Lib.hid B13
    have HW13 := Lib.hid hw13
    have CS := Lib.hid (same_any (many (liT u1)) (liT u1) (liT u1) (Nat.le_refl _) (.agg #[.int .i64 (liT u1).kind, .string (liT u1).pkg, .int .i64 (liT u1).major, .string (liT u1).mod, .string (liT u1).name, .slice Vn (liT u1).names.length vn, .slice Vs (liT u1).subs.length vs]) (.agg #[.int .i64 4, .string ⟨#[]⟩, .int .i64 0, .string ⟨#[]⟩, .string ⟨#[]⟩, .slice none 0 0, .slice (some ⟨w12.heap.size, 0, none⟩) 1 1]) w13 ⟨_, rfl, HTU2.out.keep B13⟩ ⟨_, rfl, li_at w13 w12.heap.size u1 _ (HTU1.out w13 (below_over HB12.out B13)) Y13⟩)
    rw [(sameT_iff (liT u1) (liT u1)).2 rfl] at CS
    clear B13 Y13 hw13
    go_wp2_with fail
    rw [← HW13.out]
    refine CS.out.mono ?_; rintro e wt ⟨rfl, hbt⟩
    have HBT : Hid (Below W2.heap.size W2 wt) := Lib.hid (below_over HBW.out (below_over HB13.out hbt))
    clear x0 x1 x2 x3 x4 x5 x6 z0 z1 z2 z3 z4 z5 z6 hbt CS HW13
    go_upto_region 12 with fail
    rcases HCK.out with ⟨rfl, hok⟩ | ⟨T17, x17, rfl⟩
    · have HOK := Lib.hid hok
      clear hok
      have X0 := HX0.out wt HBT.out
      have x0 := Lib.cell_of_heap X0 0
      have x1 := Lib.cell_of_heap X0 1
      have x2 := Lib.cell_of_heap X0 2
      simp at x0 x1 x2
      clear X0
      by_cases hne : m.decs.length = 0
      · have he0 : ((m.decs.length : Int) == 0) = true := by rw [hne]; rfl
        clear hne
        go_wp2_with fail
        go_ret
        exact ⟨rfl, below_over HB2.out HBT.out⟩
      · have he0 : ((m.decs.length : Int) == 0) = false := by rw [beq_eq_false_iff_ne, ne_eq]; omega
        go_upto_region 14 with fail
        clear he0
        by_cases ha : a < 0
        · obtain ⟨z, hz⟩ : ∃ z : Nat, -(a + 1) = (z : Int) := ⟨(-(a + 1)).toNat, by omega⟩
          have hw1 : IntKind.i64.wrap (a + 1) = a + 1 := IntWalk.i64_in _ (by omega)
          have hw2 : IntKind.i64.wrap (-(a + 1)) = (z : Int) := by rw [hz]; exact IntWalk.i64_in _ (by omega)
          go_upto_region 16 with fail
          clear hw1 hw2 ha
          obtain ⟨k, hk⟩ : ∃ k, z % m.decs.length = k := ⟨_, rfl⟩
          have hkn : k < m.decs.length := by rw [← hk]; exact Nat.mod_lt _ (by omega)
          obtain ⟨d, hd⟩ : ∃ d, m.decs[k]? = some d := ⟨_, List.getElem?_eq_getElem hkn⟩
          have hrem : (z : Int).tmod (m.decs.length : Int) = (k : Int) := by rw [← Int.ofNat_tmod, hk]
          have hn0 : ¬ m.decs.length = 0 := hne
          have hn1 : ¬ m.decs = [] := fun h => hne (by rw [h]; rfl)
          have hk0 : (0 : Int) ≤ k := by omega
          have hk1 : (k : Int) < m.decs.length := by omega
          obtain ⟨g, o, v0, v1, v2, v3, v4, v5, v6, rfl, hg, b0, b1, b2, b3, b4, b5, b6, b7, b8, hTd, zd⟩ := HDW.out.de hd
          obtain ⟨Cn, cC, Cs, dC, ev, -⟩ := hTd.parts
          simp only [List.cons.injEq, and_true] at ev
          obtain ⟨rfl, rfl, rfl, rfl, rfl, rfl, rfl⟩ := ev
          have hgt : g < wt.heap.size := Nat.lt_of_lt_of_le hg HBT.out.size
          have KEEP : Hid (∀ wx, Below wt.heap.size wt wx → wx.cell? ⟨w.heap.size, 2, none⟩ = some (.slice (some ⟨g, o, none⟩) m.decs.length cd) ∧ wx.cell? ⟨g, o + k * 9, none⟩ = some (.int .i64 d.kind) ∧ wx.cell? ⟨g, o + k * 9 + 1, none⟩ = some (.string d.name) ∧ wx.cell? ⟨g, o + k * 9 + 2, none⟩ = some (.int .i64 d.typ.kind) ∧ wx.cell? ⟨g, o + k * 9 + 2 + 1, none⟩ = some (.string d.typ.pkg) ∧ wx.cell? ⟨g, o + k * 9 + 2 + 2, none⟩ = some (.int .i64 d.typ.major) ∧ wx.cell? ⟨g, o + k * 9 + 2 + 3, none⟩ = some (.string d.typ.mod) ∧ wx.cell? ⟨g, o + k * 9 + 2 + 4, none⟩ = some (.string d.typ.name) ∧ wx.cell? ⟨g, o + k * 9 + 2 + 5, none⟩ = some (.slice Cn d.typ.names.length cC) ∧ wx.cell? ⟨g, o + k * 9 + 2 + 6, none⟩ = some (.slice Cs d.typ.subs.length dC)) := Lib.hid (fun wx hb => by
            have hB := below_over HBT.out hb
            have cc := fun q v (hv : W2.cell? ⟨g, q, none⟩ = some v) => (hB.cell (p := ⟨g, q, none⟩) hg).trans hv
            exact ⟨by have := Lib.cell_of_heap (HX0.out wx hB) 2; simpa using this, cc _ _ b0, cc _ _ b1, cc _ _ b2, cc _ _ b3, cc _ _ b4, cc _ _ b5, cc _ _ b6, cc _ _ b7, cc _ _ b8⟩)
          have HTD : Hid (∀ wx, Below W2.heap.size W2 wx → TyAt wx [.int .i64 d.typ.kind, .string d.typ.pkg, .int .i64 d.typ.major, .string d.typ.mod, .string d.typ.name, .slice Cn d.typ.names.length cC, .slice Cs d.typ.subs.length dC] d.typ) := Lib.hid (fun wx hb => hTd.keep hb)
          have HD0 := Lib.hid hd
          have HX9 : Hid ((#[.int .i64 d.kind, .string d.name, .int .i64 d.typ.kind, .string d.typ.pkg, .int .i64 d.typ.major, .string d.typ.mod, .string d.typ.name, .slice Cn d.typ.names.length cC, .slice Cs d.typ.subs.length dC] : Array Value).all (·.oneCell') = true) := Lib.hid (Array.all_eq_true_iff_forall_mem.2 (fun v hv => by simp at hv; rcases hv with rfl | rfl | rfl | rfl | rfl | rfl | rfl | rfl | rfl <;> rfl))
          clear b0 b1 b2 b3 b4 b5 b6 b7 b8 hTd hd x0 x1 x2
          have hH0 := KEEP.out wt.drew (Below.drew (Below.refl _ _))
          refine AnyX.start (fun wx => wx.cell? ⟨w.heap.size, 2, none⟩ = some (.slice (some ⟨g, o, none⟩) m.decs.length cd) ∧ wx.cell? ⟨g, o + k * 9, none⟩ = some (.int .i64 d.kind) ∧ wx.cell? ⟨g, o + k * 9 + 1, none⟩ = some (.string d.name) ∧ wx.cell? ⟨g, o + k * 9 + 2, none⟩ = some (.int .i64 d.typ.kind) ∧ wx.cell? ⟨g, o + k * 9 + 2 + 1, none⟩ = some (.string d.typ.pkg) ∧ wx.cell? ⟨g, o + k * 9 + 2 + 2, none⟩ = some (.int .i64 d.typ.major) ∧ wx.cell? ⟨g, o + k * 9 + 2 + 3, none⟩ = some (.string d.typ.mod) ∧ wx.cell? ⟨g, o + k * 9 + 2 + 4, none⟩ = some (.string d.typ.name) ∧ wx.cell? ⟨g, o + k * 9 + 2 + 5, none⟩ = some (.slice Cn d.typ.names.length cC) ∧ wx.cell? ⟨g, o + k * 9 + 2 + 6, none⟩ = some (.slice Cs d.typ.subs.length dC)) (fun _ => false) (by kernel_rfl) ?_
          refine AnyX.move (i := 0) (v := ?_) rfl (by kernel_rfl) (by kernel_rfl) (by kernel_rfl) (by kernel_rfl) (fun _ _ _ h => h) (Or.inl ⟨by rfl, ?_⟩) ?_
          rotate_left
          · (intro wS _; go_simp; try with_reducible rfl)
          simp only [List.getElem_toArray, List.getElem_cons_succ, List.getElem_cons_zero]
          simp only [Act.put, List.setIfInBounds_toArray]
          simp only [List.set_cons_zero, List.set_cons_succ]
          refine AnyX.take (i := 1) (v := ?_) rfl (by kernel_rfl) (by kernel_rfl) (by kernel_rfl) (by kernel_rfl) (by kernel_rfl) (fun _ _ _ h => h) hH0 (Or.inl ⟨by rfl, ?_⟩) ?_
          rotate_left
          · (intro wS hS; (try obtain ⟨s2, q0, q1, q2, q3, q4, q5, q6, q7, q8⟩ := hS); go_simp; try with_reducible rfl)
          simp only [List.getElem_toArray, List.getElem_cons_succ, List.getElem_cons_zero]
          simp only [Act.put, List.setIfInBounds_toArray]
          simp only [List.set_cons_zero, List.set_cons_succ]
          refine AnyX.move (i := 2) (v := ?_) rfl (by kernel_rfl) (by kernel_rfl) (by kernel_rfl) (by kernel_rfl) (fun _ _ _ h => h) (Or.inl ⟨by rfl, ?_⟩) ?_
          rotate_left
          · (intro wS _; go_simp; try with_reducible rfl)
          simp only [List.getElem_toArray, List.getElem_cons_succ, List.getElem_cons_zero]
          simp only [Act.put, List.setIfInBounds_toArray]
          simp only [List.set_cons_zero, List.set_cons_succ]
          refine AnyX.move (i := 3) (v := ?_) rfl (by kernel_rfl) (by kernel_rfl) (by kernel_rfl) (by kernel_rfl) (fun _ _ _ h => h) (Or.inl ⟨by rfl, ?_⟩) ?_
          rotate_left
          · (intro wS _; go_simp; try with_reducible rfl)
          simp only [List.getElem_toArray, List.getElem_cons_succ, List.getElem_cons_zero]
          simp only [Act.put, List.setIfInBounds_toArray]
          simp only [List.set_cons_zero, List.set_cons_succ]
          refine AnyX.take (i := 4) (v := ?_) rfl (by kernel_rfl) (by kernel_rfl) (by kernel_rfl) (by kernel_rfl) (by kernel_rfl) (fun _ _ _ h => h) hH0 (Or.inl ⟨by rfl, ?_⟩) ?_
          rotate_left
          · (intro wS hS; (try obtain ⟨s2, q0, q1, q2, q3, q4, q5, q6, q7, q8⟩ := hS); go_simp; try with_reducible rfl)
          simp only [List.getElem_toArray, List.getElem_cons_succ, List.getElem_cons_zero]
          simp only [Act.put, List.setIfInBounds_toArray]
          simp only [List.set_cons_zero, List.set_cons_succ]
          refine AnyX.move (i := 5) (v := ?_) rfl (by kernel_rfl) (by kernel_rfl) (by kernel_rfl) (by kernel_rfl) (fun _ _ _ h => h) (Or.inl ⟨by rfl, ?_⟩) ?_
          rotate_left
          · (intro wS _; go_simp; try with_reducible rfl)
          simp only [List.getElem_toArray, List.getElem_cons_succ, List.getElem_cons_zero]
          simp only [Act.put, List.setIfInBounds_toArray]
          simp only [List.set_cons_zero, List.set_cons_succ]
          refine AnyX.move (i := 6) (v := ?_) rfl (by kernel_rfl) (by kernel_rfl) (by kernel_rfl) (by kernel_rfl) (fun _ _ _ h => h) (Or.inl ⟨by rfl, ?_⟩) ?_
          rotate_left
          · (intro wS _; go_simp; try with_reducible rfl)
          simp only [List.getElem_toArray, List.getElem_cons_succ, List.getElem_cons_zero]
          simp only [Act.put, List.setIfInBounds_toArray]
          simp only [List.set_cons_zero, List.set_cons_succ]
          refine AnyX.move (i := 7) (v := ?_) rfl (by kernel_rfl) (by kernel_rfl) (by kernel_rfl) (by kernel_rfl) (fun _ _ _ h => h) (Or.inl ⟨by rfl, ?_⟩) ?_
          rotate_left
          · (intro wS _; go_simp; try with_reducible rfl)
          simp only [List.getElem_toArray, List.getElem_cons_succ, List.getElem_cons_zero]
          simp only [Act.put, List.setIfInBounds_toArray]
          simp only [List.set_cons_zero, List.set_cons_succ]
          refine AnyX.take (i := 8) (v := ?_) rfl (by kernel_rfl) (by kernel_rfl) (by kernel_rfl) (by kernel_rfl) (by kernel_rfl) (fun _ _ _ h => h) hH0 (Or.inl ⟨by rfl, ?_⟩) ?_
          rotate_left
          · (intro wS hS; (try obtain ⟨s2, q0, q1, q2, q3, q4, q5, q6, q7, q8⟩ := hS); go_simp; try with_reducible rfl)
          simp only [List.getElem_toArray, List.getElem_cons_succ, List.getElem_cons_zero]
          simp only [Act.put, List.setIfInBounds_toArray]
          simp only [List.set_cons_zero, List.set_cons_succ]
          refine AnyX.go 9 (by kernel_rfl) rfl rfl (fun K hK => ?_)
          simp only [List.getElem_toArray, List.getElem_cons_succ, List.getElem_cons_zero]
          go_simp
          refine hK.out _ _ (fun hoff _ => KEEP.out _ (below_new (Below.drew (Below.refl _ _)) _)) ?_
          clear hK
          try simp only [Act.put, List.setIfInBounds_toArray]
          try simp only [List.set_cons_zero, List.set_cons_succ]
          have X9 : (wt.alloc (.cells #[.int .i64 0, .string ⟨#[]⟩, .int .i64 0, .string ⟨#[]⟩, .int .i64 0, .string ⟨#[]⟩, .string ⟨#[]⟩, .slice none 0 0, .slice none 0 0] 63)).drew.heap[wt.heap.size]? = some (.cells #[.int .i64 0, .string ⟨#[]⟩, .int .i64 0, .string ⟨#[]⟩, .int .i64 0, .string ⟨#[]⟩, .string ⟨#[]⟩, .slice none 0 0, .slice none 0 0] 63 (0, 0)) := heap_alloc_new wt _
          refine AnyX.go 10 (by kernel_rfl) rfl rfl (fun K hK => ?_)
          simp only [List.getElem_toArray, List.getElem_cons_succ, List.getElem_cons_zero]
          refine wp_store_row 63 (.tmp 22) (.tmp 116) rfl wt.heap.size #[.int .i64 d.kind, .string d.name, .int .i64 d.typ.kind, .string d.typ.pkg, .int .i64 d.typ.major, .string d.typ.mod, .string d.typ.name, .slice Cn d.typ.names.length cC, .slice Cs d.typ.subs.length dC] rfl rfl _ _ X9 decSize rfl HX9.out ?_
          obtain ⟨w15, hw15⟩ : ∃ w15, w15 = (wt.alloc (.cells #[.int .i64 0, .string ⟨#[]⟩, .int .i64 0, .string ⟨#[]⟩, .int .i64 0, .string ⟨#[]⟩, .string ⟨#[]⟩, .slice none 0 0, .slice none 0 0] 63)).drew.setRow wt.heap.size #[.int .i64 d.kind, .string d.name, .int .i64 d.typ.kind, .string d.typ.pkg, .int .i64 d.typ.major, .string d.typ.mod, .string d.typ.name, .slice Cn d.typ.names.length cC, .slice Cs d.typ.subs.length dC] := ⟨_, rfl⟩
          have B15 : Below wt.heap.size wt w15 := by rw [hw15]; exact setRow_below (w := wt) (Below.drew (below_new (Below.refl _ _) _)) (Nat.le_refl _) _
          have Y15 : w15.heap[wt.heap.size]? = some (.cells #[.int .i64 d.kind, .string d.name, .int .i64 d.typ.kind, .string d.typ.pkg, .int .i64 d.typ.major, .string d.typ.mod, .string d.typ.name, .slice Cn d.typ.names.length cC, .slice Cs d.typ.subs.length dC] 63 (0, 0)) := by rw [hw15]; exact setRow_heap _ _ _ _ _ _ X9
          have hl15 : wt.heap.size < w15.heap.size := by rw [hw15]; simp
          have HB15 : Hid (Below W2.heap.size W2 w15) := Lib.hid (below_over HBT.out B15)
          have HDX : Hid (∀ wx, Below w15.heap.size w15 wx → wx.heap[wt.heap.size]? = some (.cells #[.int .i64 d.kind, .string d.name, .int .i64 d.typ.kind, .string d.typ.pkg, .int .i64 d.typ.major, .string d.typ.mod, .string d.typ.name, .slice Cn d.typ.names.length cC, .slice Cs d.typ.subs.length dC] 63 (0, 0))) := Lib.hid (fun wx hb => (hb.block _ hl15).trans Y15)
          have HW15 := Lib.hid hw15
          have hH15 := KEEP.out w15 B15
          rw [← HW15.out]
          clear hw15 X9 Y15 hl15 HW15
          refine hK.out _ _ (fun hoff _ => hH15) ?_
          clear hK
          try simp only [Act.put, List.setIfInBounds_toArray]
          try simp only [List.set_cons_zero, List.set_cons_succ]
          refine AnyX.done (by kernel_rfl) ?_ _
          clear hH0 hH15 hrem hn0 hn1 B15
          have X0 := HDX.out w15 (Below.refl _ _)
          have y0 := Lib.cell_of_heap X0 0
          simp at y0
          clear X0
          by_cases h3 : d.kind = 3
          · have q3 : (d.kind == 3) = true := by rw [h3]; rfl
            have H3 := Lib.hid h3
            clear h3
            go_upto_region 19 with fail
            clear q3 y0
            have X0 := HX0.out w15 HB15.out
            have x0 := Lib.cell_of_heap X0 0
            have x1 := Lib.cell_of_heap X0 1
            have x2 := Lib.cell_of_heap X0 2
            simp at x0 x1 x2
            clear X0
            have X0 := HDX.out w15 (Below.refl _ _)
            have y2 := Lib.cell_of_heap X0 2
            have y3 := Lib.cell_of_heap X0 3
            have y4 := Lib.cell_of_heap X0 4
            have y5 := Lib.cell_of_heap X0 5
            have y6 := Lib.cell_of_heap X0 6
            have y7 := Lib.cell_of_heap X0 7
            have y8 := Lib.cell_of_heap X0 8
            simp at y2 y3 y4 y5 y6 y7 y8
            clear X0
            have CE := Lib.hid (expand8_any m pkg major env Ai ci _ cd Ae ce d.typ _ w15 (HMW.out w15 HB15.out) HCAP.out hpk (HEW.out w15 HB15.out) hel (HTD.out w15 HB15.out) (fun d hd => (HM9.out d hd).1))
            go_wp2_with fail
            refine CE.out.mono ?_; rintro e w16 ⟨c3, u3, l3, hep3, rfl, hT3, hb16⟩
            have HEP3 := Lib.hid hep3
            have hT3 := hT3.free
            obtain ⟨Un, un, Us, us, rfl, -⟩ := hT3.parts
            obtain ⟨w17, hw17⟩ : ∃ w17, w17 = w16.alloc (.cells #[.int .i64 u3.kind, .string u3.pkg, .int .i64 u3.major, .string u3.mod, .string u3.name, .slice Un u3.names.length un, .slice Us u3.subs.length us] 30) := ⟨_, rfl⟩
            have B17 : Below w16.heap.size w16 w17 := by rw [hw17]; exact below_new (Below.refl _ _) _
            have Y17 : w17.heap[w16.heap.size]? = some (.cells #[.int .i64 u3.kind, .string u3.pkg, .int .i64 u3.major, .string u3.mod, .string u3.name, .slice Un u3.names.length un, .slice Us u3.subs.length us] 30 (0, 0)) := by rw [hw17]; exact heap_alloc_new w16 _
            have hl17 : w16.heap.size < w17.heap.size := by rw [hw17]; simp
            have HB17 : Hid (Below w15.heap.size w15 w17) := Lib.hid (below_over hb16 B17)
            have HTU : Hid (∀ wx, Below w17.heap.size w17 wx → TyAt wx [.int .i64 u3.kind, .string u3.pkg, .int .i64 u3.major, .string u3.mod, .string u3.name, .slice Un u3.names.length un, .slice Us u3.subs.length us] u3) := Lib.hid (fun wx hb => (hT3.keep B17).keep hb)
            have HUX : Hid (∀ wx, Below w17.heap.size w17 wx → wx.heap[w16.heap.size]? = some (.cells #[.int .i64 u3.kind, .string u3.pkg, .int .i64 u3.major, .string u3.mod, .string u3.name, .slice Un u3.names.length un, .slice Us u3.subs.length us] 30 (0, 0))) := Lib.hid (fun wx hb => (hb.block _ hl17).trans Y17)
            have HW17 := Lib.hid hw17
            have HBV : Hid (Below W2.heap.size W2 w17) := Lib.hid (below_over HB15.out HB17.out)
            obtain ⟨e3, he3⟩ : ∃ e3, e3 = errV c3 := ⟨_, rfl⟩
            rw [← he3]
            have HE3 := Lib.hid he3
            clear x0 x1 x2 y2 y3 y4 y5 y6 y7 y8 hep3 hT3 hb16 B17 Y17 hl17 hw17 CE he3
            go_upto_region 20 with fail
            rw [← HW17.out]
            clear HW17
            have X0 := HX0.out w17 HBV.out
            have x0 := Lib.cell_of_heap X0 0
            have x1 := Lib.cell_of_heap X0 1
            have x2 := Lib.cell_of_heap X0 2
            simp at x0 x1 x2
            clear X0
            have X0 := HDX.out w17 HB17.out
            have y1 := Lib.cell_of_heap X0 1
            simp at y1
            clear X0
            have CE := Lib.hid (expand8_any m pkg major env Ai ci _ cd Ae ce (locA d.name) [.int .i64 8, .string ⟨#[]⟩, .int .i64 0, .string ⟨#[]⟩, .string d.name, .slice none 0 0, .slice none 0 0] w17 (HMW.out w17 HBV.out) HCAP.out hpk (HEW.out w17 HBV.out) hel
              (.mk 8 ⟨#[]⟩ 0 ⟨#[]⟩ d.name [] [] none 0 none 0 (fun _ => [.int .i64 0, .string ⟨#[]⟩, .int .i64 0, .string ⟨#[]⟩, .string ⟨#[]⟩, .slice none 0 0, .slice none 0 0]) (by decide) (by decide) zd (by decide) (by decide) (by decide) (fun i s h => by simp at h) (fun _ => rfl) (fun i t h => by simp at h) (fun i t h => by simp at h)) (fun d hd => (HM9.out d hd).1))
            go_wp2_with fail
            refine CE.out.mono ?_; rintro e w18 ⟨c4, u4, l4, hep4, rfl, hT4, hb18⟩
            obtain ⟨rfl, rfl⟩ := ep_alias HOK.out.1 HOK.out.2 HD0.out H3.out HEP3.out hep4
            have hT4 := hT4.free
            obtain ⟨Vn, vn, Vs, vs, rfl, -⟩ := hT4.parts
            obtain ⟨w19, hw19⟩ : ∃ w19, w19 = w18.alloc (.cells #[.int .i64 u3.kind, .string u3.pkg, .int .i64 u3.major, .string u3.mod, .string u3.name, .slice Vn u3.names.length vn, .slice Vs u3.subs.length vs] 30) := ⟨_, rfl⟩
            have B19 : Below w18.heap.size w18 w19 := by rw [hw19]; exact below_new (Below.refl _ _) _
            have Y19 : w19.heap[w18.heap.size]? = some (.cells #[.int .i64 u3.kind, .string u3.pkg, .int .i64 u3.major, .string u3.mod, .string u3.name, .slice Vn u3.names.length vn, .slice Vs u3.subs.length vs] 30 (0, 0)) := by rw [hw19]; exact heap_alloc_new w18 _
            have hl19 : w18.heap.size < w19.heap.size := by rw [hw19]; simp
            have HB19 : Hid (Below w17.heap.size w17 w19) := Lib.hid (below_over hb18 B19)
            have HTV : Hid (∀ wx, Below w19.heap.size w19 wx → TyAt wx [.int .i64 u3.kind, .string u3.pkg, .int .i64 u3.major, .string u3.mod, .string u3.name, .slice Vn u3.names.length vn, .slice Vs u3.subs.length vs] u3) := Lib.hid (fun wx hb => (hT4.keep B19).keep hb)
            have HVX : Hid (∀ wx, Below w19.heap.size w19 wx → wx.heap[w18.heap.size]? = some (.cells #[.int .i64 u3.kind, .string u3.pkg, .int .i64 u3.major, .string u3.mod, .string u3.name, .slice Vn u3.names.length vn, .slice Vs u3.subs.length vs] 30 (0, 0))) := Lib.hid (fun wx hb => (hb.block _ hl19).trans Y19)
            have HW19 := Lib.hid hw19
            rw [← HE3.out]
            have CC := Lib.hid (fun wx => code_err e3 c3 wx HE3.out (ep_code HEP3.out).1)
            clear x0 x1 x2 y1 hep4 hT4 hb18 B19 Y19 hl19 hw19 CE
            go_upto_region 21 with fail
            rw [← HW19.out]
            clear HW19
            go_wp2_with fail
            refine (CC.out _).mono ?_; rintro e w20 ⟨rfl, hb20⟩
            have HB20 := Lib.hid hb20
            clear hb20
            go_wp2_with fail
            refine (CC.out _).mono ?_; rintro e w21 ⟨rfl, hb21⟩
            have HB21 := Lib.hid (below_over HB20.out hb21)
            clear hb21
            have X0 := HUX.out w21 (below_over HB19.out HB21.out)
            have X1 := HVX.out w21 HB21.out
            have x0 := Lib.cell_of_heap X0 0
            have x1 := Lib.cell_of_heap X0 1
            have x2 := Lib.cell_of_heap X0 2
            have x3 := Lib.cell_of_heap X0 3
            have x4 := Lib.cell_of_heap X0 4
            have x5 := Lib.cell_of_heap X0 5
            have x6 := Lib.cell_of_heap X0 6
            have z0 := Lib.cell_of_heap X1 0
            have z1 := Lib.cell_of_heap X1 1
            have z2 := Lib.cell_of_heap X1 2
            have z3 := Lib.cell_of_heap X1 3
            have z4 := Lib.cell_of_heap X1 4
            have z5 := Lib.cell_of_heap X1 5
            have z6 := Lib.cell_of_heap X1 6
            simp at x0 x1 x2 x3 x4 x5 x6 z0 z1 z2 z3 z4 z5 z6
            clear X0 X1
            have CS := Lib.hid (same_any (many u3) u3 u3 (Nat.le_refl _) (.agg #[.int .i64 u3.kind, .string u3.pkg, .int .i64 u3.major, .string u3.mod, .string u3.name, .slice Un u3.names.length un, .slice Us u3.subs.length us]) (.agg #[.int .i64 u3.kind, .string u3.pkg, .int .i64 u3.major, .string u3.mod, .string u3.name, .slice Vn u3.names.length vn, .slice Vs u3.subs.length vs]) w21 ⟨_, rfl, HTU.out w21 (below_over HB19.out HB21.out)⟩ ⟨_, rfl, HTV.out w21 HB21.out⟩)
            rw [(sameT_iff u3 u3).2 rfl] at CS
            go_wp2_with fail
            refine CS.out.mono ?_; rintro e w22 ⟨rfl, hb22⟩
            have FIN := Lib.hid (below_over HB2.out (below_over HBV.out (below_over HB19.out (below_over HB21.out hb22))))
            clear x0 x1 x2 x3 x4 x5 x6 z0 z1 z2 z3 z4 z5 z6 hb22 CS
            go_wp2_with fail
            go_ret
            exact ⟨rfl, FIN.out⟩
          · have q3 : (d.kind == 3) = false := by simpa using h3
            have q4 : ¬ d.kind = 3 := h3
            clear h3
            go_wp2_with fail
            go_ret
            exact ⟨rfl, below_over HB2.out HB15.out⟩
        · have ha0 : ¬ a < 0 := ha
          have ha0' : decide (a < 0) = false := decide_eq_false ha
          obtain ⟨z, rfl⟩ : ∃ z : Nat, a = (z : Int) := ⟨a.toNat, by omega⟩
          have AZ : True := trivial
          clear ha
          go_upto_region 16 with fail
          clear ha0 ha0' 
          obtain ⟨k, hk⟩ : ∃ k, z % m.decs.length = k := ⟨_, rfl⟩
          have hkn : k < m.decs.length := by rw [← hk]; exact Nat.mod_lt _ (by omega)
          obtain ⟨d, hd⟩ : ∃ d, m.decs[k]? = some d := ⟨_, List.getElem?_eq_getElem hkn⟩
          have hrem : (z : Int).tmod (m.decs.length : Int) = (k : Int) := by rw [← Int.ofNat_tmod, hk]
          have hn0 : ¬ m.decs.length = 0 := hne
          have hn1 : ¬ m.decs = [] := fun h => hne (by rw [h]; rfl)
          have hk0 : (0 : Int) ≤ k := by omega
          have hk1 : (k : Int) < m.decs.length := by omega
          obtain ⟨g, o, v0, v1, v2, v3, v4, v5, v6, rfl, hg, b0, b1, b2, b3, b4, b5, b6, b7, b8, hTd, zd⟩ := HDW.out.de hd
          obtain ⟨Cn, cC, Cs, dC, ev, -⟩ := hTd.parts
          simp only [List.cons.injEq, and_true] at ev
          obtain ⟨rfl, rfl, rfl, rfl, rfl, rfl, rfl⟩ := ev
          have hgt : g < wt.heap.size := Nat.lt_of_lt_of_le hg HBT.out.size
          have KEEP : Hid (∀ wx, Below wt.heap.size wt wx → wx.cell? ⟨w.heap.size, 2, none⟩ = some (.slice (some ⟨g, o, none⟩) m.decs.length cd) ∧ wx.cell? ⟨g, o + k * 9, none⟩ = some (.int .i64 d.kind) ∧ wx.cell? ⟨g, o + k * 9 + 1, none⟩ = some (.string d.name) ∧ wx.cell? ⟨g, o + k * 9 + 2, none⟩ = some (.int .i64 d.typ.kind) ∧ wx.cell? ⟨g, o + k * 9 + 2 + 1, none⟩ = some (.string d.typ.pkg) ∧ wx.cell? ⟨g, o + k * 9 + 2 + 2, none⟩ = some (.int .i64 d.typ.major) ∧ wx.cell? ⟨g, o + k * 9 + 2 + 3, none⟩ = some (.string d.typ.mod) ∧ wx.cell? ⟨g, o + k * 9 + 2 + 4, none⟩ = some (.string d.typ.name) ∧ wx.cell? ⟨g, o + k * 9 + 2 + 5, none⟩ = some (.slice Cn d.typ.names.length cC) ∧ wx.cell? ⟨g, o + k * 9 + 2 + 6, none⟩ = some (.slice Cs d.typ.subs.length dC)) := Lib.hid (fun wx hb => by
            have hB := below_over HBT.out hb
            have cc := fun q v (hv : W2.cell? ⟨g, q, none⟩ = some v) => (hB.cell (p := ⟨g, q, none⟩) hg).trans hv
            exact ⟨by have := Lib.cell_of_heap (HX0.out wx hB) 2; simpa using this, cc _ _ b0, cc _ _ b1, cc _ _ b2, cc _ _ b3, cc _ _ b4, cc _ _ b5, cc _ _ b6, cc _ _ b7, cc _ _ b8⟩)
          have HTD : Hid (∀ wx, Below W2.heap.size W2 wx → TyAt wx [.int .i64 d.typ.kind, .string d.typ.pkg, .int .i64 d.typ.major, .string d.typ.mod, .string d.typ.name, .slice Cn d.typ.names.length cC, .slice Cs d.typ.subs.length dC] d.typ) := Lib.hid (fun wx hb => hTd.keep hb)
          have HD0 := Lib.hid hd
          have HX9 : Hid ((#[.int .i64 d.kind, .string d.name, .int .i64 d.typ.kind, .string d.typ.pkg, .int .i64 d.typ.major, .string d.typ.mod, .string d.typ.name, .slice Cn d.typ.names.length cC, .slice Cs d.typ.subs.length dC] : Array Value).all (·.oneCell') = true) := Lib.hid (Array.all_eq_true_iff_forall_mem.2 (fun v hv => by simp at hv; rcases hv with rfl | rfl | rfl | rfl | rfl | rfl | rfl | rfl | rfl <;> rfl))
          clear b0 b1 b2 b3 b4 b5 b6 b7 b8 hTd hd x0 x1 x2
          have hH0 := KEEP.out wt.drew (Below.drew (Below.refl _ _))
          refine AnyX.start (fun wx => wx.cell? ⟨w.heap.size, 2, none⟩ = some (.slice (some ⟨g, o, none⟩) m.decs.length cd) ∧ wx.cell? ⟨g, o + k * 9, none⟩ = some (.int .i64 d.kind) ∧ wx.cell? ⟨g, o + k * 9 + 1, none⟩ = some (.string d.name) ∧ wx.cell? ⟨g, o + k * 9 + 2, none⟩ = some (.int .i64 d.typ.kind) ∧ wx.cell? ⟨g, o + k * 9 + 2 + 1, none⟩ = some (.string d.typ.pkg) ∧ wx.cell? ⟨g, o + k * 9 + 2 + 2, none⟩ = some (.int .i64 d.typ.major) ∧ wx.cell? ⟨g, o + k * 9 + 2 + 3, none⟩ = some (.string d.typ.mod) ∧ wx.cell? ⟨g, o + k * 9 + 2 + 4, none⟩ = some (.string d.typ.name) ∧ wx.cell? ⟨g, o + k * 9 + 2 + 5, none⟩ = some (.slice Cn d.typ.names.length cC) ∧ wx.cell? ⟨g, o + k * 9 + 2 + 6, none⟩ = some (.slice Cs d.typ.subs.length dC)) (fun _ => false) (by kernel_rfl) ?_
          refine AnyX.move (i := 0) (v := ?_) rfl (by kernel_rfl) (by kernel_rfl) (by kernel_rfl) (by kernel_rfl) (fun _ _ _ h => h) (Or.inl ⟨by rfl, ?_⟩) ?_
          rotate_left
          · (intro wS _; go_simp; try with_reducible rfl)
          simp only [List.getElem_toArray, List.getElem_cons_succ, List.getElem_cons_zero]
          simp only [Act.put, List.setIfInBounds_toArray]
          simp only [List.set_cons_zero, List.set_cons_succ]
          refine AnyX.take (i := 1) (v := ?_) rfl (by kernel_rfl) (by kernel_rfl) (by kernel_rfl) (by kernel_rfl) (by kernel_rfl) (fun _ _ _ h => h) hH0 (Or.inl ⟨by rfl, ?_⟩) ?_
          rotate_left
          · (intro wS hS; (try obtain ⟨s2, q0, q1, q2, q3, q4, q5, q6, q7, q8⟩ := hS); go_simp; try with_reducible rfl)
          simp only [List.getElem_toArray, List.getElem_cons_succ, List.getElem_cons_zero]
          simp only [Act.put, List.setIfInBounds_toArray]
          simp only [List.set_cons_zero, List.set_cons_succ]
          refine AnyX.move (i := 2) (v := ?_) rfl (by kernel_rfl) (by kernel_rfl) (by kernel_rfl) (by kernel_rfl) (fun _ _ _ h => h) (Or.inl ⟨by rfl, ?_⟩) ?_
          rotate_left
          · (intro wS _; go_simp; try with_reducible rfl)
          simp only [List.getElem_toArray, List.getElem_cons_succ, List.getElem_cons_zero]
          simp only [Act.put, List.setIfInBounds_toArray]
          simp only [List.set_cons_zero, List.set_cons_succ]
          refine AnyX.move (i := 3) (v := ?_) rfl (by kernel_rfl) (by kernel_rfl) (by kernel_rfl) (by kernel_rfl) (fun _ _ _ h => h) (Or.inl ⟨by rfl, ?_⟩) ?_
          rotate_left
          · (intro wS _; go_simp; try with_reducible rfl)
          simp only [List.getElem_toArray, List.getElem_cons_succ, List.getElem_cons_zero]
          simp only [Act.put, List.setIfInBounds_toArray]
          simp only [List.set_cons_zero, List.set_cons_succ]
          refine AnyX.take (i := 4) (v := ?_) rfl (by kernel_rfl) (by kernel_rfl) (by kernel_rfl) (by kernel_rfl) (by kernel_rfl) (fun _ _ _ h => h) hH0 (Or.inl ⟨by rfl, ?_⟩) ?_
          rotate_left
          · (intro wS hS; (try obtain ⟨s2, q0, q1, q2, q3, q4, q5, q6, q7, q8⟩ := hS); go_simp; try with_reducible rfl)
          simp only [List.getElem_toArray, List.getElem_cons_succ, List.getElem_cons_zero]
          simp only [Act.put, List.setIfInBounds_toArray]
          simp only [List.set_cons_zero, List.set_cons_succ]
          refine AnyX.move (i := 5) (v := ?_) rfl (by kernel_rfl) (by kernel_rfl) (by kernel_rfl) (by kernel_rfl) (fun _ _ _ h => h) (Or.inl ⟨by rfl, ?_⟩) ?_
          rotate_left
          · (intro wS _; go_simp; try with_reducible rfl)
          simp only [List.getElem_toArray, List.getElem_cons_succ, List.getElem_cons_zero]
          simp only [Act.put, List.setIfInBounds_toArray]
          simp only [List.set_cons_zero, List.set_cons_succ]
          refine AnyX.move (i := 6) (v := ?_) rfl (by kernel_rfl) (by kernel_rfl) (by kernel_rfl) (by kernel_rfl) (fun _ _ _ h => h) (Or.inl ⟨by rfl, ?_⟩) ?_
          rotate_left
          · (intro wS _; go_simp; try with_reducible rfl)
          simp only [List.getElem_toArray, List.getElem_cons_succ, List.getElem_cons_zero]
          simp only [Act.put, List.setIfInBounds_toArray]
          simp only [List.set_cons_zero, List.set_cons_succ]
          refine AnyX.move (i := 7) (v := ?_) rfl (by kernel_rfl) (by kernel_rfl) (by kernel_rfl) (by kernel_rfl) (fun _ _ _ h => h) (Or.inl ⟨by rfl, ?_⟩) ?_
          rotate_left
          · (intro wS _; go_simp; try with_reducible rfl)
          simp only [List.getElem_toArray, List.getElem_cons_succ, List.getElem_cons_zero]
          simp only [Act.put, List.setIfInBounds_toArray]
          simp only [List.set_cons_zero, List.set_cons_succ]
          refine AnyX.take (i := 8) (v := ?_) rfl (by kernel_rfl) (by kernel_rfl) (by kernel_rfl) (by kernel_rfl) (by kernel_rfl) (fun _ _ _ h => h) hH0 (Or.inl ⟨by rfl, ?_⟩) ?_
          rotate_left
          · (intro wS hS; (try obtain ⟨s2, q0, q1, q2, q3, q4, q5, q6, q7, q8⟩ := hS); go_simp; try with_reducible rfl)
          simp only [List.getElem_toArray, List.getElem_cons_succ, List.getElem_cons_zero]
          simp only [Act.put, List.setIfInBounds_toArray]
          simp only [List.set_cons_zero, List.set_cons_succ]
          refine AnyX.go 9 (by kernel_rfl) rfl rfl (fun K hK => ?_)
          simp only [List.getElem_toArray, List.getElem_cons_succ, List.getElem_cons_zero]
          go_simp
          refine hK.out _ _ (fun hoff _ => KEEP.out _ (below_new (Below.drew (Below.refl _ _)) _)) ?_
          clear hK
          try simp only [Act.put, List.setIfInBounds_toArray]
          try simp only [List.set_cons_zero, List.set_cons_succ]
          have X9 : (wt.alloc (.cells #[.int .i64 0, .string ⟨#[]⟩, .int .i64 0, .string ⟨#[]⟩, .int .i64 0, .string ⟨#[]⟩, .string ⟨#[]⟩, .slice none 0 0, .slice none 0 0] 63)).drew.heap[wt.heap.size]? = some (.cells #[.int .i64 0, .string ⟨#[]⟩, .int .i64 0, .string ⟨#[]⟩, .int .i64 0, .string ⟨#[]⟩, .string ⟨#[]⟩, .slice none 0 0, .slice none 0 0] 63 (0, 0)) := heap_alloc_new wt _
          refine AnyX.go 10 (by kernel_rfl) rfl rfl (fun K hK => ?_)
          simp only [List.getElem_toArray, List.getElem_cons_succ, List.getElem_cons_zero]
          refine wp_store_row 63 (.tmp 22) (.tmp 116) rfl wt.heap.size #[.int .i64 d.kind, .string d.name, .int .i64 d.typ.kind, .string d.typ.pkg, .int .i64 d.typ.major, .string d.typ.mod, .string d.typ.name, .slice Cn d.typ.names.length cC, .slice Cs d.typ.subs.length dC] rfl rfl _ _ X9 decSize rfl HX9.out ?_
          obtain ⟨w15, hw15⟩ : ∃ w15, w15 = (wt.alloc (.cells #[.int .i64 0, .string ⟨#[]⟩, .int .i64 0, .string ⟨#[]⟩, .int .i64 0, .string ⟨#[]⟩, .string ⟨#[]⟩, .slice none 0 0, .slice none 0 0] 63)).drew.setRow wt.heap.size #[.int .i64 d.kind, .string d.name, .int .i64 d.typ.kind, .string d.typ.pkg, .int .i64 d.typ.major, .string d.typ.mod, .string d.typ.name, .slice Cn d.typ.names.length cC, .slice Cs d.typ.subs.length dC] := ⟨_, rfl⟩
          have B15 : Below wt.heap.size wt w15 := by rw [hw15]; exact setRow_below (w := wt) (Below.drew (below_new (Below.refl _ _) _)) (Nat.le_refl _) _
          have Y15 : w15.heap[wt.heap.size]? = some (.cells #[.int .i64 d.kind, .string d.name, .int .i64 d.typ.kind, .string d.typ.pkg, .int .i64 d.typ.major, .string d.typ.mod, .string d.typ.name, .slice Cn d.typ.names.length cC, .slice Cs d.typ.subs.length dC] 63 (0, 0)) := by rw [hw15]; exact setRow_heap _ _ _ _ _ _ X9
          have hl15 : wt.heap.size < w15.heap.size := by rw [hw15]; simp
          have HB15 : Hid (Below W2.heap.size W2 w15) := Lib.hid (below_over HBT.out B15)
          have HDX : Hid (∀ wx, Below w15.heap.size w15 wx → wx.heap[wt.heap.size]? = some (.cells #[.int .i64 d.kind, .string d.name, .int .i64 d.typ.kind, .string d.typ.pkg, .int .i64 d.typ.major, .string d.typ.mod, .string d.typ.name, .slice Cn d.typ.names.length cC, .slice Cs d.typ.subs.length dC] 63 (0, 0))) := Lib.hid (fun wx hb => (hb.block _ hl15).trans Y15)
          have HW15 := Lib.hid hw15
          have hH15 := KEEP.out w15 B15
          rw [← HW15.out]
          clear hw15 X9 Y15 hl15 HW15
          refine hK.out _ _ (fun hoff _ => hH15) ?_
          clear hK
          try simp only [Act.put, List.setIfInBounds_toArray]
          try simp only [List.set_cons_zero, List.set_cons_succ]
          refine AnyX.done (by kernel_rfl) ?_ _
          clear hH0 hH15 hrem hn0 hn1 B15
          have X0 := HDX.out w15 (Below.refl _ _)
          have y0 := Lib.cell_of_heap X0 0
          simp at y0
          clear X0
          by_cases h3 : d.kind = 3
          · have q3 : (d.kind == 3) = true := by rw [h3]; rfl
            have H3 := Lib.hid h3
            clear h3
            go_upto_region 19 with fail
            clear q3 y0
            have X0 := HX0.out w15 HB15.out
            have x0 := Lib.cell_of_heap X0 0
            have x1 := Lib.cell_of_heap X0 1
            have x2 := Lib.cell_of_heap X0 2
            simp at x0 x1 x2
            clear X0
            have X0 := HDX.out w15 (Below.refl _ _)
            have y2 := Lib.cell_of_heap X0 2
            have y3 := Lib.cell_of_heap X0 3
            have y4 := Lib.cell_of_heap X0 4
            have y5 := Lib.cell_of_heap X0 5
            have y6 := Lib.cell_of_heap X0 6
            have y7 := Lib.cell_of_heap X0 7
            have y8 := Lib.cell_of_heap X0 8
            simp at y2 y3 y4 y5 y6 y7 y8
            clear X0
            have CE := Lib.hid (expand8_any m pkg major env Ai ci _ cd Ae ce d.typ _ w15 (HMW.out w15 HB15.out) HCAP.out hpk (HEW.out w15 HB15.out) hel (HTD.out w15 HB15.out) (fun d hd => (HM9.out d hd).1))
            go_wp2_with fail
            refine CE.out.mono ?_; rintro e w16 ⟨c3, u3, l3, hep3, rfl, hT3, hb16⟩
            have HEP3 := Lib.hid hep3
            have hT3 := hT3.free
            obtain ⟨Un, un, Us, us, rfl, -⟩ := hT3.parts
            obtain ⟨w17, hw17⟩ : ∃ w17, w17 = w16.alloc (.cells #[.int .i64 u3.kind, .string u3.pkg, .int .i64 u3.major, .string u3.mod, .string u3.name, .slice Un u3.names.length un, .slice Us u3.subs.length us] 30) := ⟨_, rfl⟩
            have B17 : Below w16.heap.size w16 w17 := by rw [hw17]; exact below_new (Below.refl _ _) _
            have Y17 : w17.heap[w16.heap.size]? = some (.cells #[.int .i64 u3.kind, .string u3.pkg, .int .i64 u3.major, .string u3.mod, .string u3.name, .slice Un u3.names.length un, .slice Us u3.subs.length us] 30 (0, 0)) := by rw [hw17]; exact heap_alloc_new w16 _
            have hl17 : w16.heap.size < w17.heap.size := by rw [hw17]; simp
            have HB17 : Hid (Below w15.heap.size w15 w17) := Lib.hid (below_over hb16 B17)
            have HTU : Hid (∀ wx, Below w17.heap.size w17 wx → TyAt wx [.int .i64 u3.kind, .string u3.pkg, .int .i64 u3.major, .string u3.mod, .string u3.name, .slice Un u3.names.length un, .slice Us u3.subs.length us] u3) := Lib.hid (fun wx hb => (hT3.keep B17).keep hb)
            have HUX : Hid (∀ wx, Below w17.heap.size w17 wx → wx.heap[w16.heap.size]? = some (.cells #[.int .i64 u3.kind, .string u3.pkg, .int .i64 u3.major, .string u3.mod, .string u3.name, .slice Un u3.names.length un, .slice Us u3.subs.length us] 30 (0, 0))) := Lib.hid (fun wx hb => (hb.block _ hl17).trans Y17)
            have HW17 := Lib.hid hw17
            have HBV : Hid (Below W2.heap.size W2 w17) := Lib.hid (below_over HB15.out HB17.out)
            obtain ⟨e3, he3⟩ : ∃ e3, e3 = errV c3 := ⟨_, rfl⟩
            rw [← he3]
            have HE3 := Lib.hid he3
            clear x0 x1 x2 y2 y3 y4 y5 y6 y7 y8 hep3 hT3 hb16 B17 Y17 hl17 hw17 CE he3
            go_upto_region 20 with fail
            rw [← HW17.out]
            clear HW17
            have X0 := HX0.out w17 HBV.out
            have x0 := Lib.cell_of_heap X0 0
            have x1 := Lib.cell_of_heap X0 1
            have x2 := Lib.cell_of_heap X0 2
            simp at x0 x1 x2
            clear X0
            have X0 := HDX.out w17 HB17.out
            have y1 := Lib.cell_of_heap X0 1
            simp at y1
            clear X0
            have CE := Lib.hid (expand8_any m pkg major env Ai ci _ cd Ae ce (locA d.name) [.int .i64 8, .string ⟨#[]⟩, .int .i64 0, .string ⟨#[]⟩, .string d.name, .slice none 0 0, .slice none 0 0] w17 (HMW.out w17 HBV.out) HCAP.out hpk (HEW.out w17 HBV.out) hel
              (.mk 8 ⟨#[]⟩ 0 ⟨#[]⟩ d.name [] [] none 0 none 0 (fun _ => [.int .i64 0, .string ⟨#[]⟩, .int .i64 0, .string ⟨#[]⟩, .string ⟨#[]⟩, .slice none 0 0, .slice none 0 0]) (by decide) (by decide) zd (by decide) (by decide) (by decide) (fun i s h => by simp at h) (fun _ => rfl) (fun i t h => by simp at h) (fun i t h => by simp at h)) (fun d hd => (HM9.out d hd).1))
            go_wp2_with fail
            refine CE.out.mono ?_; rintro e w18 ⟨c4, u4, l4, hep4, rfl, hT4, hb18⟩
            obtain ⟨rfl, rfl⟩ := ep_alias HOK.out.1 HOK.out.2 HD0.out H3.out HEP3.out hep4
            have hT4 := hT4.free
            obtain ⟨Vn, vn, Vs, vs, rfl, -⟩ := hT4.parts
            obtain ⟨w19, hw19⟩ : ∃ w19, w19 = w18.alloc (.cells #[.int .i64 u3.kind, .string u3.pkg, .int .i64 u3.major, .string u3.mod, .string u3.name, .slice Vn u3.names.length vn, .slice Vs u3.subs.length vs] 30) := ⟨_, rfl⟩
            have B19 : Below w18.heap.size w18 w19 := by rw [hw19]; exact below_new (Below.refl _ _) _
            have Y19 : w19.heap[w18.heap.size]? = some (.cells #[.int .i64 u3.kind, .string u3.pkg, .int .i64 u3.major, .string u3.mod, .string u3.name, .slice Vn u3.names.length vn, .slice Vs u3.subs.length vs] 30 (0, 0)) := by rw [hw19]; exact heap_alloc_new w18 _
            have hl19 : w18.heap.size < w19.heap.size := by rw [hw19]; simp
            have HB19 : Hid (Below w17.heap.size w17 w19) := Lib.hid (below_over hb18 B19)
            have HTV : Hid (∀ wx, Below w19.heap.size w19 wx → TyAt wx [.int .i64 u3.kind, .string u3.pkg, .int .i64 u3.major, .string u3.mod, .string u3.name, .slice Vn u3.names.length vn, .slice Vs u3.subs.length vs] u3) := Lib.hid (fun wx hb => (hT4.keep B19).keep hb)
            have HVX : Hid (∀ wx, Below w19.heap.size w19 wx → wx.heap[w18.heap.size]? = some (.cells #[.int .i64 u3.kind, .string u3.pkg, .int .i64 u3.major, .string u3.mod, .string u3.name, .slice Vn u3.names.length vn, .slice Vs u3.subs.length vs] 30 (0, 0))) := Lib.hid (fun wx hb => (hb.block _ hl19).trans Y19)
            have HW19 := Lib.hid hw19
            rw [← HE3.out]
            have CC := Lib.hid (fun wx => code_err e3 c3 wx HE3.out (ep_code HEP3.out).1)
            clear x0 x1 x2 y1 hep4 hT4 hb18 B19 Y19 hl19 hw19 CE
            go_upto_region 21 with fail
            rw [← HW19.out]
            clear HW19
            go_wp2_with fail
            refine (CC.out _).mono ?_; rintro e w20 ⟨rfl, hb20⟩
            have HB20 := Lib.hid hb20
            clear hb20
            go_wp2_with fail
            refine (CC.out _).mono ?_; rintro e w21 ⟨rfl, hb21⟩
            have HB21 := Lib.hid (below_over HB20.out hb21)
            clear hb21
            have X0 := HUX.out w21 (below_over HB19.out HB21.out)
            have X1 := HVX.out w21 HB21.out
            have x0 := Lib.cell_of_heap X0 0
            have x1 := Lib.cell_of_heap X0 1
            have x2 := Lib.cell_of_heap X0 2
            have x3 := Lib.cell_of_heap X0 3
            have x4 := Lib.cell_of_heap X0 4
            have x5 := Lib.cell_of_heap X0 5
            have x6 := Lib.cell_of_heap X0 6
            have z0 := Lib.cell_of_heap X1 0
            have z1 := Lib.cell_of_heap X1 1
            have z2 := Lib.cell_of_heap X1 2
            have z3 := Lib.cell_of_heap X1 3
            have z4 := Lib.cell_of_heap X1 4
            have z5 := Lib.cell_of_heap X1 5
            have z6 := Lib.cell_of_heap X1 6
            simp at x0 x1 x2 x3 x4 x5 x6 z0 z1 z2 z3 z4 z5 z6
            clear X0 X1
            have CS := Lib.hid (same_any (many u3) u3 u3 (Nat.le_refl _) (.agg #[.int .i64 u3.kind, .string u3.pkg, .int .i64 u3.major, .string u3.mod, .string u3.name, .slice Un u3.names.length un, .slice Us u3.subs.length us]) (.agg #[.int .i64 u3.kind, .string u3.pkg, .int .i64 u3.major, .string u3.mod, .string u3.name, .slice Vn u3.names.length vn, .slice Vs u3.subs.length vs]) w21 ⟨_, rfl, HTU.out w21 (below_over HB19.out HB21.out)⟩ ⟨_, rfl, HTV.out w21 HB21.out⟩)
            rw [(sameT_iff u3 u3).2 rfl] at CS
            go_wp2_with fail
            refine CS.out.mono ?_; rintro e w22 ⟨rfl, hb22⟩
            have FIN := Lib.hid (below_over HB2.out (below_over HBV.out (below_over HB19.out (below_over HB21.out hb22))))
            clear x0 x1 x2 x3 x4 x5 x6 z0 z1 z2 z3 z4 z5 z6 hb22 CS
            go_wp2_with fail
            go_ret
            exact ⟨rfl, FIN.out⟩
          · have q3 : (d.kind == 3) = false := by simpa using h3
            have q4 : ¬ d.kind = 3 := h3
            clear h3
            go_wp2_with fail
            go_ret
            exact ⟨rfl, below_over HB2.out HB15.out⟩
    · go_wp2_with fail
      go_ret
      exact ⟨rfl, below_over HB2.out HBT.out⟩
  · obtain rfl : e2 = .iface 60 (.int .i64 c2) := HE2.out.trans (errV_no hc2)
    obtain ⟨wt, hwt⟩ : ∃ wt, wt = w12 := ⟨_, rfl⟩
    have HBT : Hid (Below W2.heap.size W2 wt) := Lib.hid (by rw [hwt]; exact HBW.out)
    have HWT := Lib.hid hwt
    rw [← HWT.out]
    clear hc2 hwt HWT
    by_cases hc1 : c1 = 0
    · subst hc1
      obtain rfl : e1 = .nilIface := HE1.out.trans errV_zero
      go_upto_region 12 with fail
      rcases HCK.out with ⟨rfl, hok⟩ | ⟨T17, x17, rfl⟩
      · have HOK := Lib.hid hok
        clear hok
        have X0 := HX0.out wt HBT.out
        have x0 := Lib.cell_of_heap X0 0
        have x1 := Lib.cell_of_heap X0 1
        have x2 := Lib.cell_of_heap X0 2
        simp at x0 x1 x2
        clear X0
        by_cases hne : m.decs.length = 0
        · have he0 : ((m.decs.length : Int) == 0) = true := by rw [hne]; rfl
          clear hne
          go_wp2_with fail
          go_ret
          exact ⟨rfl, below_over HB2.out HBT.out⟩
        · have he0 : ((m.decs.length : Int) == 0) = false := by rw [beq_eq_false_iff_ne, ne_eq]; omega
          go_upto_region 14 with fail
          clear he0
          by_cases ha : a < 0
          · obtain ⟨z, hz⟩ : ∃ z : Nat, -(a + 1) = (z : Int) := ⟨(-(a + 1)).toNat, by omega⟩
            have hw1 : IntKind.i64.wrap (a + 1) = a + 1 := IntWalk.i64_in _ (by omega)
            have hw2 : IntKind.i64.wrap (-(a + 1)) = (z : Int) := by rw [hz]; exact IntWalk.i64_in _ (by omega)
            go_upto_region 16 with fail
            clear hw1 hw2 ha
            obtain ⟨k, hk⟩ : ∃ k, z % m.decs.length = k := ⟨_, rfl⟩
            have hkn : k < m.decs.length := by rw [← hk]; exact Nat.mod_lt _ (by omega)
            obtain ⟨d, hd⟩ : ∃ d, m.decs[k]? = some d := ⟨_, List.getElem?_eq_getElem hkn⟩
            have hrem : (z : Int).tmod (m.decs.length : Int) = (k : Int) := by rw [← Int.ofNat_tmod, hk]
            have hn0 : ¬ m.decs.length = 0 := hne
            have hn1 : ¬ m.decs = [] := fun h => hne (by rw [h]; rfl)
            have hk0 : (0 : Int) ≤ k := by omega
            have hk1 : (k : Int) < m.decs.length := by omega
            obtain ⟨g, o, v0, v1, v2, v3, v4, v5, v6, rfl, hg, b0, b1, b2, b3, b4, b5, b6, b7, b8, hTd, zd⟩ := HDW.out.de hd
            obtain ⟨Cn, cC, Cs, dC, ev, -⟩ := hTd.parts
            simp only [List.cons.injEq, and_true] at ev
            obtain ⟨rfl, rfl, rfl, rfl, rfl, rfl, rfl⟩ := ev
            have hgt : g < wt.heap.size := Nat.lt_of_lt_of_le hg HBT.out.size
            have KEEP : Hid (∀ wx, Below wt.heap.size wt wx → wx.cell? ⟨w.heap.size, 2, none⟩ = some (.slice (some ⟨g, o, none⟩) m.decs.length cd) ∧ wx.cell? ⟨g, o + k * 9, none⟩ = some (.int .i64 d.kind) ∧ wx.cell? ⟨g, o + k * 9 + 1, none⟩ = some (.string d.name) ∧ wx.cell? ⟨g, o + k * 9 + 2, none⟩ = some (.int .i64 d.typ.kind) ∧ wx.cell? ⟨g, o + k * 9 + 2 + 1, none⟩ = some (.string d.typ.pkg) ∧ wx.cell? ⟨g, o + k * 9 + 2 + 2, none⟩ = some (.int .i64 d.typ.major) ∧ wx.cell? ⟨g, o + k * 9 + 2 + 3, none⟩ = some (.string d.typ.mod) ∧ wx.cell? ⟨g, o + k * 9 + 2 + 4, none⟩ = some (.string d.typ.name) ∧ wx.cell? ⟨g, o + k * 9 + 2 + 5, none⟩ = some (.slice Cn d.typ.names.length cC) ∧ wx.cell? ⟨g, o + k * 9 + 2 + 6, none⟩ = some (.slice Cs d.typ.subs.length dC)) := Lib.hid (fun wx hb => by
              have hB := below_over HBT.out hb
              have cc := fun q v (hv : W2.cell? ⟨g, q, none⟩ = some v) => (hB.cell (p := ⟨g, q, none⟩) hg).trans hv
              exact ⟨by have := Lib.cell_of_heap (HX0.out wx hB) 2; simpa using this, cc _ _ b0, cc _ _ b1, cc _ _ b2, cc _ _ b3, cc _ _ b4, cc _ _ b5, cc _ _ b6, cc _ _ b7, cc _ _ b8⟩)
            have HTD : Hid (∀ wx, Below W2.heap.size W2 wx → TyAt wx [.int .i64 d.typ.kind, .string d.typ.pkg, .int .i64 d.typ.major, .string d.typ.mod, .string d.typ.name, .slice Cn d.typ.names.length cC, .slice Cs d.typ.subs.length dC] d.typ) := Lib.hid (fun wx hb => hTd.keep hb)
            have HD0 := Lib.hid hd
            have HX9 : Hid ((#[.int .i64 d.kind, .string d.name, .int .i64 d.typ.kind, .string d.typ.pkg, .int .i64 d.typ.major, .string d.typ.mod, .string d.typ.name, .slice Cn d.typ.names.length cC, .slice Cs d.typ.subs.length dC] : Array Value).all (·.oneCell') = true) := Lib.hid (Array.all_eq_true_iff_forall_mem.2 (fun v hv => by simp at hv; rcases hv with rfl | rfl | rfl | rfl | rfl | rfl | rfl | rfl | rfl <;> rfl))
            clear b0 b1 b2 b3 b4 b5 b6 b7 b8 hTd hd x0 x1 x2
            have hH0 := KEEP.out wt.drew (Below.drew (Below.refl _ _))
            refine AnyX.start (fun wx => wx.cell? ⟨w.heap.size, 2, none⟩ = some (.slice (some ⟨g, o, none⟩) m.decs.length cd) ∧ wx.cell? ⟨g, o + k * 9, none⟩ = some (.int .i64 d.kind) ∧ wx.cell? ⟨g, o + k * 9 + 1, none⟩ = some (.string d.name) ∧ wx.cell? ⟨g, o + k * 9 + 2, none⟩ = some (.int .i64 d.typ.kind) ∧ wx.cell? ⟨g, o + k * 9 + 2 + 1, none⟩ = some (.string d.typ.pkg) ∧ wx.cell? ⟨g, o + k * 9 + 2 + 2, none⟩ = some (.int .i64 d.typ.major) ∧ wx.cell? ⟨g, o + k * 9 + 2 + 3, none⟩ = some (.string d.typ.mod) ∧ wx.cell? ⟨g, o + k * 9 + 2 + 4, none⟩ = some (.string d.typ.name) ∧ wx.cell? ⟨g, o + k * 9 + 2 + 5, none⟩ = some (.slice Cn d.typ.names.length cC) ∧ wx.cell? ⟨g, o + k * 9 + 2 + 6, none⟩ = some (.slice Cs d.typ.subs.length dC)) (fun _ => false) (by kernel_rfl) ?_
            refine AnyX.move (i := 0) (v := ?_) rfl (by kernel_rfl) (by kernel_rfl) (by kernel_rfl) (by kernel_rfl) (fun _ _ _ h => h) (Or.inl ⟨by rfl, ?_⟩) ?_
            rotate_left
            · (intro wS _; go_simp; try with_reducible rfl)
            simp only [List.getElem_toArray, List.getElem_cons_succ, List.getElem_cons_zero]
            simp only [Act.put, List.setIfInBounds_toArray]
            simp only [List.set_cons_zero, List.set_cons_succ]
            refine AnyX.take (i := 1) (v := ?_) rfl (by kernel_rfl) (by kernel_rfl) (by kernel_rfl) (by kernel_rfl) (by kernel_rfl) (fun _ _ _ h => h) hH0 (Or.inl ⟨by rfl, ?_⟩) ?_
            rotate_left
            · (intro wS hS; (try obtain ⟨s2, q0, q1, q2, q3, q4, q5, q6, q7, q8⟩ := hS); go_simp; try with_reducible rfl)
            simp only [List.getElem_toArray, List.getElem_cons_succ, List.getElem_cons_zero]
            simp only [Act.put, List.setIfInBounds_toArray]
            simp only [List.set_cons_zero, List.set_cons_succ]
            refine AnyX.move (i := 2) (v := ?_) rfl (by kernel_rfl) (by kernel_rfl) (by kernel_rfl) (by kernel_rfl) (fun _ _ _ h => h) (Or.inl ⟨by rfl, ?_⟩) ?_
            rotate_left
            · (intro wS _; go_simp; try with_reducible rfl)
            simp only [List.getElem_toArray, List.getElem_cons_succ, List.getElem_cons_zero]
            simp only [Act.put, List.setIfInBounds_toArray]
            simp only [List.set_cons_zero, List.set_cons_succ]
            refine AnyX.move (i := 3) (v := ?_) rfl (by kernel_rfl) (by kernel_rfl) (by kernel_rfl) (by kernel_rfl) (fun _ _ _ h => h) (Or.inl ⟨by rfl, ?_⟩) ?_
            rotate_left
            · (intro wS _; go_simp; try with_reducible rfl)
            simp only [List.getElem_toArray, List.getElem_cons_succ, List.getElem_cons_zero]
            simp only [Act.put, List.setIfInBounds_toArray]
            simp only [List.set_cons_zero, List.set_cons_succ]
            refine AnyX.take (i := 4) (v := ?_) rfl (by kernel_rfl) (by kernel_rfl) (by kernel_rfl) (by kernel_rfl) (by kernel_rfl) (fun _ _ _ h => h) hH0 (Or.inl ⟨by rfl, ?_⟩) ?_
            rotate_left
            · (intro wS hS; (try obtain ⟨s2, q0, q1, q2, q3, q4, q5, q6, q7, q8⟩ := hS); go_simp; try with_reducible rfl)
            simp only [List.getElem_toArray, List.getElem_cons_succ, List.getElem_cons_zero]
            simp only [Act.put, List.setIfInBounds_toArray]
            simp only [List.set_cons_zero, List.set_cons_succ]
            refine AnyX.move (i := 5) (v := ?_) rfl (by kernel_rfl) (by kernel_rfl) (by kernel_rfl) (by kernel_rfl) (fun _ _ _ h => h) (Or.inl ⟨by rfl, ?_⟩) ?_
            rotate_left
            · (intro wS _; go_simp; try with_reducible rfl)
            simp only [List.getElem_toArray, List.getElem_cons_succ, List.getElem_cons_zero]
            simp only [Act.put, List.setIfInBounds_toArray]
            simp only [List.set_cons_zero, List.set_cons_succ]
            refine AnyX.move (i := 6) (v := ?_) rfl (by kernel_rfl) (by kernel_rfl) (by kernel_rfl) (by kernel_rfl) (fun _ _ _ h => h) (Or.inl ⟨by rfl, ?_⟩) ?_
            rotate_left
            · (intro wS _; go_simp; try with_reducible rfl)
            simp only [List.getElem_toArray, List.getElem_cons_succ, List.getElem_cons_zero]
            simp only [Act.put, List.setIfInBounds_toArray]
            simp only [List.set_cons_zero, List.set_cons_succ]
            refine AnyX.move (i := 7) (v := ?_) rfl (by kernel_rfl) (by kernel_rfl) (by kernel_rfl) (by kernel_rfl) (fun _ _ _ h => h) (Or.inl ⟨by rfl, ?_⟩) ?_
            rotate_left
            · (intro wS _; go_simp; try with_reducible rfl)
            simp only [List.getElem_toArray, List.getElem_cons_succ, List.getElem_cons_zero]
            simp only [Act.put, List.setIfInBounds_toArray]
            simp only [List.set_cons_zero, List.set_cons_succ]
            refine AnyX.take (i := 8) (v := ?_) rfl (by kernel_rfl) (by kernel_rfl) (by kernel_rfl) (by kernel_rfl) (by kernel_rfl) (fun _ _ _ h => h) hH0 (Or.inl ⟨by rfl, ?_⟩) ?_
            rotate_left
            · (intro wS hS; (try obtain ⟨s2, q0, q1, q2, q3, q4, q5, q6, q7, q8⟩ := hS); go_simp; try with_reducible rfl)
            simp only [List.getElem_toArray, List.getElem_cons_succ, List.getElem_cons_zero]
            simp only [Act.put, List.setIfInBounds_toArray]
            simp only [List.set_cons_zero, List.set_cons_succ]
            refine AnyX.go 9 (by kernel_rfl) rfl rfl (fun K hK => ?_)
            simp only [List.getElem_toArray, List.getElem_cons_succ, List.getElem_cons_zero]
            go_simp
            refine hK.out _ _ (fun hoff _ => KEEP.out _ (below_new (Below.drew (Below.refl _ _)) _)) ?_
            clear hK
            try simp only [Act.put, List.setIfInBounds_toArray]
            try simp only [List.set_cons_zero, List.set_cons_succ]
            have X9 : (wt.alloc (.cells #[.int .i64 0, .string ⟨#[]⟩, .int .i64 0, .string ⟨#[]⟩, .int .i64 0, .string ⟨#[]⟩, .string ⟨#[]⟩, .slice none 0 0, .slice none 0 0] 63)).drew.heap[wt.heap.size]? = some (.cells #[.int .i64 0, .string ⟨#[]⟩, .int .i64 0, .string ⟨#[]⟩, .int .i64 0, .string ⟨#[]⟩, .string ⟨#[]⟩, .slice none 0 0, .slice none 0 0] 63 (0, 0)) := heap_alloc_new wt _
            refine AnyX.go 10 (by kernel_rfl) rfl rfl (fun K hK => ?_)
            simp only [List.getElem_toArray, List.getElem_cons_succ, List.getElem_cons_zero]
            refine wp_store_row 63 (.tmp 22) (.tmp 116) rfl wt.heap.size #[.int .i64 d.kind, .string d.name, .int .i64 d.typ.kind, .string d.typ.pkg, .int .i64 d.typ.major, .string d.typ.mod, .string d.typ.name, .slice Cn d.typ.names.length cC, .slice Cs d.typ.subs.length dC] rfl rfl _ _ X9 decSize rfl HX9.out ?_
            obtain ⟨w15, hw15⟩ : ∃ w15, w15 = (wt.alloc (.cells #[.int .i64 0, .string ⟨#[]⟩, .int .i64 0, .string ⟨#[]⟩, .int .i64 0, .string ⟨#[]⟩, .string ⟨#[]⟩, .slice none 0 0, .slice none 0 0] 63)).drew.setRow wt.heap.size #[.int .i64 d.kind, .string d.name, .int .i64 d.typ.kind, .string d.typ.pkg, .int .i64 d.typ.major, .string d.typ.mod, .string d.typ.name, .slice Cn d.typ.names.length cC, .slice Cs d.typ.subs.length dC] := ⟨_, rfl⟩
            have B15 : Below wt.heap.size wt w15 := by rw [hw15]; exact setRow_below (w := wt) (Below.drew (below_new (Below.refl _ _) _)) (Nat.le_refl _) _
            have Y15 : w15.heap[wt.heap.size]? = some (.cells #[.int .i64 d.kind, .string d.name, .int .i64 d.typ.kind, .string d.typ.pkg, .int .i64 d.typ.major, .string d.typ.mod, .string d.typ.name, .slice Cn d.typ.names.length cC, .slice Cs d.typ.subs.length dC] 63 (0, 0)) := by rw [hw15]; exact setRow_heap _ _ _ _ _ _ X9
            have hl15 : wt.heap.size < w15.heap.size := by rw [hw15]; simp
            have HB15 : Hid (Below W2.heap.size W2 w15) := Lib.hid (below_over HBT.out B15)
            have HDX : Hid (∀ wx, Below w15.heap.size w15 wx → wx.heap[wt.heap.size]? = some (.cells #[.int .i64 d.kind, .string d.name, .int .i64 d.typ.kind, .string d.typ.pkg, .int .i64 d.typ.major, .string d.typ.mod, .string d.typ.name, .slice Cn d.typ.names.length cC, .slice Cs d.typ.subs.length dC] 63 (0, 0))) := Lib.hid (fun wx hb => (hb.block _ hl15).trans Y15)
            have HW15 := Lib.hid hw15
            have hH15 := KEEP.out w15 B15
            rw [← HW15.out]
            clear hw15 X9 Y15 hl15 HW15
            refine hK.out _ _ (fun hoff _ => hH15) ?_
            clear hK
            try simp only [Act.put, List.setIfInBounds_toArray]
            try simp only [List.set_cons_zero, List.set_cons_succ]
            refine AnyX.done (by kernel_rfl) ?_ _
            clear hH0 hH15 hrem hn0 hn1 B15
            have X0 := HDX.out w15 (Below.refl _ _)
            have y0 := Lib.cell_of_heap X0 0
            simp at y0
            clear X0
            by_cases h3 : d.kind = 3
            · have q3 : (d.kind == 3) = true := by rw [h3]; rfl
              have H3 := Lib.hid h3
              clear h3
              go_upto_region 19 with fail
              clear q3 y0
              have X0 := HX0.out w15 HB15.out
              have x0 := Lib.cell_of_heap X0 0
              have x1 := Lib.cell_of_heap X0 1
              have x2 := Lib.cell_of_heap X0 2
              simp at x0 x1 x2
              clear X0
              have X0 := HDX.out w15 (Below.refl _ _)
              have y2 := Lib.cell_of_heap X0 2
              have y3 := Lib.cell_of_heap X0 3
              have y4 := Lib.cell_of_heap X0 4
              have y5 := Lib.cell_of_heap X0 5
              have y6 := Lib.cell_of_heap X0 6
              have y7 := Lib.cell_of_heap X0 7
              have y8 := Lib.cell_of_heap X0 8
              simp at y2 y3 y4 y5 y6 y7 y8
              clear X0
              have CE := Lib.hid (expand8_any m pkg major env Ai ci _ cd Ae ce d.typ _ w15 (HMW.out w15 HB15.out) HCAP.out hpk (HEW.out w15 HB15.out) hel (HTD.out w15 HB15.out) (fun d hd => (HM9.out d hd).1))
              go_wp2_with fail
              refine CE.out.mono ?_; rintro e w16 ⟨c3, u3, l3, hep3, rfl, hT3, hb16⟩
              have HEP3 := Lib.hid hep3
              have hT3 := hT3.free
              obtain ⟨Un, un, Us, us, rfl, -⟩ := hT3.parts
              obtain ⟨w17, hw17⟩ : ∃ w17, w17 = w16.alloc (.cells #[.int .i64 u3.kind, .string u3.pkg, .int .i64 u3.major, .string u3.mod, .string u3.name, .slice Un u3.names.length un, .slice Us u3.subs.length us] 30) := ⟨_, rfl⟩
              have B17 : Below w16.heap.size w16 w17 := by rw [hw17]; exact below_new (Below.refl _ _) _
              have Y17 : w17.heap[w16.heap.size]? = some (.cells #[.int .i64 u3.kind, .string u3.pkg, .int .i64 u3.major, .string u3.mod, .string u3.name, .slice Un u3.names.length un, .slice Us u3.subs.length us] 30 (0, 0)) := by rw [hw17]; exact heap_alloc_new w16 _
              have hl17 : w16.heap.size < w17.heap.size := by rw [hw17]; simp
              have HB17 : Hid (Below w15.heap.size w15 w17) := Lib.hid (below_over hb16 B17)
              have HTU : Hid (∀ wx, Below w17.heap.size w17 wx → TyAt wx [.int .i64 u3.kind, .string u3.pkg, .int .i64 u3.major, .string u3.mod, .string u3.name, .slice Un u3.names.length un, .slice Us u3.subs.length us] u3) := Lib.hid (fun wx hb => (hT3.keep B17).keep hb)
              have HUX : Hid (∀ wx, Below w17.heap.size w17 wx → wx.heap[w16.heap.size]? = some (.cells #[.int .i64 u3.kind, .string u3.pkg, .int .i64 u3.major, .string u3.mod, .string u3.name, .slice Un u3.names.length un, .slice Us u3.subs.length us] 30 (0, 0))) := Lib.hid (fun wx hb => (hb.block _ hl17).trans Y17)
              have HW17 := Lib.hid hw17
              have HBV : Hid (Below W2.heap.size W2 w17) := Lib.hid (below_over HB15.out HB17.out)
              obtain ⟨e3, he3⟩ : ∃ e3, e3 = errV c3 := ⟨_, rfl⟩
              rw [← he3]
              have HE3 := Lib.hid he3
              clear x0 x1 x2 y2 y3 y4 y5 y6 y7 y8 hep3 hT3 hb16 B17 Y17 hl17 hw17 CE he3
              go_upto_region 20 with fail
              rw [← HW17.out]
              clear HW17
              have X0 := HX0.out w17 HBV.out
              have x0 := Lib.cell_of_heap X0 0
              have x1 := Lib.cell_of_heap X0 1
              have x2 := Lib.cell_of_heap X0 2
              simp at x0 x1 x2
              clear X0
              have X0 := HDX.out w17 HB17.out
              have y1 := Lib.cell_of_heap X0 1
              simp at y1
              clear X0
              have CE := Lib.hid (expand8_any m pkg major env Ai ci _ cd Ae ce (locA d.name) [.int .i64 8, .string ⟨#[]⟩, .int .i64 0, .string ⟨#[]⟩, .string d.name, .slice none 0 0, .slice none 0 0] w17 (HMW.out w17 HBV.out) HCAP.out hpk (HEW.out w17 HBV.out) hel
                (.mk 8 ⟨#[]⟩ 0 ⟨#[]⟩ d.name [] [] none 0 none 0 (fun _ => [.int .i64 0, .string ⟨#[]⟩, .int .i64 0, .string ⟨#[]⟩, .string ⟨#[]⟩, .slice none 0 0, .slice none 0 0]) (by decide) (by decide) zd (by decide) (by decide) (by decide) (fun i s h => by simp at h) (fun _ => rfl) (fun i t h => by simp at h) (fun i t h => by simp at h)) (fun d hd => (HM9.out d hd).1))
              go_wp2_with fail
              refine CE.out.mono ?_; rintro e w18 ⟨c4, u4, l4, hep4, rfl, hT4, hb18⟩
              obtain ⟨rfl, rfl⟩ := ep_alias HOK.out.1 HOK.out.2 HD0.out H3.out HEP3.out hep4
              have hT4 := hT4.free
              obtain ⟨Vn, vn, Vs, vs, rfl, -⟩ := hT4.parts
              obtain ⟨w19, hw19⟩ : ∃ w19, w19 = w18.alloc (.cells #[.int .i64 u3.kind, .string u3.pkg, .int .i64 u3.major, .string u3.mod, .string u3.name, .slice Vn u3.names.length vn, .slice Vs u3.subs.length vs] 30) := ⟨_, rfl⟩
              have B19 : Below w18.heap.size w18 w19 := by rw [hw19]; exact below_new (Below.refl _ _) _
              have Y19 : w19.heap[w18.heap.size]? = some (.cells #[.int .i64 u3.kind, .string u3.pkg, .int .i64 u3.major, .string u3.mod, .string u3.name, .slice Vn u3.names.length vn, .slice Vs u3.subs.length vs] 30 (0, 0)) := by rw [hw19]; exact heap_alloc_new w18 _
              have hl19 : w18.heap.size < w19.heap.size := by rw [hw19]; simp
              have HB19 : Hid (Below w17.heap.size w17 w19) := Lib.hid (below_over hb18 B19)
              have HTV : Hid (∀ wx, Below w19.heap.size w19 wx → TyAt wx [.int .i64 u3.kind, .string u3.pkg, .int .i64 u3.major, .string u3.mod, .string u3.name, .slice Vn u3.names.length vn, .slice Vs u3.subs.length vs] u3) := Lib.hid (fun wx hb => (hT4.keep B19).keep hb)
              have HVX : Hid (∀ wx, Below w19.heap.size w19 wx → wx.heap[w18.heap.size]? = some (.cells #[.int .i64 u3.kind, .string u3.pkg, .int .i64 u3.major, .string u3.mod, .string u3.name, .slice Vn u3.names.length vn, .slice Vs u3.subs.length vs] 30 (0, 0))) := Lib.hid (fun wx hb => (hb.block _ hl19).trans Y19)
              have HW19 := Lib.hid hw19
              rw [← HE3.out]
              have CC := Lib.hid (fun wx => code_err e3 c3 wx HE3.out (ep_code HEP3.out).1)
              clear x0 x1 x2 y1 hep4 hT4 hb18 B19 Y19 hl19 hw19 CE
              go_upto_region 21 with fail
              rw [← HW19.out]
              clear HW19
              go_wp2_with fail
              refine (CC.out _).mono ?_; rintro e w20 ⟨rfl, hb20⟩
              have HB20 := Lib.hid hb20
              clear hb20
              go_wp2_with fail
              refine (CC.out _).mono ?_; rintro e w21 ⟨rfl, hb21⟩
              have HB21 := Lib.hid (below_over HB20.out hb21)
              clear hb21
              have X0 := HUX.out w21 (below_over HB19.out HB21.out)
              have X1 := HVX.out w21 HB21.out
              have x0 := Lib.cell_of_heap X0 0
              have x1 := Lib.cell_of_heap X0 1
              have x2 := Lib.cell_of_heap X0 2
              have x3 := Lib.cell_of_heap X0 3
              have x4 := Lib.cell_of_heap X0 4
              have x5 := Lib.cell_of_heap X0 5
              have x6 := Lib.cell_of_heap X0 6
              have z0 := Lib.cell_of_heap X1 0
              have z1 := Lib.cell_of_heap X1 1
              have z2 := Lib.cell_of_heap X1 2
              have z3 := Lib.cell_of_heap X1 3
              have z4 := Lib.cell_of_heap X1 4
              have z5 := Lib.cell_of_heap X1 5
              have z6 := Lib.cell_of_heap X1 6
              simp at x0 x1 x2 x3 x4 x5 x6 z0 z1 z2 z3 z4 z5 z6
              clear X0 X1
              have CS := Lib.hid (same_any (many u3) u3 u3 (Nat.le_refl _) (.agg #[.int .i64 u3.kind, .string u3.pkg, .int .i64 u3.major, .string u3.mod, .string u3.name, .slice Un u3.names.length un, .slice Us u3.subs.length us]) (.agg #[.int .i64 u3.kind, .string u3.pkg, .int .i64 u3.major, .string u3.mod, .string u3.name, .slice Vn u3.names.length vn, .slice Vs u3.subs.length vs]) w21 ⟨_, rfl, HTU.out w21 (below_over HB19.out HB21.out)⟩ ⟨_, rfl, HTV.out w21 HB21.out⟩)
              rw [(sameT_iff u3 u3).2 rfl] at CS
              go_wp2_with fail
              refine CS.out.mono ?_; rintro e w22 ⟨rfl, hb22⟩
              have FIN := Lib.hid (below_over HB2.out (below_over HBV.out (below_over HB19.out (below_over HB21.out hb22))))
              clear x0 x1 x2 x3 x4 x5 x6 z0 z1 z2 z3 z4 z5 z6 hb22 CS
              go_wp2_with fail
              go_ret
              exact ⟨rfl, FIN.out⟩
            · have q3 : (d.kind == 3) = false := by simpa using h3
              have q4 : ¬ d.kind = 3 := h3
              clear h3
              go_wp2_with fail
              go_ret
              exact ⟨rfl, below_over HB2.out HB15.out⟩
          · have ha0 : ¬ a < 0 := ha
            have ha0' : decide (a < 0) = false := decide_eq_false ha
            obtain ⟨z, rfl⟩ : ∃ z : Nat, a = (z : Int) := ⟨a.toNat, by omega⟩
            have AZ : True := trivial
            clear ha
            go_upto_region 16 with fail
            clear ha0 ha0' 
            obtain ⟨k, hk⟩ : ∃ k, z % m.decs.length = k := ⟨_, rfl⟩
            have hkn : k < m.decs.length := by rw [← hk]; exact Nat.mod_lt _ (by omega)
            obtain ⟨d, hd⟩ : ∃ d, m.decs[k]? = some d := ⟨_, List.getElem?_eq_getElem hkn⟩
            have hrem : (z : Int).tmod (m.decs.length : Int) = (k : Int) := by rw [← Int.ofNat_tmod, hk]
            have hn0 : ¬ m.decs.length = 0 := hne
            have hn1 : ¬ m.decs = [] := fun h => hne (by rw [h]; rfl)
            have hk0 : (0 : Int) ≤ k := by omega
            have hk1 : (k : Int) < m.decs.length := by omega
            obtain ⟨g, o, v0, v1, v2, v3, v4, v5, v6, rfl, hg, b0, b1, b2, b3, b4, b5, b6, b7, b8, hTd, zd⟩ := HDW.out.de hd
            obtain ⟨Cn, cC, Cs, dC, ev, -⟩ := hTd.parts
            simp only [List.cons.injEq, and_true] at ev
            obtain ⟨rfl, rfl, rfl, rfl, rfl, rfl, rfl⟩ := ev
            have hgt : g < wt.heap.size := Nat.lt_of_lt_of_le hg HBT.out.size
            have KEEP : Hid (∀ wx, Below wt.heap.size wt wx → wx.cell? ⟨w.heap.size, 2, none⟩ = some (.slice (some ⟨g, o, none⟩) m.decs.length cd) ∧ wx.cell? ⟨g, o + k * 9, none⟩ = some (.int .i64 d.kind) ∧ wx.cell? ⟨g, o + k * 9 + 1, none⟩ = some (.string d.name) ∧ wx.cell? ⟨g, o + k * 9 + 2, none⟩ = some (.int .i64 d.typ.kind) ∧ wx.cell? ⟨g, o + k * 9 + 2 + 1, none⟩ = some (.string d.typ.pkg) ∧ wx.cell? ⟨g, o + k * 9 + 2 + 2, none⟩ = some (.int .i64 d.typ.major) ∧ wx.cell? ⟨g, o + k * 9 + 2 + 3, none⟩ = some (.string d.typ.mod) ∧ wx.cell? ⟨g, o + k * 9 + 2 + 4, none⟩ = some (.string d.typ.name) ∧ wx.cell? ⟨g, o + k * 9 + 2 + 5, none⟩ = some (.slice Cn d.typ.names.length cC) ∧ wx.cell? ⟨g, o + k * 9 + 2 + 6, none⟩ = some (.slice Cs d.typ.subs.length dC)) := Lib.hid (fun wx hb => by
              have hB := below_over HBT.out hb
              have cc := fun q v (hv : W2.cell? ⟨g, q, none⟩ = some v) => (hB.cell (p := ⟨g, q, none⟩) hg).trans hv
              exact ⟨by have := Lib.cell_of_heap (HX0.out wx hB) 2; simpa using this, cc _ _ b0, cc _ _ b1, cc _ _ b2, cc _ _ b3, cc _ _ b4, cc _ _ b5, cc _ _ b6, cc _ _ b7, cc _ _ b8⟩)
            have HTD : Hid (∀ wx, Below W2.heap.size W2 wx → TyAt wx [.int .i64 d.typ.kind, .string d.typ.pkg, .int .i64 d.typ.major, .string d.typ.mod, .string d.typ.name, .slice Cn d.typ.names.length cC, .slice Cs d.typ.subs.length dC] d.typ) := Lib.hid (fun wx hb => hTd.keep hb)
            have HD0 := Lib.hid hd
            have HX9 : Hid ((#[.int .i64 d.kind, .string d.name, .int .i64 d.typ.kind, .string d.typ.pkg, .int .i64 d.typ.major, .string d.typ.mod, .string d.typ.name, .slice Cn d.typ.names.length cC, .slice Cs d.typ.subs.length dC] : Array Value).all (·.oneCell') = true) := Lib.hid (Array.all_eq_true_iff_forall_mem.2 (fun v hv => by simp at hv; rcases hv with rfl | rfl | rfl | rfl | rfl | rfl | rfl | rfl | rfl <;> rfl))
            clear b0 b1 b2 b3 b4 b5 b6 b7 b8 hTd hd x0 x1 x2
            have hH0 := KEEP.out wt.drew (Below.drew (Below.refl _ _))
            refine AnyX.start (fun wx => wx.cell? ⟨w.heap.size, 2, none⟩ = some (.slice (some ⟨g, o, none⟩) m.decs.length cd) ∧ wx.cell? ⟨g, o + k * 9, none⟩ = some (.int .i64 d.kind) ∧ wx.cell? ⟨g, o + k * 9 + 1, none⟩ = some (.string d.name) ∧ wx.cell? ⟨g, o + k * 9 + 2, none⟩ = some (.int .i64 d.typ.kind) ∧ wx.cell? ⟨g, o + k * 9 + 2 + 1, none⟩ = some (.string d.typ.pkg) ∧ wx.cell? ⟨g, o + k * 9 + 2 + 2, none⟩ = some (.int .i64 d.typ.major) ∧ wx.cell? ⟨g, o + k * 9 + 2 + 3, none⟩ = some (.string d.typ.mod) ∧ wx.cell? ⟨g, o + k * 9 + 2 + 4, none⟩ = some (.string d.typ.name) ∧ wx.cell? ⟨g, o + k * 9 + 2 + 5, none⟩ = some (.slice Cn d.typ.names.length cC) ∧ wx.cell? ⟨g, o + k * 9 + 2 + 6, none⟩ = some (.slice Cs d.typ.subs.length dC)) (fun _ => false) (by kernel_rfl) ?_
            refine AnyX.move (i := 0) (v := ?_) rfl (by kernel_rfl) (by kernel_rfl) (by kernel_rfl) (by kernel_rfl) (fun _ _ _ h => h) (Or.inl ⟨by rfl, ?_⟩) ?_
            rotate_left
            · (intro wS _; go_simp; try with_reducible rfl)
            simp only [List.getElem_toArray, List.getElem_cons_succ, List.getElem_cons_zero]
            simp only [Act.put, List.setIfInBounds_toArray]
            simp only [List.set_cons_zero, List.set_cons_succ]
            refine AnyX.take (i := 1) (v := ?_) rfl (by kernel_rfl) (by kernel_rfl) (by kernel_rfl) (by kernel_rfl) (by kernel_rfl) (fun _ _ _ h => h) hH0 (Or.inl ⟨by rfl, ?_⟩) ?_
            rotate_left
            · (intro wS hS; (try obtain ⟨s2, q0, q1, q2, q3, q4, q5, q6, q7, q8⟩ := hS); go_simp; try with_reducible rfl)
            simp only [List.getElem_toArray, List.getElem_cons_succ, List.getElem_cons_zero]
            simp only [Act.put, List.setIfInBounds_toArray]
            simp only [List.set_cons_zero, List.set_cons_succ]
            refine AnyX.move (i := 2) (v := ?_) rfl (by kernel_rfl) (by kernel_rfl) (by kernel_rfl) (by kernel_rfl) (fun _ _ _ h => h) (Or.inl ⟨by rfl, ?_⟩) ?_
            rotate_left
            · (intro wS _; go_simp; try with_reducible rfl)
            simp only [List.getElem_toArray, List.getElem_cons_succ, List.getElem_cons_zero]
            simp only [Act.put, List.setIfInBounds_toArray]
            simp only [List.set_cons_zero, List.set_cons_succ]
            refine AnyX.move (i := 3) (v := ?_) rfl (by kernel_rfl) (by kernel_rfl) (by kernel_rfl) (by kernel_rfl) (fun _ _ _ h => h) (Or.inl ⟨by rfl, ?_⟩) ?_
            rotate_left
            · (intro wS _; go_simp; try with_reducible rfl)
            simp only [List.getElem_toArray, List.getElem_cons_succ, List.getElem_cons_zero]
            simp only [Act.put, List.setIfInBounds_toArray]
            simp only [List.set_cons_zero, List.set_cons_succ]
            refine AnyX.take (i := 4) (v := ?_) rfl (by kernel_rfl) (by kernel_rfl) (by kernel_rfl) (by kernel_rfl) (by kernel_rfl) (fun _ _ _ h => h) hH0 (Or.inl ⟨by rfl, ?_⟩) ?_
            rotate_left
            · (intro wS hS; (try obtain ⟨s2, q0, q1, q2, q3, q4, q5, q6, q7, q8⟩ := hS); go_simp; try with_reducible rfl)
            simp only [List.getElem_toArray, List.getElem_cons_succ, List.getElem_cons_zero]
            simp only [Act.put, List.setIfInBounds_toArray]
            simp only [List.set_cons_zero, List.set_cons_succ]
            refine AnyX.move (i := 5) (v := ?_) rfl (by kernel_rfl) (by kernel_rfl) (by kernel_rfl) (by kernel_rfl) (fun _ _ _ h => h) (Or.inl ⟨by rfl, ?_⟩) ?_
            rotate_left
            · (intro wS _; go_simp; try with_reducible rfl)
            simp only [List.getElem_toArray, List.getElem_cons_succ, List.getElem_cons_zero]
            simp only [Act.put, List.setIfInBounds_toArray]
            simp only [List.set_cons_zero, List.set_cons_succ]
            refine AnyX.move (i := 6) (v := ?_) rfl (by kernel_rfl) (by kernel_rfl) (by kernel_rfl) (by kernel_rfl) (fun _ _ _ h => h) (Or.inl ⟨by rfl, ?_⟩) ?_
            rotate_left
            · (intro wS _; go_simp; try with_reducible rfl)
            simp only [List.getElem_toArray, List.getElem_cons_succ, List.getElem_cons_zero]
            simp only [Act.put, List.setIfInBounds_toArray]
            simp only [List.set_cons_zero, List.set_cons_succ]
            refine AnyX.move (i := 7) (v := ?_) rfl (by kernel_rfl) (by kernel_rfl) (by kernel_rfl) (by kernel_rfl) (fun _ _ _ h => h) (Or.inl ⟨by rfl, ?_⟩) ?_
            rotate_left
            · (intro wS _; go_simp; try with_reducible rfl)
            simp only [List.getElem_toArray, List.getElem_cons_succ, List.getElem_cons_zero]
            simp only [Act.put, List.setIfInBounds_toArray]
            simp only [List.set_cons_zero, List.set_cons_succ]
            refine AnyX.take (i := 8) (v := ?_) rfl (by kernel_rfl) (by kernel_rfl) (by kernel_rfl) (by kernel_rfl) (by kernel_rfl) (fun _ _ _ h => h) hH0 (Or.inl ⟨by rfl, ?_⟩) ?_
            rotate_left
            · (intro wS hS; (try obtain ⟨s2, q0, q1, q2, q3, q4, q5, q6, q7, q8⟩ := hS); go_simp; try with_reducible rfl)
            simp only [List.getElem_toArray, List.getElem_cons_succ, List.getElem_cons_zero]
            simp only [Act.put, List.setIfInBounds_toArray]
            simp only [List.set_cons_zero, List.set_cons_succ]
            refine AnyX.go 9 (by kernel_rfl) rfl rfl (fun K hK => ?_)
            simp only [List.getElem_toArray, List.getElem_cons_succ, List.getElem_cons_zero]
            go_simp
            refine hK.out _ _ (fun hoff _ => KEEP.out _ (below_new (Below.drew (Below.refl _ _)) _)) ?_
            clear hK
            try simp only [Act.put, List.setIfInBounds_toArray]
            try simp only [List.set_cons_zero, List.set_cons_succ]
            have X9 : (wt.alloc (.cells #[.int .i64 0, .string ⟨#[]⟩, .int .i64 0, .string ⟨#[]⟩, .int .i64 0, .string ⟨#[]⟩, .string ⟨#[]⟩, .slice none 0 0, .slice none 0 0] 63)).drew.heap[wt.heap.size]? = some (.cells #[.int .i64 0, .string ⟨#[]⟩, .int .i64 0, .string ⟨#[]⟩, .int .i64 0, .string ⟨#[]⟩, .string ⟨#[]⟩, .slice none 0 0, .slice none 0 0] 63 (0, 0)) := heap_alloc_new wt _
            refine AnyX.go 10 (by kernel_rfl) rfl rfl (fun K hK => ?_)
            simp only [List.getElem_toArray, List.getElem_cons_succ, List.getElem_cons_zero]
            refine wp_store_row 63 (.tmp 22) (.tmp 116) rfl wt.heap.size #[.int .i64 d.kind, .string d.name, .int .i64 d.typ.kind, .string d.typ.pkg, .int .i64 d.typ.major, .string d.typ.mod, .string d.typ.name, .slice Cn d.typ.names.length cC, .slice Cs d.typ.subs.length dC] rfl rfl _ _ X9 decSize rfl HX9.out ?_
            obtain ⟨w15, hw15⟩ : ∃ w15, w15 = (wt.alloc (.cells #[.int .i64 0, .string ⟨#[]⟩, .int .i64 0, .string ⟨#[]⟩, .int .i64 0, .string ⟨#[]⟩, .string ⟨#[]⟩, .slice none 0 0, .slice none 0 0] 63)).drew.setRow wt.heap.size #[.int .i64 d.kind, .string d.name, .int .i64 d.typ.kind, .string d.typ.pkg, .int .i64 d.typ.major, .string d.typ.mod, .string d.typ.name, .slice Cn d.typ.names.length cC, .slice Cs d.typ.subs.length dC] := ⟨_, rfl⟩
            have B15 : Below wt.heap.size wt w15 := by rw [hw15]; exact setRow_below (w := wt) (Below.drew (below_new (Below.refl _ _) _)) (Nat.le_refl _) _
            have Y15 : w15.heap[wt.heap.size]? = some (.cells #[.int .i64 d.kind, .string d.name, .int .i64 d.typ.kind, .string d.typ.pkg, .int .i64 d.typ.major, .string d.typ.mod, .string d.typ.name, .slice Cn d.typ.names.length cC, .slice Cs d.typ.subs.length dC] 63 (0, 0)) := by rw [hw15]; exact setRow_heap _ _ _ _ _ _ X9
            have hl15 : wt.heap.size < w15.heap.size := by rw [hw15]; simp
            have HB15 : Hid (Below W2.heap.size W2 w15) := Lib.hid (below_over HBT.out B15)
            have HDX : Hid (∀ wx, Below w15.heap.size w15 wx → wx.heap[wt.heap.size]? = some (.cells #[.int .i64 d.kind, .string d.name, .int .i64 d.typ.kind, .string d.typ.pkg, .int .i64 d.typ.major, .string d.typ.mod, .string d.typ.name, .slice Cn d.typ.names.length cC, .slice Cs d.typ.subs.length dC] 63 (0, 0))) := Lib.hid (fun wx hb => (hb.block _ hl15).trans Y15)
            have HW15 := Lib.hid hw15
            have hH15 := KEEP.out w15 B15
            rw [← HW15.out]
            clear hw15 X9 Y15 hl15 HW15
            refine hK.out _ _ (fun hoff _ => hH15) ?_
            clear hK
            try simp only [Act.put, List.setIfInBounds_toArray]
            try simp only [List.set_cons_zero, List.set_cons_succ]
            refine AnyX.done (by kernel_rfl) ?_ _
            clear hH0 hH15 hrem hn0 hn1 B15
            have X0 := HDX.out w15 (Below.refl _ _)
            have y0 := Lib.cell_of_heap X0 0
            simp at y0
            clear X0
            by_cases h3 : d.kind = 3
            · have q3 : (d.kind == 3) = true := by rw [h3]; rfl
              have H3 := Lib.hid h3
              clear h3
              go_upto_region 19 with fail
              clear q3 y0
              have X0 := HX0.out w15 HB15.out
              have x0 := Lib.cell_of_heap X0 0
              have x1 := Lib.cell_of_heap X0 1
              have x2 := Lib.cell_of_heap X0 2
              simp at x0 x1 x2
              clear X0
              have X0 := HDX.out w15 (Below.refl _ _)
              have y2 := Lib.cell_of_heap X0 2
              have y3 := Lib.cell_of_heap X0 3
              have y4 := Lib.cell_of_heap X0 4
              have y5 := Lib.cell_of_heap X0 5
              have y6 := Lib.cell_of_heap X0 6
              have y7 := Lib.cell_of_heap X0 7
              have y8 := Lib.cell_of_heap X0 8
              simp at y2 y3 y4 y5 y6 y7 y8
              clear X0
              have CE := Lib.hid (expand8_any m pkg major env Ai ci _ cd Ae ce d.typ _ w15 (HMW.out w15 HB15.out) HCAP.out hpk (HEW.out w15 HB15.out) hel (HTD.out w15 HB15.out) (fun d hd => (HM9.out d hd).1))
              go_wp2_with fail
              refine CE.out.mono ?_; rintro e w16 ⟨c3, u3, l3, hep3, rfl, hT3, hb16⟩
              have HEP3 := Lib.hid hep3
              have hT3 := hT3.free
              obtain ⟨Un, un, Us, us, rfl, -⟩ := hT3.parts
              obtain ⟨w17, hw17⟩ : ∃ w17, w17 = w16.alloc (.cells #[.int .i64 u3.kind, .string u3.pkg, .int .i64 u3.major, .string u3.mod, .string u3.name, .slice Un u3.names.length un, .slice Us u3.subs.length us] 30) := ⟨_, rfl⟩
              have B17 : Below w16.heap.size w16 w17 := by rw [hw17]; exact below_new (Below.refl _ _) _
              have Y17 : w17.heap[w16.heap.size]? = some (.cells #[.int .i64 u3.kind, .string u3.pkg, .int .i64 u3.major, .string u3.mod, .string u3.name, .slice Un u3.names.length un, .slice Us u3.subs.length us] 30 (0, 0)) := by rw [hw17]; exact heap_alloc_new w16 _
              have hl17 : w16.heap.size < w17.heap.size := by rw [hw17]; simp
              have HB17 : Hid (Below w15.heap.size w15 w17) := Lib.hid (below_over hb16 B17)
              have HTU : Hid (∀ wx, Below w17.heap.size w17 wx → TyAt wx [.int .i64 u3.kind, .string u3.pkg, .int .i64 u3.major, .string u3.mod, .string u3.name, .slice Un u3.names.length un, .slice Us u3.subs.length us] u3) := Lib.hid (fun wx hb => (hT3.keep B17).keep hb)
              have HUX : Hid (∀ wx, Below w17.heap.size w17 wx → wx.heap[w16.heap.size]? = some (.cells #[.int .i64 u3.kind, .string u3.pkg, .int .i64 u3.major, .string u3.mod, .string u3.name, .slice Un u3.names.length un, .slice Us u3.subs.length us] 30 (0, 0))) := Lib.hid (fun wx hb => (hb.block _ hl17).trans Y17)
              have HW17 := Lib.hid hw17
              have HBV : Hid (Below W2.heap.size W2 w17) := Lib.hid (below_over HB15.out HB17.out)
              obtain ⟨e3, he3⟩ : ∃ e3, e3 = errV c3 := ⟨_, rfl⟩
              rw [← he3]
              have HE3 := Lib.hid he3
              clear x0 x1 x2 y2 y3 y4 y5 y6 y7 y8 hep3 hT3 hb16 B17 Y17 hl17 hw17 CE he3
              go_upto_region 20 with fail
              rw [← HW17.out]
              clear HW17
              have X0 := HX0.out w17 HBV.out
              have x0 := Lib.cell_of_heap X0 0
              have x1 := Lib.cell_of_heap X0 1
              have x2 := Lib.cell_of_heap X0 2
              simp at x0 x1 x2
              clear X0
              have X0 := HDX.out w17 HB17.out
              have y1 := Lib.cell_of_heap X0 1
              simp at y1
              clear X0
              have CE := Lib.hid (expand8_any m pkg major env Ai ci _ cd Ae ce (locA d.name) [.int .i64 8, .string ⟨#[]⟩, .int .i64 0, .string ⟨#[]⟩, .string d.name, .slice none 0 0, .slice none 0 0] w17 (HMW.out w17 HBV.out) HCAP.out hpk (HEW.out w17 HBV.out) hel
                (.mk 8 ⟨#[]⟩ 0 ⟨#[]⟩ d.name [] [] none 0 none 0 (fun _ => [.int .i64 0, .string ⟨#[]⟩, .int .i64 0, .string ⟨#[]⟩, .string ⟨#[]⟩, .slice none 0 0, .slice none 0 0]) (by decide) (by decide) zd (by decide) (by decide) (by decide) (fun i s h => by simp at h) (fun _ => rfl) (fun i t h => by simp at h) (fun i t h => by simp at h)) (fun d hd => (HM9.out d hd).1))
              go_wp2_with fail
              refine CE.out.mono ?_; rintro e w18 ⟨c4, u4, l4, hep4, rfl, hT4, hb18⟩
              obtain ⟨rfl, rfl⟩ := ep_alias HOK.out.1 HOK.out.2 HD0.out H3.out HEP3.out hep4
              have hT4 := hT4.free
              obtain ⟨Vn, vn, Vs, vs, rfl, -⟩ := hT4.parts
              obtain ⟨w19, hw19⟩ : ∃ w19, w19 = w18.alloc (.cells #[.int .i64 u3.kind, .string u3.pkg, .int .i64 u3.major, .string u3.mod, .string u3.name, .slice Vn u3.names.length vn, .slice Vs u3.subs.length vs] 30) := ⟨_, rfl⟩
              have B19 : Below w18.heap.size w18 w19 := by rw [hw19]; exact below_new (Below.refl _ _) _
              have Y19 : w19.heap[w18.heap.size]? = some (.cells #[.int .i64 u3.kind, .string u3.pkg, .int .i64 u3.major, .string u3.mod, .string u3.name, .slice Vn u3.names.length vn, .slice Vs u3.subs.length vs] 30 (0, 0)) := by rw [hw19]; exact heap_alloc_new w18 _
              have hl19 : w18.heap.size < w19.heap.size := by rw [hw19]; simp
              have HB19 : Hid (Below w17.heap.size w17 w19) := Lib.hid (below_over hb18 B19)
              have HTV : Hid (∀ wx, Below w19.heap.size w19 wx → TyAt wx [.int .i64 u3.kind, .string u3.pkg, .int .i64 u3.major, .string u3.mod, .string u3.name, .slice Vn u3.names.length vn, .slice Vs u3.subs.length vs] u3) := Lib.hid (fun wx hb => (hT4.keep B19).keep hb)
              have HVX : Hid (∀ wx, Below w19.heap.size w19 wx → wx.heap[w18.heap.size]? = some (.cells #[.int .i64 u3.kind, .string u3.pkg, .int .i64 u3.major, .string u3.mod, .string u3.name, .slice Vn u3.names.length vn, .slice Vs u3.subs.length vs] 30 (0, 0))) := Lib.hid (fun wx hb => (hb.block _ hl19).trans Y19)
              have HW19 := Lib.hid hw19
              rw [← HE3.out]
              have CC := Lib.hid (fun wx => code_err e3 c3 wx HE3.out (ep_code HEP3.out).1)
              clear x0 x1 x2 y1 hep4 hT4 hb18 B19 Y19 hl19 hw19 CE
              go_upto_region 21 with fail
              rw [← HW19.out]
              clear HW19
              go_wp2_with fail
              refine (CC.out _).mono ?_; rintro e w20 ⟨rfl, hb20⟩
              have HB20 := Lib.hid hb20
              clear hb20
              go_wp2_with fail
              refine (CC.out _).mono ?_; rintro e w21 ⟨rfl, hb21⟩
              have HB21 := Lib.hid (below_over HB20.out hb21)
              clear hb21
              have X0 := HUX.out w21 (below_over HB19.out HB21.out)
              have X1 := HVX.out w21 HB21.out
              have x0 := Lib.cell_of_heap X0 0
              have x1 := Lib.cell_of_heap X0 1
              have x2 := Lib.cell_of_heap X0 2
              have x3 := Lib.cell_of_heap X0 3
              have x4 := Lib.cell_of_heap X0 4
              have x5 := Lib.cell_of_heap X0 5
              have x6 := Lib.cell_of_heap X0 6
              have z0 := Lib.cell_of_heap X1 0
              have z1 := Lib.cell_of_heap X1 1
              have z2 := Lib.cell_of_heap X1 2
              have z3 := Lib.cell_of_heap X1 3
              have z4 := Lib.cell_of_heap X1 4
              have z5 := Lib.cell_of_heap X1 5
              have z6 := Lib.cell_of_heap X1 6
              simp at x0 x1 x2 x3 x4 x5 x6 z0 z1 z2 z3 z4 z5 z6
              clear X0 X1
              have CS := Lib.hid (same_any (many u3) u3 u3 (Nat.le_refl _) (.agg #[.int .i64 u3.kind, .string u3.pkg, .int .i64 u3.major, .string u3.mod, .string u3.name, .slice Un u3.names.length un, .slice Us u3.subs.length us]) (.agg #[.int .i64 u3.kind, .string u3.pkg, .int .i64 u3.major, .string u3.mod, .string u3.name, .slice Vn u3.names.length vn, .slice Vs u3.subs.length vs]) w21 ⟨_, rfl, HTU.out w21 (below_over HB19.out HB21.out)⟩ ⟨_, rfl, HTV.out w21 HB21.out⟩)
              rw [(sameT_iff u3 u3).2 rfl] at CS
              go_wp2_with fail
              refine CS.out.mono ?_; rintro e w22 ⟨rfl, hb22⟩
              have FIN := Lib.hid (below_over HB2.out (below_over HBV.out (below_over HB19.out (below_over HB21.out hb22))))
              clear x0 x1 x2 x3 x4 x5 x6 z0 z1 z2 z3 z4 z5 z6 hb22 CS
              go_wp2_with fail
              go_ret
              exact ⟨rfl, FIN.out⟩
            · have q3 : (d.kind == 3) = false := by simpa using h3
              have q4 : ¬ d.kind = 3 := h3
              clear h3
              go_wp2_with fail
              go_ret
              exact ⟨rfl, below_over HB2.out HB15.out⟩
      · go_wp2_with fail
        go_ret
        exact ⟨rfl, below_over HB2.out HBT.out⟩
    · obtain rfl : e1 = .iface 60 (.int .i64 c1) := HE1.out.trans (errV_no hc1)
      clear hc1
      go_upto_region 12 with fail
      rcases HCK.out with ⟨rfl, hok⟩ | ⟨T17, x17, rfl⟩
      · have HOK := Lib.hid hok
        clear hok
        have X0 := HX0.out wt HBT.out
        have x0 := Lib.cell_of_heap X0 0
        have x1 := Lib.cell_of_heap X0 1
        have x2 := Lib.cell_of_heap X0 2
        simp at x0 x1 x2
        clear X0
        by_cases hne : m.decs.length = 0
        · have he0 : ((m.decs.length : Int) == 0) = true := by rw [hne]; rfl
          clear hne
          go_wp2_with fail
          go_ret
          exact ⟨rfl, below_over HB2.out HBT.out⟩
        · have he0 : ((m.decs.length : Int) == 0) = false := by rw [beq_eq_false_iff_ne, ne_eq]; omega
          go_upto_region 14 with fail
          clear he0
          by_cases ha : a < 0
          · obtain ⟨z, hz⟩ : ∃ z : Nat, -(a + 1) = (z : Int) := ⟨(-(a + 1)).toNat, by omega⟩
            have hw1 : IntKind.i64.wrap (a + 1) = a + 1 := IntWalk.i64_in _ (by omega)
            have hw2 : IntKind.i64.wrap (-(a + 1)) = (z : Int) := by rw [hz]; exact IntWalk.i64_in _ (by omega)
            go_upto_region 16 with fail
            clear hw1 hw2 ha
            obtain ⟨k, hk⟩ : ∃ k, z % m.decs.length = k := ⟨_, rfl⟩
            have hkn : k < m.decs.length := by rw [← hk]; exact Nat.mod_lt _ (by omega)
            obtain ⟨d, hd⟩ : ∃ d, m.decs[k]? = some d := ⟨_, List.getElem?_eq_getElem hkn⟩
            have hrem : (z : Int).tmod (m.decs.length : Int) = (k : Int) := by rw [← Int.ofNat_tmod, hk]
            have hn0 : ¬ m.decs.length = 0 := hne
            have hn1 : ¬ m.decs = [] := fun h => hne (by rw [h]; rfl)
            have hk0 : (0 : Int) ≤ k := by omega
            have hk1 : (k : Int) < m.decs.length := by omega
            obtain ⟨g, o, v0, v1, v2, v3, v4, v5, v6, rfl, hg, b0, b1, b2, b3, b4, b5, b6, b7, b8, hTd, zd⟩ := HDW.out.de hd
            obtain ⟨Cn, cC, Cs, dC, ev, -⟩ := hTd.parts
            simp only [List.cons.injEq, and_true] at ev
            obtain ⟨rfl, rfl, rfl, rfl, rfl, rfl, rfl⟩ := ev
            have hgt : g < wt.heap.size := Nat.lt_of_lt_of_le hg HBT.out.size
            have KEEP : Hid (∀ wx, Below wt.heap.size wt wx → wx.cell? ⟨w.heap.size, 2, none⟩ = some (.slice (some ⟨g, o, none⟩) m.decs.length cd) ∧ wx.cell? ⟨g, o + k * 9, none⟩ = some (.int .i64 d.kind) ∧ wx.cell? ⟨g, o + k * 9 + 1, none⟩ = some (.string d.name) ∧ wx.cell? ⟨g, o + k * 9 + 2, none⟩ = some (.int .i64 d.typ.kind) ∧ wx.cell? ⟨g, o + k * 9 + 2 + 1, none⟩ = some (.string d.typ.pkg) ∧ wx.cell? ⟨g, o + k * 9 + 2 + 2, none⟩ = some (.int .i64 d.typ.major) ∧ wx.cell? ⟨g, o + k * 9 + 2 + 3, none⟩ = some (.string d.typ.mod) ∧ wx.cell? ⟨g, o + k * 9 + 2 + 4, none⟩ = some (.string d.typ.name) ∧ wx.cell? ⟨g, o + k * 9 + 2 + 5, none⟩ = some (.slice Cn d.typ.names.length cC) ∧ wx.cell? ⟨g, o + k * 9 + 2 + 6, none⟩ = some (.slice Cs d.typ.subs.length dC)) := Lib.hid (fun wx hb => by
              have hB := below_over HBT.out hb
              have cc := fun q v (hv : W2.cell? ⟨g, q, none⟩ = some v) => (hB.cell (p := ⟨g, q, none⟩) hg).trans hv
              exact ⟨by have := Lib.cell_of_heap (HX0.out wx hB) 2; simpa using this, cc _ _ b0, cc _ _ b1, cc _ _ b2, cc _ _ b3, cc _ _ b4, cc _ _ b5, cc _ _ b6, cc _ _ b7, cc _ _ b8⟩)
            have HTD : Hid (∀ wx, Below W2.heap.size W2 wx → TyAt wx [.int .i64 d.typ.kind, .string d.typ.pkg, .int .i64 d.typ.major, .string d.typ.mod, .string d.typ.name, .slice Cn d.typ.names.length cC, .slice Cs d.typ.subs.length dC] d.typ) := Lib.hid (fun wx hb => hTd.keep hb)
            have HD0 := Lib.hid hd
            have HX9 : Hid ((#[.int .i64 d.kind, .string d.name, .int .i64 d.typ.kind, .string d.typ.pkg, .int .i64 d.typ.major, .string d.typ.mod, .string d.typ.name, .slice Cn d.typ.names.length cC, .slice Cs d.typ.subs.length dC] : Array Value).all (·.oneCell') = true) := Lib.hid (Array.all_eq_true_iff_forall_mem.2 (fun v hv => by simp at hv; rcases hv with rfl | rfl | rfl | rfl | rfl | rfl | rfl | rfl | rfl <;> rfl))
            clear b0 b1 b2 b3 b4 b5 b6 b7 b8 hTd hd x0 x1 x2
            have hH0 := KEEP.out wt.drew (Below.drew (Below.refl _ _))
            refine AnyX.start (fun wx => wx.cell? ⟨w.heap.size, 2, none⟩ = some (.slice (some ⟨g, o, none⟩) m.decs.length cd) ∧ wx.cell? ⟨g, o + k * 9, none⟩ = some (.int .i64 d.kind) ∧ wx.cell? ⟨g, o + k * 9 + 1, none⟩ = some (.string d.name) ∧ wx.cell? ⟨g, o + k * 9 + 2, none⟩ = some (.int .i64 d.typ.kind) ∧ wx.cell? ⟨g, o + k * 9 + 2 + 1, none⟩ = some (.string d.typ.pkg) ∧ wx.cell? ⟨g, o + k * 9 + 2 + 2, none⟩ = some (.int .i64 d.typ.major) ∧ wx.cell? ⟨g, o + k * 9 + 2 + 3, none⟩ = some (.string d.typ.mod) ∧ wx.cell? ⟨g, o + k * 9 + 2 + 4, none⟩ = some (.string d.typ.name) ∧ wx.cell? ⟨g, o + k * 9 + 2 + 5, none⟩ = some (.slice Cn d.typ.names.length cC) ∧ wx.cell? ⟨g, o + k * 9 + 2 + 6, none⟩ = some (.slice Cs d.typ.subs.length dC)) (fun _ => false) (by kernel_rfl) ?_
            refine AnyX.move (i := 0) (v := ?_) rfl (by kernel_rfl) (by kernel_rfl) (by kernel_rfl) (by kernel_rfl) (fun _ _ _ h => h) (Or.inl ⟨by rfl, ?_⟩) ?_
            rotate_left
            · (intro wS _; go_simp; try with_reducible rfl)
            simp only [List.getElem_toArray, List.getElem_cons_succ, List.getElem_cons_zero]
            simp only [Act.put, List.setIfInBounds_toArray]
            simp only [List.set_cons_zero, List.set_cons_succ]
            refine AnyX.take (i := 1) (v := ?_) rfl (by kernel_rfl) (by kernel_rfl) (by kernel_rfl) (by kernel_rfl) (by kernel_rfl) (fun _ _ _ h => h) hH0 (Or.inl ⟨by rfl, ?_⟩) ?_
            rotate_left
            · (intro wS hS; (try obtain ⟨s2, q0, q1, q2, q3, q4, q5, q6, q7, q8⟩ := hS); go_simp; try with_reducible rfl)
            simp only [List.getElem_toArray, List.getElem_cons_succ, List.getElem_cons_zero]
            simp only [Act.put, List.setIfInBounds_toArray]
            simp only [List.set_cons_zero, List.set_cons_succ]
            refine AnyX.move (i := 2) (v := ?_) rfl (by kernel_rfl) (by kernel_rfl) (by kernel_rfl) (by kernel_rfl) (fun _ _ _ h => h) (Or.inl ⟨by rfl, ?_⟩) ?_
            rotate_left
            · (intro wS _; go_simp; try with_reducible rfl)
            simp only [List.getElem_toArray, List.getElem_cons_succ, List.getElem_cons_zero]
            simp only [Act.put, List.setIfInBounds_toArray]
            simp only [List.set_cons_zero, List.set_cons_succ]
            refine AnyX.move (i := 3) (v := ?_) rfl (by kernel_rfl) (by kernel_rfl) (by kernel_rfl) (by kernel_rfl) (fun _ _ _ h => h) (Or.inl ⟨by rfl, ?_⟩) ?_
            rotate_left
            · (intro wS _; go_simp; try with_reducible rfl)
            simp only [List.getElem_toArray, List.getElem_cons_succ, List.getElem_cons_zero]
            simp only [Act.put, List.setIfInBounds_toArray]
            simp only [List.set_cons_zero, List.set_cons_succ]
            refine AnyX.take (i := 4) (v := ?_) rfl (by kernel_rfl) (by kernel_rfl) (by kernel_rfl) (by kernel_rfl) (by kernel_rfl) (fun _ _ _ h => h) hH0 (Or.inl ⟨by rfl, ?_⟩) ?_
            rotate_left
            · (intro wS hS; (try obtain ⟨s2, q0, q1, q2, q3, q4, q5, q6, q7, q8⟩ := hS); go_simp; try with_reducible rfl)
            simp only [List.getElem_toArray, List.getElem_cons_succ, List.getElem_cons_zero]
            simp only [Act.put, List.setIfInBounds_toArray]
            simp only [List.set_cons_zero, List.set_cons_succ]
            refine AnyX.move (i := 5) (v := ?_) rfl (by kernel_rfl) (by kernel_rfl) (by kernel_rfl) (by kernel_rfl) (fun _ _ _ h => h) (Or.inl ⟨by rfl, ?_⟩) ?_
            rotate_left
            · (intro wS _; go_simp; try with_reducible rfl)
            simp only [List.getElem_toArray, List.getElem_cons_succ, List.getElem_cons_zero]
            simp only [Act.put, List.setIfInBounds_toArray]
            simp only [List.set_cons_zero, List.set_cons_succ]
            refine AnyX.move (i := 6) (v := ?_) rfl (by kernel_rfl) (by kernel_rfl) (by kernel_rfl) (by kernel_rfl) (fun _ _ _ h => h) (Or.inl ⟨by rfl, ?_⟩) ?_
            rotate_left
            · (intro wS _; go_simp; try with_reducible rfl)
            simp only [List.getElem_toArray, List.getElem_cons_succ, List.getElem_cons_zero]
            simp only [Act.put, List.setIfInBounds_toArray]
            simp only [List.set_cons_zero, List.set_cons_succ]
            refine AnyX.move (i := 7) (v := ?_) rfl (by kernel_rfl) (by kernel_rfl) (by kernel_rfl) (by kernel_rfl) (fun _ _ _ h => h) (Or.inl ⟨by rfl, ?_⟩) ?_
            rotate_left
            · (intro wS _; go_simp; try with_reducible rfl)
            simp only [List.getElem_toArray, List.getElem_cons_succ, List.getElem_cons_zero]
            simp only [Act.put, List.setIfInBounds_toArray]
            simp only [List.set_cons_zero, List.set_cons_succ]
            refine AnyX.take (i := 8) (v := ?_) rfl (by kernel_rfl) (by kernel_rfl) (by kernel_rfl) (by kernel_rfl) (by kernel_rfl) (fun _ _ _ h => h) hH0 (Or.inl ⟨by rfl, ?_⟩) ?_
            rotate_left
            · (intro wS hS; (try obtain ⟨s2, q0, q1, q2, q3, q4, q5, q6, q7, q8⟩ := hS); go_simp; try with_reducible rfl)
            simp only [List.getElem_toArray, List.getElem_cons_succ, List.getElem_cons_zero]
            simp only [Act.put, List.setIfInBounds_toArray]
            simp only [List.set_cons_zero, List.set_cons_succ]
            refine AnyX.go 9 (by kernel_rfl) rfl rfl (fun K hK => ?_)
            simp only [List.getElem_toArray, List.getElem_cons_succ, List.getElem_cons_zero]
            go_simp
            refine hK.out _ _ (fun hoff _ => KEEP.out _ (below_new (Below.drew (Below.refl _ _)) _)) ?_
            clear hK
            try simp only [Act.put, List.setIfInBounds_toArray]
            try simp only [List.set_cons_zero, List.set_cons_succ]
            have X9 : (wt.alloc (.cells #[.int .i64 0, .string ⟨#[]⟩, .int .i64 0, .string ⟨#[]⟩, .int .i64 0, .string ⟨#[]⟩, .string ⟨#[]⟩, .slice none 0 0, .slice none 0 0] 63)).drew.heap[wt.heap.size]? = some (.cells #[.int .i64 0, .string ⟨#[]⟩, .int .i64 0, .string ⟨#[]⟩, .int .i64 0, .string ⟨#[]⟩, .string ⟨#[]⟩, .slice none 0 0, .slice none 0 0] 63 (0, 0)) := heap_alloc_new wt _
            refine AnyX.go 10 (by kernel_rfl) rfl rfl (fun K hK => ?_)
            simp only [List.getElem_toArray, List.getElem_cons_succ, List.getElem_cons_zero]
            refine wp_store_row 63 (.tmp 22) (.tmp 116) rfl wt.heap.size #[.int .i64 d.kind, .string d.name, .int .i64 d.typ.kind, .string d.typ.pkg, .int .i64 d.typ.major, .string d.typ.mod, .string d.typ.name, .slice Cn d.typ.names.length cC, .slice Cs d.typ.subs.length dC] rfl rfl _ _ X9 decSize rfl HX9.out ?_
            obtain ⟨w15, hw15⟩ : ∃ w15, w15 = (wt.alloc (.cells #[.int .i64 0, .string ⟨#[]⟩, .int .i64 0, .string ⟨#[]⟩, .int .i64 0, .string ⟨#[]⟩, .string ⟨#[]⟩, .slice none 0 0, .slice none 0 0] 63)).drew.setRow wt.heap.size #[.int .i64 d.kind, .string d.name, .int .i64 d.typ.kind, .string d.typ.pkg, .int .i64 d.typ.major, .string d.typ.mod, .string d.typ.name, .slice Cn d.typ.names.length cC, .slice Cs d.typ.subs.length dC] := ⟨_, rfl⟩
            have B15 : Below wt.heap.size wt w15 := by rw [hw15]; exact setRow_below (w := wt) (Below.drew (below_new (Below.refl _ _) _)) (Nat.le_refl _) _
            have Y15 : w15.heap[wt.heap.size]? = some (.cells #[.int .i64 d.kind, .string d.name, .int .i64 d.typ.kind, .string d.typ.pkg, .int .i64 d.typ.major, .string d.typ.mod, .string d.typ.name, .slice Cn d.typ.names.length cC, .slice Cs d.typ.subs.length dC] 63 (0, 0)) := by rw [hw15]; exact setRow_heap _ _ _ _ _ _ X9
            have hl15 : wt.heap.size < w15.heap.size := by rw [hw15]; simp
            have HB15 : Hid (Below W2.heap.size W2 w15) := Lib.hid (below_over HBT.out B15)
            have HDX : Hid (∀ wx, Below w15.heap.size w15 wx → wx.heap[wt.heap.size]? = some (.cells #[.int .i64 d.kind, .string d.name, .int .i64 d.typ.kind, .string d.typ.pkg, .int .i64 d.typ.major, .string d.typ.mod, .string d.typ.name, .slice Cn d.typ.names.length cC, .slice Cs d.typ.subs.length dC] 63 (0, 0))) := Lib.hid (fun wx hb => (hb.block _ hl15).trans Y15)
            have HW15 := Lib.hid hw15
            have hH15 := KEEP.out w15 B15
            rw [← HW15.out]
            clear hw15 X9 Y15 hl15 HW15
            refine hK.out _ _ (fun hoff _ => hH15) ?_
            clear hK
            try simp only [Act.put, List.setIfInBounds_toArray]
            try simp only [List.set_cons_zero, List.set_cons_succ]
            refine AnyX.done (by kernel_rfl) ?_ _
            clear hH0 hH15 hrem hn0 hn1 B15
            have X0 := HDX.out w15 (Below.refl _ _)
            have y0 := Lib.cell_of_heap X0 0
            simp at y0
            clear X0
            by_cases h3 : d.kind = 3
            · have q3 : (d.kind == 3) = true := by rw [h3]; rfl
              have H3 := Lib.hid h3
              clear h3
              go_upto_region 19 with fail
              clear q3 y0
              have X0 := HX0.out w15 HB15.out
              have x0 := Lib.cell_of_heap X0 0
              have x1 := Lib.cell_of_heap X0 1
              have x2 := Lib.cell_of_heap X0 2
              simp at x0 x1 x2
              clear X0
              have X0 := HDX.out w15 (Below.refl _ _)
              have y2 := Lib.cell_of_heap X0 2
              have y3 := Lib.cell_of_heap X0 3
              have y4 := Lib.cell_of_heap X0 4
              have y5 := Lib.cell_of_heap X0 5
              have y6 := Lib.cell_of_heap X0 6
              have y7 := Lib.cell_of_heap X0 7
              have y8 := Lib.cell_of_heap X0 8
              simp at y2 y3 y4 y5 y6 y7 y8
              clear X0
              have CE := Lib.hid (expand8_any m pkg major env Ai ci _ cd Ae ce d.typ _ w15 (HMW.out w15 HB15.out) HCAP.out hpk (HEW.out w15 HB15.out) hel (HTD.out w15 HB15.out) (fun d hd => (HM9.out d hd).1))
              go_wp2_with fail
              refine CE.out.mono ?_; rintro e w16 ⟨c3, u3, l3, hep3, rfl, hT3, hb16⟩
              have HEP3 := Lib.hid hep3
              have hT3 := hT3.free
              obtain ⟨Un, un, Us, us, rfl, -⟩ := hT3.parts
              obtain ⟨w17, hw17⟩ : ∃ w17, w17 = w16.alloc (.cells #[.int .i64 u3.kind, .string u3.pkg, .int .i64 u3.major, .string u3.mod, .string u3.name, .slice Un u3.names.length un, .slice Us u3.subs.length us] 30) := ⟨_, rfl⟩
              have B17 : Below w16.heap.size w16 w17 := by rw [hw17]; exact below_new (Below.refl _ _) _
              have Y17 : w17.heap[w16.heap.size]? = some (.cells #[.int .i64 u3.kind, .string u3.pkg, .int .i64 u3.major, .string u3.mod, .string u3.name, .slice Un u3.names.length un, .slice Us u3.subs.length us] 30 (0, 0)) := by rw [hw17]; exact heap_alloc_new w16 _
              have hl17 : w16.heap.size < w17.heap.size := by rw [hw17]; simp
              have HB17 : Hid (Below w15.heap.size w15 w17) := Lib.hid (below_over hb16 B17)
              have HTU : Hid (∀ wx, Below w17.heap.size w17 wx → TyAt wx [.int .i64 u3.kind, .string u3.pkg, .int .i64 u3.major, .string u3.mod, .string u3.name, .slice Un u3.names.length un, .slice Us u3.subs.length us] u3) := Lib.hid (fun wx hb => (hT3.keep B17).keep hb)
              have HUX : Hid (∀ wx, Below w17.heap.size w17 wx → wx.heap[w16.heap.size]? = some (.cells #[.int .i64 u3.kind, .string u3.pkg, .int .i64 u3.major, .string u3.mod, .string u3.name, .slice Un u3.names.length un, .slice Us u3.subs.length us] 30 (0, 0))) := Lib.hid (fun wx hb => (hb.block _ hl17).trans Y17)
              have HW17 := Lib.hid hw17
              have HBV : Hid (Below W2.heap.size W2 w17) := Lib.hid (below_over HB15.out HB17.out)
              obtain ⟨e3, he3⟩ : ∃ e3, e3 = errV c3 := ⟨_, rfl⟩
              rw [← he3]
              have HE3 := Lib.hid he3
              clear x0 x1 x2 y2 y3 y4 y5 y6 y7 y8 hep3 hT3 hb16 B17 Y17 hl17 hw17 CE he3
              go_upto_region 20 with fail
              rw [← HW17.out]
              clear HW17
              have X0 := HX0.out w17 HBV.out
              have x0 := Lib.cell_of_heap X0 0
              have x1 := Lib.cell_of_heap X0 1
              have x2 := Lib.cell_of_heap X0 2
              simp at x0 x1 x2
              clear X0
              have X0 := HDX.out w17 HB17.out
              have y1 := Lib.cell_of_heap X0 1
              simp at y1
              clear X0
              have CE := Lib.hid (expand8_any m pkg major env Ai ci _ cd Ae ce (locA d.name) [.int .i64 8, .string ⟨#[]⟩, .int .i64 0, .string ⟨#[]⟩, .string d.name, .slice none 0 0, .slice none 0 0] w17 (HMW.out w17 HBV.out) HCAP.out hpk (HEW.out w17 HBV.out) hel
                (.mk 8 ⟨#[]⟩ 0 ⟨#[]⟩ d.name [] [] none 0 none 0 (fun _ => [.int .i64 0, .string ⟨#[]⟩, .int .i64 0, .string ⟨#[]⟩, .string ⟨#[]⟩, .slice none 0 0, .slice none 0 0]) (by decide) (by decide) zd (by decide) (by decide) (by decide) (fun i s h => by simp at h) (fun _ => rfl) (fun i t h => by simp at h) (fun i t h => by simp at h)) (fun d hd => (HM9.out d hd).1))
              go_wp2_with fail
              refine CE.out.mono ?_; rintro e w18 ⟨c4, u4, l4, hep4, rfl, hT4, hb18⟩
              obtain ⟨rfl, rfl⟩ := ep_alias HOK.out.1 HOK.out.2 HD0.out H3.out HEP3.out hep4
              have hT4 := hT4.free
              obtain ⟨Vn, vn, Vs, vs, rfl, -⟩ := hT4.parts
              obtain ⟨w19, hw19⟩ : ∃ w19, w19 = w18.alloc (.cells #[.int .i64 u3.kind, .string u3.pkg, .int .i64 u3.major, .string u3.mod, .string u3.name, .slice Vn u3.names.length vn, .slice Vs u3.subs.length vs] 30) := ⟨_, rfl⟩
              have B19 : Below w18.heap.size w18 w19 := by rw [hw19]; exact below_new (Below.refl _ _) _
              have Y19 : w19.heap[w18.heap.size]? = some (.cells #[.int .i64 u3.kind, .string u3.pkg, .int .i64 u3.major, .string u3.mod, .string u3.name, .slice Vn u3.names.length vn, .slice Vs u3.subs.length vs] 30 (0, 0)) := by rw [hw19]; exact heap_alloc_new w18 _
              have hl19 : w18.heap.size < w19.heap.size := by rw [hw19]; simp
              have HB19 : Hid (Below w17.heap.size w17 w19) := Lib.hid (below_over hb18 B19)
              have HTV : Hid (∀ wx, Below w19.heap.size w19 wx → TyAt wx [.int .i64 u3.kind, .string u3.pkg, .int .i64 u3.major, .string u3.mod, .string u3.name, .slice Vn u3.names.length vn, .slice Vs u3.subs.length vs] u3) := Lib.hid (fun wx hb => (hT4.keep B19).keep hb)
              have HVX : Hid (∀ wx, Below w19.heap.size w19 wx → wx.heap[w18.heap.size]? = some (.cells #[.int .i64 u3.kind, .string u3.pkg, .int .i64 u3.major, .string u3.mod, .string u3.name, .slice Vn u3.names.length vn, .slice Vs u3.subs.length vs] 30 (0, 0))) := Lib.hid (fun wx hb => (hb.block _ hl19).trans Y19)
              have HW19 := Lib.hid hw19
              rw [← HE3.out]
              have CC := Lib.hid (fun wx => code_err e3 c3 wx HE3.out (ep_code HEP3.out).1)
              clear x0 x1 x2 y1 hep4 hT4 hb18 B19 Y19 hl19 hw19 CE
              go_upto_region 21 with fail
              rw [← HW19.out]
              clear HW19
              go_wp2_with fail
              refine (CC.out _).mono ?_; rintro e w20 ⟨rfl, hb20⟩
              have HB20 := Lib.hid hb20
              clear hb20
              go_wp2_with fail
              refine (CC.out _).mono ?_; rintro e w21 ⟨rfl, hb21⟩
              have HB21 := Lib.hid (below_over HB20.out hb21)
              clear hb21
              have X0 := HUX.out w21 (below_over HB19.out HB21.out)
              have X1 := HVX.out w21 HB21.out
              have x0 := Lib.cell_of_heap X0 0
              have x1 := Lib.cell_of_heap X0 1
              have x2 := Lib.cell_of_heap X0 2
              have x3 := Lib.cell_of_heap X0 3
              have x4 := Lib.cell_of_heap X0 4
              have x5 := Lib.cell_of_heap X0 5
              have x6 := Lib.cell_of_heap X0 6
              have z0 := Lib.cell_of_heap X1 0
              have z1 := Lib.cell_of_heap X1 1
              have z2 := Lib.cell_of_heap X1 2
              have z3 := Lib.cell_of_heap X1 3
              have z4 := Lib.cell_of_heap X1 4
              have z5 := Lib.cell_of_heap X1 5
              have z6 := Lib.cell_of_heap X1 6
              simp at x0 x1 x2 x3 x4 x5 x6 z0 z1 z2 z3 z4 z5 z6
              clear X0 X1
              have CS := Lib.hid (same_any (many u3) u3 u3 (Nat.le_refl _) (.agg #[.int .i64 u3.kind, .string u3.pkg, .int .i64 u3.major, .string u3.mod, .string u3.name, .slice Un u3.names.length un, .slice Us u3.subs.length us]) (.agg #[.int .i64 u3.kind, .string u3.pkg, .int .i64 u3.major, .string u3.mod, .string u3.name, .slice Vn u3.names.length vn, .slice Vs u3.subs.length vs]) w21 ⟨_, rfl, HTU.out w21 (below_over HB19.out HB21.out)⟩ ⟨_, rfl, HTV.out w21 HB21.out⟩)
              rw [(sameT_iff u3 u3).2 rfl] at CS
              go_wp2_with fail
              refine CS.out.mono ?_; rintro e w22 ⟨rfl, hb22⟩
              have FIN := Lib.hid (below_over HB2.out (below_over HBV.out (below_over HB19.out (below_over HB21.out hb22))))
              clear x0 x1 x2 x3 x4 x5 x6 z0 z1 z2 z3 z4 z5 z6 hb22 CS
              go_wp2_with fail
              go_ret
              exact ⟨rfl, FIN.out⟩
            · have q3 : (d.kind == 3) = false := by simpa using h3
              have q4 : ¬ d.kind = 3 := h3
              clear h3
              go_wp2_with fail
              go_ret
              exact ⟨rfl, below_over HB2.out HB15.out⟩
          · have ha0 : ¬ a < 0 := ha
            have ha0' : decide (a < 0) = false := decide_eq_false ha
            obtain ⟨z, rfl⟩ : ∃ z : Nat, a = (z : Int) := ⟨a.toNat, by omega⟩
            have AZ : True := trivial
            clear ha
            go_upto_region 16 with fail
            clear ha0 ha0' 
            obtain ⟨k, hk⟩ : ∃ k, z % m.decs.length = k := ⟨_, rfl⟩
            have hkn : k < m.decs.length := by rw [← hk]; exact Nat.mod_lt _ (by omega)
            obtain ⟨d, hd⟩ : ∃ d, m.decs[k]? = some d := ⟨_, List.getElem?_eq_getElem hkn⟩
            have hrem : (z : Int).tmod (m.decs.length : Int) = (k : Int) := by rw [← Int.ofNat_tmod, hk]
            have hn0 : ¬ m.decs.length = 0 := hne
            have hn1 : ¬ m.decs = [] := fun h => hne (by rw [h]; rfl)
            have hk0 : (0 : Int) ≤ k := by omega
            have hk1 : (k : Int) < m.decs.length := by omega
            obtain ⟨g, o, v0, v1, v2, v3, v4, v5, v6, rfl, hg, b0, b1, b2, b3, b4, b5, b6, b7, b8, hTd, zd⟩ := HDW.out.de hd
            obtain ⟨Cn, cC, Cs, dC, ev, -⟩ := hTd.parts
            simp only [List.cons.injEq, and_true] at ev
            obtain ⟨rfl, rfl, rfl, rfl, rfl, rfl, rfl⟩ := ev
            have hgt : g < wt.heap.size := Nat.lt_of_lt_of_le hg HBT.out.size
            have KEEP : Hid (∀ wx, Below wt.heap.size wt wx → wx.cell? ⟨w.heap.size, 2, none⟩ = some (.slice (some ⟨g, o, none⟩) m.decs.length cd) ∧ wx.cell? ⟨g, o + k * 9, none⟩ = some (.int .i64 d.kind) ∧ wx.cell? ⟨g, o + k * 9 + 1, none⟩ = some (.string d.name) ∧ wx.cell? ⟨g, o + k * 9 + 2, none⟩ = some (.int .i64 d.typ.kind) ∧ wx.cell? ⟨g, o + k * 9 + 2 + 1, none⟩ = some (.string d.typ.pkg) ∧ wx.cell? ⟨g, o + k * 9 + 2 + 2, none⟩ = some (.int .i64 d.typ.major) ∧ wx.cell? ⟨g, o + k * 9 + 2 + 3, none⟩ = some (.string d.typ.mod) ∧ wx.cell? ⟨g, o + k * 9 + 2 + 4, none⟩ = some (.string d.typ.name) ∧ wx.cell? ⟨g, o + k * 9 + 2 + 5, none⟩ = some (.slice Cn d.typ.names.length cC) ∧ wx.cell? ⟨g, o + k * 9 + 2 + 6, none⟩ = some (.slice Cs d.typ.subs.length dC)) := Lib.hid (fun wx hb => by
              have hB := below_over HBT.out hb
              have cc := fun q v (hv : W2.cell? ⟨g, q, none⟩ = some v) => (hB.cell (p := ⟨g, q, none⟩) hg).trans hv
              exact ⟨by have := Lib.cell_of_heap (HX0.out wx hB) 2; simpa using this, cc _ _ b0, cc _ _ b1, cc _ _ b2, cc _ _ b3, cc _ _ b4, cc _ _ b5, cc _ _ b6, cc _ _ b7, cc _ _ b8⟩)
            have HTD : Hid (∀ wx, Below W2.heap.size W2 wx → TyAt wx [.int .i64 d.typ.kind, .string d.typ.pkg, .int .i64 d.typ.major, .string d.typ.mod, .string d.typ.name, .slice Cn d.typ.names.length cC, .slice Cs d.typ.subs.length dC] d.typ) := Lib.hid (fun wx hb => hTd.keep hb)
            have HD0 := Lib.hid hd
            have HX9 : Hid ((#[.int .i64 d.kind, .string d.name, .int .i64 d.typ.kind, .string d.typ.pkg, .int .i64 d.typ.major, .string d.typ.mod, .string d.typ.name, .slice Cn d.typ.names.length cC, .slice Cs d.typ.subs.length dC] : Array Value).all (·.oneCell') = true) := Lib.hid (Array.all_eq_true_iff_forall_mem.2 (fun v hv => by simp at hv; rcases hv with rfl | rfl | rfl | rfl | rfl | rfl | rfl | rfl | rfl <;> rfl))
            clear b0 b1 b2 b3 b4 b5 b6 b7 b8 hTd hd x0 x1 x2
            have hH0 := KEEP.out wt.drew (Below.drew (Below.refl _ _))
            refine AnyX.start (fun wx => wx.cell? ⟨w.heap.size, 2, none⟩ = some (.slice (some ⟨g, o, none⟩) m.decs.length cd) ∧ wx.cell? ⟨g, o + k * 9, none⟩ = some (.int .i64 d.kind) ∧ wx.cell? ⟨g, o + k * 9 + 1, none⟩ = some (.string d.name) ∧ wx.cell? ⟨g, o + k * 9 + 2, none⟩ = some (.int .i64 d.typ.kind) ∧ wx.cell? ⟨g, o + k * 9 + 2 + 1, none⟩ = some (.string d.typ.pkg) ∧ wx.cell? ⟨g, o + k * 9 + 2 + 2, none⟩ = some (.int .i64 d.typ.major) ∧ wx.cell? ⟨g, o + k * 9 + 2 + 3, none⟩ = some (.string d.typ.mod) ∧ wx.cell? ⟨g, o + k * 9 + 2 + 4, none⟩ = some (.string d.typ.name) ∧ wx.cell? ⟨g, o + k * 9 + 2 + 5, none⟩ = some (.slice Cn d.typ.names.length cC) ∧ wx.cell? ⟨g, o + k * 9 + 2 + 6, none⟩ = some (.slice Cs d.typ.subs.length dC)) (fun _ => false) (by kernel_rfl) ?_
            refine AnyX.move (i := 0) (v := ?_) rfl (by kernel_rfl) (by kernel_rfl) (by kernel_rfl) (by kernel_rfl) (fun _ _ _ h => h) (Or.inl ⟨by rfl, ?_⟩) ?_
            rotate_left
            · (intro wS _; go_simp; try with_reducible rfl)
            simp only [List.getElem_toArray, List.getElem_cons_succ, List.getElem_cons_zero]
            simp only [Act.put, List.setIfInBounds_toArray]
            simp only [List.set_cons_zero, List.set_cons_succ]
            refine AnyX.take (i := 1) (v := ?_) rfl (by kernel_rfl) (by kernel_rfl) (by kernel_rfl) (by kernel_rfl) (by kernel_rfl) (fun _ _ _ h => h) hH0 (Or.inl ⟨by rfl, ?_⟩) ?_
            rotate_left
            · (intro wS hS; (try obtain ⟨s2, q0, q1, q2, q3, q4, q5, q6, q7, q8⟩ := hS); go_simp; try with_reducible rfl)
            simp only [List.getElem_toArray, List.getElem_cons_succ, List.getElem_cons_zero]
            simp only [Act.put, List.setIfInBounds_toArray]
            simp only [List.set_cons_zero, List.set_cons_succ]
            refine AnyX.move (i := 2) (v := ?_) rfl (by kernel_rfl) (by kernel_rfl) (by kernel_rfl) (by kernel_rfl) (fun _ _ _ h => h) (Or.inl ⟨by rfl, ?_⟩) ?_
            rotate_left
            · (intro wS _; go_simp; try with_reducible rfl)
            simp only [List.getElem_toArray, List.getElem_cons_succ, List.getElem_cons_zero]
            simp only [Act.put, List.setIfInBounds_toArray]
            simp only [List.set_cons_zero, List.set_cons_succ]
            refine AnyX.move (i := 3) (v := ?_) rfl (by kernel_rfl) (by kernel_rfl) (by kernel_rfl) (by kernel_rfl) (fun _ _ _ h => h) (Or.inl ⟨by rfl, ?_⟩) ?_
            rotate_left
            · (intro wS _; go_simp; try with_reducible rfl)
            simp only [List.getElem_toArray, List.getElem_cons_succ, List.getElem_cons_zero]
            simp only [Act.put, List.setIfInBounds_toArray]
            simp only [List.set_cons_zero, List.set_cons_succ]
            refine AnyX.take (i := 4) (v := ?_) rfl (by kernel_rfl) (by kernel_rfl) (by kernel_rfl) (by kernel_rfl) (by kernel_rfl) (fun _ _ _ h => h) hH0 (Or.inl ⟨by rfl, ?_⟩) ?_
            rotate_left
            · (intro wS hS; (try obtain ⟨s2, q0, q1, q2, q3, q4, q5, q6, q7, q8⟩ := hS); go_simp; try with_reducible rfl)
            simp only [List.getElem_toArray, List.getElem_cons_succ, List.getElem_cons_zero]
            simp only [Act.put, List.setIfInBounds_toArray]
            simp only [List.set_cons_zero, List.set_cons_succ]
            refine AnyX.move (i := 5) (v := ?_) rfl (by kernel_rfl) (by kernel_rfl) (by kernel_rfl) (by kernel_rfl) (fun _ _ _ h => h) (Or.inl ⟨by rfl, ?_⟩) ?_
            rotate_left
            · (intro wS _; go_simp; try with_reducible rfl)
            simp only [List.getElem_toArray, List.getElem_cons_succ, List.getElem_cons_zero]
            simp only [Act.put, List.setIfInBounds_toArray]
            simp only [List.set_cons_zero, List.set_cons_succ]
            refine AnyX.move (i := 6) (v := ?_) rfl (by kernel_rfl) (by kernel_rfl) (by kernel_rfl) (by kernel_rfl) (fun _ _ _ h => h) (Or.inl ⟨by rfl, ?_⟩) ?_
            rotate_left
            · (intro wS _; go_simp; try with_reducible rfl)
            simp only [List.getElem_toArray, List.getElem_cons_succ, List.getElem_cons_zero]
            simp only [Act.put, List.setIfInBounds_toArray]
            simp only [List.set_cons_zero, List.set_cons_succ]
            refine AnyX.move (i := 7) (v := ?_) rfl (by kernel_rfl) (by kernel_rfl) (by kernel_rfl) (by kernel_rfl) (fun _ _ _ h => h) (Or.inl ⟨by rfl, ?_⟩) ?_
            rotate_left
            · (intro wS _; go_simp; try with_reducible rfl)
            simp only [List.getElem_toArray, List.getElem_cons_succ, List.getElem_cons_zero]
            simp only [Act.put, List.setIfInBounds_toArray]
            simp only [List.set_cons_zero, List.set_cons_succ]
            refine AnyX.take (i := 8) (v := ?_) rfl (by kernel_rfl) (by kernel_rfl) (by kernel_rfl) (by kernel_rfl) (by kernel_rfl) (fun _ _ _ h => h) hH0 (Or.inl ⟨by rfl, ?_⟩) ?_
            rotate_left
            · (intro wS hS; (try obtain ⟨s2, q0, q1, q2, q3, q4, q5, q6, q7, q8⟩ := hS); go_simp; try with_reducible rfl)
            simp only [List.getElem_toArray, List.getElem_cons_succ, List.getElem_cons_zero]
            simp only [Act.put, List.setIfInBounds_toArray]
            simp only [List.set_cons_zero, List.set_cons_succ]
            refine AnyX.go 9 (by kernel_rfl) rfl rfl (fun K hK => ?_)
            simp only [List.getElem_toArray, List.getElem_cons_succ, List.getElem_cons_zero]
            go_simp
            refine hK.out _ _ (fun hoff _ => KEEP.out _ (below_new (Below.drew (Below.refl _ _)) _)) ?_
            clear hK
            try simp only [Act.put, List.setIfInBounds_toArray]
            try simp only [List.set_cons_zero, List.set_cons_succ]
            have X9 : (wt.alloc (.cells #[.int .i64 0, .string ⟨#[]⟩, .int .i64 0, .string ⟨#[]⟩, .int .i64 0, .string ⟨#[]⟩, .string ⟨#[]⟩, .slice none 0 0, .slice none 0 0] 63)).drew.heap[wt.heap.size]? = some (.cells #[.int .i64 0, .string ⟨#[]⟩, .int .i64 0, .string ⟨#[]⟩, .int .i64 0, .string ⟨#[]⟩, .string ⟨#[]⟩, .slice none 0 0, .slice none 0 0] 63 (0, 0)) := heap_alloc_new wt _
            refine AnyX.go 10 (by kernel_rfl) rfl rfl (fun K hK => ?_)
            simp only [List.getElem_toArray, List.getElem_cons_succ, List.getElem_cons_zero]
            refine wp_store_row 63 (.tmp 22) (.tmp 116) rfl wt.heap.size #[.int .i64 d.kind, .string d.name, .int .i64 d.typ.kind, .string d.typ.pkg, .int .i64 d.typ.major, .string d.typ.mod, .string d.typ.name, .slice Cn d.typ.names.length cC, .slice Cs d.typ.subs.length dC] rfl rfl _ _ X9 decSize rfl HX9.out ?_
            obtain ⟨w15, hw15⟩ : ∃ w15, w15 = (wt.alloc (.cells #[.int .i64 0, .string ⟨#[]⟩, .int .i64 0, .string ⟨#[]⟩, .int .i64 0, .string ⟨#[]⟩, .string ⟨#[]⟩, .slice none 0 0, .slice none 0 0] 63)).drew.setRow wt.heap.size #[.int .i64 d.kind, .string d.name, .int .i64 d.typ.kind, .string d.typ.pkg, .int .i64 d.typ.major, .string d.typ.mod, .string d.typ.name, .slice Cn d.typ.names.length cC, .slice Cs d.typ.subs.length dC] := ⟨_, rfl⟩
            have B15 : Below wt.heap.size wt w15 := by rw [hw15]; exact setRow_below (w := wt) (Below.drew (below_new (Below.refl _ _) _)) (Nat.le_refl _) _
            have Y15 : w15.heap[wt.heap.size]? = some (.cells #[.int .i64 d.kind, .string d.name, .int .i64 d.typ.kind, .string d.typ.pkg, .int .i64 d.typ.major, .string d.typ.mod, .string d.typ.name, .slice Cn d.typ.names.length cC, .slice Cs d.typ.subs.length dC] 63 (0, 0)) := by rw [hw15]; exact setRow_heap _ _ _ _ _ _ X9
            have hl15 : wt.heap.size < w15.heap.size := by rw [hw15]; simp
            have HB15 : Hid (Below W2.heap.size W2 w15) := Lib.hid (below_over HBT.out B15)
            have HDX : Hid (∀ wx, Below w15.heap.size w15 wx → wx.heap[wt.heap.size]? = some (.cells #[.int .i64 d.kind, .string d.name, .int .i64 d.typ.kind, .string d.typ.pkg, .int .i64 d.typ.major, .string d.typ.mod, .string d.typ.name, .slice Cn d.typ.names.length cC, .slice Cs d.typ.subs.length dC] 63 (0, 0))) := Lib.hid (fun wx hb => (hb.block _ hl15).trans Y15)
            have HW15 := Lib.hid hw15
            have hH15 := KEEP.out w15 B15
            rw [← HW15.out]
            clear hw15 X9 Y15 hl15 HW15
            refine hK.out _ _ (fun hoff _ => hH15) ?_
            clear hK
            try simp only [Act.put, List.setIfInBounds_toArray]
            try simp only [List.set_cons_zero, List.set_cons_succ]
            refine AnyX.done (by kernel_rfl) ?_ _
            clear hH0 hH15 hrem hn0 hn1 B15
            have X0 := HDX.out w15 (Below.refl _ _)
            have y0 := Lib.cell_of_heap X0 0
            simp at y0
            clear X0
            by_cases h3 : d.kind = 3
            · have q3 : (d.kind == 3) = true := by rw [h3]; rfl
              have H3 := Lib.hid h3
              clear h3
              go_upto_region 19 with fail
              clear q3 y0
              have X0 := HX0.out w15 HB15.out
              have x0 := Lib.cell_of_heap X0 0
              have x1 := Lib.cell_of_heap X0 1
              have x2 := Lib.cell_of_heap X0 2
              simp at x0 x1 x2
              clear X0
              have X0 := HDX.out w15 (Below.refl _ _)
              have y2 := Lib.cell_of_heap X0 2
              have y3 := Lib.cell_of_heap X0 3
              have y4 := Lib.cell_of_heap X0 4
              have y5 := Lib.cell_of_heap X0 5
              have y6 := Lib.cell_of_heap X0 6
              have y7 := Lib.cell_of_heap X0 7
              have y8 := Lib.cell_of_heap X0 8
              simp at y2 y3 y4 y5 y6 y7 y8
              clear X0
              have CE := Lib.hid (expand8_any m pkg major env Ai ci _ cd Ae ce d.typ _ w15 (HMW.out w15 HB15.out) HCAP.out hpk (HEW.out w15 HB15.out) hel (HTD.out w15 HB15.out) (fun d hd => (HM9.out d hd).1))
              go_wp2_with fail
              refine CE.out.mono ?_; rintro e w16 ⟨c3, u3, l3, hep3, rfl, hT3, hb16⟩
              have HEP3 := Lib.hid hep3
              have hT3 := hT3.free
              obtain ⟨Un, un, Us, us, rfl, -⟩ := hT3.parts
              obtain ⟨w17, hw17⟩ : ∃ w17, w17 = w16.alloc (.cells #[.int .i64 u3.kind, .string u3.pkg, .int .i64 u3.major, .string u3.mod, .string u3.name, .slice Un u3.names.length un, .slice Us u3.subs.length us] 30) := ⟨_, rfl⟩
              have B17 : Below w16.heap.size w16 w17 := by rw [hw17]; exact below_new (Below.refl _ _) _
              have Y17 : w17.heap[w16.heap.size]? = some (.cells #[.int .i64 u3.kind, .string u3.pkg, .int .i64 u3.major, .string u3.mod, .string u3.name, .slice Un u3.names.length un, .slice Us u3.subs.length us] 30 (0, 0)) := by rw [hw17]; exact heap_alloc_new w16 _
              have hl17 : w16.heap.size < w17.heap.size := by rw [hw17]; simp
              have HB17 : Hid (Below w15.heap.size w15 w17) := Lib.hid (below_over hb16 B17)
              have HTU : Hid (∀ wx, Below w17.heap.size w17 wx → TyAt wx [.int .i64 u3.kind, .string u3.pkg, .int .i64 u3.major, .string u3.mod, .string u3.name, .slice Un u3.names.length un, .slice Us u3.subs.length us] u3) := Lib.hid (fun wx hb => (hT3.keep B17).keep hb)
              have HUX : Hid (∀ wx, Below w17.heap.size w17 wx → wx.heap[w16.heap.size]? = some (.cells #[.int .i64 u3.kind, .string u3.pkg, .int .i64 u3.major, .string u3.mod, .string u3.name, .slice Un u3.names.length un, .slice Us u3.subs.length us] 30 (0, 0))) := Lib.hid (fun wx hb => (hb.block _ hl17).trans Y17)
              have HW17 := Lib.hid hw17
              have HBV : Hid (Below W2.heap.size W2 w17) := Lib.hid (below_over HB15.out HB17.out)
              obtain ⟨e3, he3⟩ : ∃ e3, e3 = errV c3 := ⟨_, rfl⟩
              rw [← he3]
              have HE3 := Lib.hid he3
              clear x0 x1 x2 y2 y3 y4 y5 y6 y7 y8 hep3 hT3 hb16 B17 Y17 hl17 hw17 CE he3
              go_upto_region 20 with fail
              rw [← HW17.out]
              clear HW17
              have X0 := HX0.out w17 HBV.out
              have x0 := Lib.cell_of_heap X0 0
              have x1 := Lib.cell_of_heap X0 1
              have x2 := Lib.cell_of_heap X0 2
              simp at x0 x1 x2
              clear X0
              have X0 := HDX.out w17 HB17.out
              have y1 := Lib.cell_of_heap X0 1
              simp at y1
              clear X0
              have CE := Lib.hid (expand8_any m pkg major env Ai ci _ cd Ae ce (locA d.name) [.int .i64 8, .string ⟨#[]⟩, .int .i64 0, .string ⟨#[]⟩, .string d.name, .slice none 0 0, .slice none 0 0] w17 (HMW.out w17 HBV.out) HCAP.out hpk (HEW.out w17 HBV.out) hel
                (.mk 8 ⟨#[]⟩ 0 ⟨#[]⟩ d.name [] [] none 0 none 0 (fun _ => [.int .i64 0, .string ⟨#[]⟩, .int .i64 0, .string ⟨#[]⟩, .string ⟨#[]⟩, .slice none 0 0, .slice none 0 0]) (by decide) (by decide) zd (by decide) (by decide) (by decide) (fun i s h => by simp at h) (fun _ => rfl) (fun i t h => by simp at h) (fun i t h => by simp at h)) (fun d hd => (HM9.out d hd).1))
              go_wp2_with fail
              refine CE.out.mono ?_; rintro e w18 ⟨c4, u4, l4, hep4, rfl, hT4, hb18⟩
              obtain ⟨rfl, rfl⟩ := ep_alias HOK.out.1 HOK.out.2 HD0.out H3.out HEP3.out hep4
              have hT4 := hT4.free
              obtain ⟨Vn, vn, Vs, vs, rfl, -⟩ := hT4.parts
              obtain ⟨w19, hw19⟩ : ∃ w19, w19 = w18.alloc (.cells #[.int .i64 u3.kind, .string u3.pkg, .int .i64 u3.major, .string u3.mod, .string u3.name, .slice Vn u3.names.length vn, .slice Vs u3.subs.length vs] 30) := ⟨_, rfl⟩
              have B19 : Below w18.heap.size w18 w19 := by rw [hw19]; exact below_new (Below.refl _ _) _
              have Y19 : w19.heap[w18.heap.size]? = some (.cells #[.int .i64 u3.kind, .string u3.pkg, .int .i64 u3.major, .string u3.mod, .string u3.name, .slice Vn u3.names.length vn, .slice Vs u3.subs.length vs] 30 (0, 0)) := by rw [hw19]; exact heap_alloc_new w18 _
              have hl19 : w18.heap.size < w19.heap.size := by rw [hw19]; simp
              have HB19 : Hid (Below w17.heap.size w17 w19) := Lib.hid (below_over hb18 B19)
              have HTV : Hid (∀ wx, Below w19.heap.size w19 wx → TyAt wx [.int .i64 u3.kind, .string u3.pkg, .int .i64 u3.major, .string u3.mod, .string u3.name, .slice Vn u3.names.length vn, .slice Vs u3.subs.length vs] u3) := Lib.hid (fun wx hb => (hT4.keep B19).keep hb)
              have HVX : Hid (∀ wx, Below w19.heap.size w19 wx → wx.heap[w18.heap.size]? = some (.cells #[.int .i64 u3.kind, .string u3.pkg, .int .i64 u3.major, .string u3.mod, .string u3.name, .slice Vn u3.names.length vn, .slice Vs u3.subs.length vs] 30 (0, 0))) := Lib.hid (fun wx hb => (hb.block _ hl19).trans Y19)
              have HW19 := Lib.hid hw19
              rw [← HE3.out]
              have CC := Lib.hid (fun wx => code_err e3 c3 wx HE3.out (ep_code HEP3.out).1)
              clear x0 x1 x2 y1 hep4 hT4 hb18 B19 Y19 hl19 hw19 CE
              go_upto_region 21 with fail
              rw [← HW19.out]
              clear HW19
              go_wp2_with fail
              refine (CC.out _).mono ?_; rintro e w20 ⟨rfl, hb20⟩
              have HB20 := Lib.hid hb20
              clear hb20
              go_wp2_with fail
              refine (CC.out _).mono ?_; rintro e w21 ⟨rfl, hb21⟩
              have HB21 := Lib.hid (below_over HB20.out hb21)
              clear hb21
              have X0 := HUX.out w21 (below_over HB19.out HB21.out)
              have X1 := HVX.out w21 HB21.out
              have x0 := Lib.cell_of_heap X0 0
              have x1 := Lib.cell_of_heap X0 1
              have x2 := Lib.cell_of_heap X0 2
              have x3 := Lib.cell_of_heap X0 3
              have x4 := Lib.cell_of_heap X0 4
              have x5 := Lib.cell_of_heap X0 5
              have x6 := Lib.cell_of_heap X0 6
              have z0 := Lib.cell_of_heap X1 0
              have z1 := Lib.cell_of_heap X1 1
              have z2 := Lib.cell_of_heap X1 2
              have z3 := Lib.cell_of_heap X1 3
              have z4 := Lib.cell_of_heap X1 4
              have z5 := Lib.cell_of_heap X1 5
              have z6 := Lib.cell_of_heap X1 6
              simp at x0 x1 x2 x3 x4 x5 x6 z0 z1 z2 z3 z4 z5 z6
              clear X0 X1
              have CS := Lib.hid (same_any (many u3) u3 u3 (Nat.le_refl _) (.agg #[.int .i64 u3.kind, .string u3.pkg, .int .i64 u3.major, .string u3.mod, .string u3.name, .slice Un u3.names.length un, .slice Us u3.subs.length us]) (.agg #[.int .i64 u3.kind, .string u3.pkg, .int .i64 u3.major, .string u3.mod, .string u3.name, .slice Vn u3.names.length vn, .slice Vs u3.subs.length vs]) w21 ⟨_, rfl, HTU.out w21 (below_over HB19.out HB21.out)⟩ ⟨_, rfl, HTV.out w21 HB21.out⟩)
              rw [(sameT_iff u3 u3).2 rfl] at CS
              go_wp2_with fail
              refine CS.out.mono ?_; rintro e w22 ⟨rfl, hb22⟩
              have FIN := Lib.hid (below_over HB2.out (below_over HBV.out (below_over HB19.out (below_over HB21.out hb22))))
              clear x0 x1 x2 x3 x4 x5 x6 z0 z1 z2 z3 z4 z5 z6 hb22 CS
              go_wp2_with fail
              go_ret
              exact ⟨rfl, FIN.out⟩
            · have q3 : (d.kind == 3) = false := by simpa using h3
              have q4 : ¬ d.kind = 3 := h3
              clear h3
              go_wp2_with fail
              go_ret
              exact ⟨rfl, below_over HB2.out HB15.out⟩
      · go_wp2_with fail
        go_ret
        exact ⟨rfl, below_over HB2.out HBT.out⟩

end Go.Proofs.YtkgmdbkcldojnaaGreatDoor
