/-
  Several texts in one.
-/
import Derived.Test.YteecgiebimdbhaaGreatDoorK17
set_option maxRecDepth 100000
set_option maxHeartbeats 8000000
namespace Go.Proofs.YteecgiebimdbhaaGreatDoor
open Go.RowKit
open Go.Sort
open M
theorem mayLn_bd {d : Ln} (h : mayLn d = true) : d.mod.size <= 20 /\ d.name.size <= 20 /\ (d.kind = 1 \/ d.kind = 2) /\ mayT d.typ = true := by
 obtain ⟨h1, h2, h3⟩ := mayLn_sorts h
 refine ⟨?_, ?_, h3.imp (·.1) (·.1), h2⟩
 ·have := ((spell_iff _ _ _).1 (small_spell h1)).2.1; rw [len_size] at this; omega
 ·rcases h3 with ⟨-, h⟩ | ⟨-, h⟩
  ·have := ((spell_iff _ _ _).1 (small_spell h)).2.1; rw [len_size] at this; omega
  ·have := ((spell_iff _ _ _).1 (great_spell h)).2.1; rw [len_size] at this; omega
theorem txL_size {d : Ln} (h : mayLn d = true) : (txL d).size <= 62060 := by
 obtain ⟨h1, h2, h3, h4⟩ := mayLn_bd h
 obtain ⟨-, -, h5⟩ := mayT_bd h4
 unfold txL
 split
 ·simp only [ByteArray.size_append, show (⟨#[117, 115, 101, 32]⟩ : ByteArray).size = 4 from rfl, show (⟨#[46]⟩ : ByteArray).size = 1 from rfl, show (⟨#[32, 58, 32]⟩ : ByteArray).size = 3 from rfl, show (⟨#[10]⟩ : ByteArray).size = 1 from rfl]; omega
 ·simp only [ByteArray.size_append, show (⟨#[105, 115, 32]⟩ : ByteArray).size = 3 from rfl, show (⟨#[46]⟩ : ByteArray).size = 1 from rfl, show (⟨#[32, 61, 32]⟩ : ByteArray).size = 3 from rfl, show (⟨#[10]⟩ : ByteArray).size = 1 from rfl]; omega
theorem rprint11_any (u : Us) (l : List Value) (w : World) (h : UsAt w l u) (hm : mayU u = true) : Calls Tryz.prog 12 #[.agg l.toArray] w fun e w' => e = .returned (.string ⟨(textU u).toArray⟩) /\ Below w.heap.size w w' := by
 obtain ⟨zi, zd, mi, md⟩ := mayU_parts hm
 have HMD := hZ md
 have HMI := hZ mi
 obtain ⟨Ai, ci, Ad, cd, rfl, -, -, hI, hD⟩ := h
 have HI := hZ hI
 have HD := hZ hD
 clear hm hI hD md mi
 obtain ⟨ni, hni⟩ : ∃ ni, ni = u.imps.length := ⟨_, rfl⟩
 obtain ⟨nd, hnd⟩ : ∃ nd, nd = u.lines.length := ⟨_, rfl⟩
 rw [<- hni] at zi
 rw [<- hnd] at zd
 rw [<- hni, <- hnd]
 have HNI := hZ hni
 have HND := hZ hnd
 clear hni hnd
 obtain ⟨w0, hw0⟩ : ∃ w0, w0 = w.alloc (.cells #[.slice Ai ni ci, .slice Ad nd cd] 25) := ⟨_, rfl⟩
 have HB0 : Hid (Below w.heap.size w w0) := hZ (by rw [hw0]; exact below_new (Below.refl _ _) _)
 have HO0 : Hid (w0.heap[w.heap.size]? = some (.cells #[.slice Ai ni ci, .slice Ad nd cd] 25 (0, 0))) := hZ (by rw [hw0]; exact heap_alloc_new w _)
 have HW0 := hZ hw0
 have hl0 : w.heap.size < w0.heap.size := by rw [hw0]; simp
 clear hw0
 go_enter Tryz.func12, Tryz.ntmps12
 go_upto_region 1 with fail
 rw [<- HW0.out]
 go_wp2_with fail
 clear HW0
 go_loopw [3, 4] (fun sv iv wr => ∃ (k : Nat) (acc : ByteArray), k <= ni /\ iv = .int .i64 k /\ sv = .string acc /\ Hid (acc.data.toList = textI (u.imps.take k)) /\ acc.size <= 28 + 120 * k /\ Below w0.heap.size w0 wr) (fun _ iv _ => ni - (intOf iv).toNat)
 case atStart =>
  exact ⟨0, ⟨#[]⟩, by omega, rfl, rfl, hZ (by simp [textI]), by show 0 <= _; omega, Below.refl _ _⟩
 case round =>
  obtain ⟨k, acc, hk, rfl, rfl, HA, ha, hb⟩ := hrel;obtain ⟨wo, rfl⟩ : ∃ wo : World, wo = wr := ⟨_, rfl⟩;have O := (hb.block _ hl0).trans HO0.out;have y1 := cZ O 0;simp at y1;by_cases hlt : k < ni
  ·obtain ⟨x, hx⟩ : ∃ x, u.imps[k]? = some x := ⟨_, List.getElem?_eq_getElem (by rw [<- HNI.out]; exact hlt)⟩
   obtain ⟨g, o, rfl, -, a0, a1, a2, a3, -, -, -⟩ := (HI.out.below (below_over HB0.out hb)).im hx;have hmx := HMI.out x (List.mem_of_getElem? hx);have HZ := hZ (txI_size hmx);obtain ⟨z0, z1, z2, m1, m2⟩ := mayI_bd hmx;have zd := dec_size x.major (by omega) (by omega);have HX := hZ hx;obtain ⟨w8, hw8⟩ : ∃ w8, w8 = wo.alloc (.cells #[.string x.pkg, .int .i64 x.major, .string x.mod, .string x.asn] 71) := ⟨_, rfl⟩;have HB8 : Hid (Below w0.heap.size w0 w8) := hZ (by rw [hw8]; exact below_new hb _);have O8 : w8.heap[wo.heap.size]? = some (.cells #[.string x.pkg, .int .i64 x.major, .string x.mod, .string x.asn] 71 (0, 0)) := by rw [hw8]; exact heap_alloc_new wo _
   obtain ⟨x0, x1, x2, x3⟩ := cq4 O8;simp at x0 x1 x2 x3;have p0 := cell_regrown x0;have p1 := cell_regrown x1;have p2 := cell_regrown x2;have p3 := cell_regrown x3;have cD : ∀ dd os, Calls Tryz.prog 32 #[.int .i64 x.major] (Sort.grow (redrawn w8 dd) os) fun e w'' => e = .returned (.string (dec x.major)) /\ ∃ pp : Regrown, w'' = Sort.grow (redrawn w8 pp.d) pp.os := fun dd os => Calls.regrown_of (digits_any _ _ (by omega) (by omega))
   have HW8 := hZ hw8;have n1 : ¬ (acc.size + 7 > 9223372036854775807) := by omega
   have n2 : ¬ (acc.size + 7 + x.pkg.size > 9223372036854775807) := by omega
   have n3 : ¬ (acc.size + 7 + x.pkg.size + 1 > 9223372036854775807) := by omega
   have n4 : ¬ (acc.size + 7 + x.pkg.size + 1 + (dec x.major).size > 9223372036854775807) := by omega
   have n5 : ¬ (acc.size + 7 + x.pkg.size + 1 + (dec x.major).size + 1 > 9223372036854775807) := by omega
   have n6 : ¬ (acc.size + 7 + x.pkg.size + 1 + (dec x.major).size + 1 + x.mod.size > 9223372036854775807) := by omega
   have n7 : ¬ (acc.size + 7 + x.pkg.size + 1 + (dec x.major).size + 1 + x.mod.size + 4 > 9223372036854775807) := by omega
   have n8 : ¬ (acc.size + 7 + x.pkg.size + 1 + (dec x.major).size + 1 + x.mod.size + 4 + x.asn.size > 9223372036854775807) := by omega
   have n9 : ¬ (acc.size + 7 + x.pkg.size + 1 + (dec x.major).size + 1 + x.mod.size + 4 + x.asn.size + 1 > 9223372036854775807) := by omega
   have HE : Hid ((acc ++ ⟨#[105, 109, 112, 111, 114, 116, 32]⟩ ++ x.pkg ++ ⟨#[32]⟩ ++ dec x.major ++ ⟨#[32]⟩ ++ x.mod ++ ⟨#[32, 97, 115, 32]⟩ ++ x.asn ++ ⟨#[10]⟩ : ByteArray) = acc ++ txI x) := hZ (bytes_ext' (by unfold txI; simp));clear hx hmx hw8 O8 hb O x0 x1 x2 x3;go_wp2_with fail
   rw [<- HW8.out];clear HW8 a0 a1 a2 a3 y1;refine wp_region_quiet_below (by kernel_rfl) (by kernel_rfl) ?_;repeat (any_goals (first | go_big_quiet_step (with_reducible exact cD _ _) | quiet_step (with_reducible exact cD _ _)))
   refine wpQuiet_nil ?_;intro _ hw';obtain ⟨⟨dq, osq⟩, hw''⟩ := hw';subst hw'';have HB9 := hZ (below_over HB8.out (below_regrown w8 dq osq));clear n1 n2 n3 n4 n5 n6 n7 n8 n9 p0 p1 p2 p3 cD;go_wp2_with fail
   go_roundw
   case rel =>
    refine ⟨k + 1, acc ++ txI x, by omega, by go_num, by rw [HE.out], hZ (by rw [textI_take _ _ _ HX.out, ByteArray.data_append, Array.toList_append, HA.out]; try simp [List.append_assoc]), by rw [ByteArray.size_append]; have := HZ.out; omega, HB9.out⟩
   case measure => simp [intOf]; omega
  ·have R : Hid (acc.data.toList = textI u.imps) := hZ (by
    have h := HA.out;rw [List.take_of_length_le (by rw [<- HNI.out]; omega)] at h;exact h)
   have ha2 : acc.size <= 2428 := by omega
   have HBo := hZ hb;clear HA ha;go_wp2_with fail
   clear y1 O hb;go_loopw [3, 6] (fun sv iv wr => ∃ (k : Nat) (acc : ByteArray), k <= nd /\ iv = .int .i64 k /\ sv = .string acc /\ Hid (acc.data.toList = textI u.imps ++ textL (u.lines.take k)) /\ acc.size <= 2428 + 62060 * k /\ Below w0.heap.size w0 wr) (fun _ iv _ => nd - (intOf iv).toNat)
   case atStart => exact ⟨0, acc, by omega, rfl, rfl, hZ (by rw [R.out]; simp [textL]), by omega, HBo.out⟩
   case round =>
    obtain ⟨j, acc, hj, rfl, rfl, HA, ha, hb⟩ := hrel;obtain ⟨wo, rfl⟩ : ∃ wo : World, wo = wr := ⟨_, rfl⟩;have O := (hb.block _ hl0).trans HO0.out;have y2 := cZ O 1;simp at y2;by_cases hlt : j < nd
    ·obtain ⟨x, hx⟩ : ∃ x, u.lines[j]? = some x := ⟨_, List.getElem?_eq_getElem (by rw [<- HND.out]; exact hlt)⟩
     have hmx := HMD.out x (List.mem_of_getElem? hx);obtain ⟨g, o, v0, v1, v2, v3, v4, v5, v6, rfl, -, a0, am, a1, u0, u1, u2, u3, u4, u5, u6, us, -, -⟩ := (HD.out.below (below_over HB0.out hb)).ln hx;obtain ⟨An, cA, As, cS, ev, -⟩ := us.parts;simp only [List.cons.injEq, and_true] at ev;obtain ⟨rfl, rfl, rfl, rfl, rfl, rfl, rfl⟩ := ev;obtain ⟨zm, zs, hK, hmt⟩ := mayLn_bd hmx;have HZ := hZ (txL_size hmx);have HX := hZ hx;obtain ⟨hok, hmany, zt⟩ := mayT_bd hmt;obtain ⟨w8, hw8⟩ : ∃ w8, w8 = wo.alloc (.cells #[.int .i64 x.kind, .string x.mod, .string x.name, .int .i64 x.typ.kind, .string x.typ.pkg, .int .i64 x.typ.major, .string x.typ.mod, .string x.typ.name, .slice An x.typ.names.length cA, .slice As x.typ.subs.length cS] 60) := ⟨_, rfl⟩;have B8 : Below wo.heap.size wo w8 := by rw [hw8]; exact below_new (Below.refl _ _) _
     have HB8 : Hid (Below w0.heap.size w0 w8) := hZ (below_over hb B8);have HU := hZ (us.keep B8);have O8 : w8.heap[wo.heap.size]? = some (.cells #[.int .i64 x.kind, .string x.mod, .string x.name, .int .i64 x.typ.kind, .string x.typ.pkg, .int .i64 x.typ.major, .string x.typ.mod, .string x.typ.name, .slice An x.typ.names.length cA, .slice As x.typ.subs.length cS] 60 (0, 0)) := by rw [hw8]; exact heap_alloc_new wo _
     have HW8 := hZ hw8;have CP := hZ (print_any _ x.typ (Nat.le_refl _) (by omega) hok (.agg #[.int .i64 x.typ.kind, .string x.typ.pkg, .int .i64 x.typ.major, .string x.typ.mod, .string x.typ.name, .slice An x.typ.names.length cA, .slice As x.typ.subs.length cS]) w8 ⟨_, rfl, HU.out⟩);obtain ⟨x0, x1, x2, x3, x4, x5, x6, x7, x8⟩ := cq9 O8;have x9 := cZ O8 9;simp at x0 x1 x2 x3 x4 x5 x6 x7 x8 x9;clear hx hmx us B8 hw8 O hb O8 hmt hok hmany;go_upto_region 11 with fail
     rw [<- HW8.out];clear HW8 a0 am a1 u0 u1 u2 u3 u4 u5 u6 y2;by_cases h1 : x.kind = 1
     ·have HE : Hid ((acc ++ ⟨#[117, 115, 101, 32]⟩ ++ x.mod ++ ⟨#[46]⟩ ++ x.name ++ ⟨#[32, 58, 32]⟩ ++ tB x.typ ++ ⟨#[10]⟩ : ByteArray) = acc ++ txL x) := hZ (bytes_ext' (by unfold txL; rw [if_pos h1]; simp))
      have b1 : (x.kind == 1) = true := by rw [h1]; rfl
      clear h1 hK;have n1 : ¬ (acc.size + 4  > 9223372036854775807) := by omega
      have n2 : ¬ (acc.size + 4 + x.mod.size > 9223372036854775807) := by omega
      have n3 : ¬ (acc.size + 4 + x.mod.size + 1 > 9223372036854775807) := by omega
      have n4 : ¬ (acc.size + 4 + x.mod.size + 1 + x.name.size > 9223372036854775807) := by omega
      have n5 : ¬ (acc.size + 4 + x.mod.size + 1 + x.name.size + 3 > 9223372036854775807) := by omega
      have n6 : ¬ (acc.size + 4 + x.mod.size + 1 + x.name.size + 3 + (tB x.typ).size > 9223372036854775807) := by omega
      have n7 : ¬ (acc.size + 4 + x.mod.size + 1 + x.name.size + 3 + (tB x.typ).size + 1 > 9223372036854775807) := by omega
      go_wp2_with fail
      refine CP.out.mono ?_; rintro e w9 ⟨rfl, hb9⟩
      have HB9 := hZ (below_over HB8.out hb9);clear x0 x1 x2 x3 x4 x5 x6 x7 x8 x9 CP hb9;go_wp2_with fail
      go_roundw
      case rel => exact ⟨j + 1, acc ++ txL x, by omega, by go_num, by rw [HE.out], hZ (by rw [textL_take _ _ _ HX.out, ByteArray.data_append, Array.toList_append, HA.out]; try simp [List.append_assoc]), by rw [ByteArray.size_append]; have := HZ.out; omega, HB9.out⟩
      case measure => simp [intOf]; omega
     ·have HE : Hid ((acc ++ ⟨#[105, 115, 32]⟩ ++ x.mod ++ ⟨#[46]⟩ ++ x.name ++ ⟨#[32, 61, 32]⟩ ++ tB x.typ ++ ⟨#[10]⟩ : ByteArray) = acc ++ txL x) := hZ (bytes_ext' (by unfold txL; rw [if_neg h1]; simp))
      have b1 : (x.kind == 1) = false := by simpa using h1
      clear h1 hK;have n1 : ¬ (acc.size + 3  > 9223372036854775807) := by omega
      have n2 : ¬ (acc.size + 3 + x.mod.size > 9223372036854775807) := by omega
      have n3 : ¬ (acc.size + 3 + x.mod.size + 1 > 9223372036854775807) := by omega
      have n4 : ¬ (acc.size + 3 + x.mod.size + 1 + x.name.size > 9223372036854775807) := by omega
      have n5 : ¬ (acc.size + 3 + x.mod.size + 1 + x.name.size + 3 > 9223372036854775807) := by omega
      have n6 : ¬ (acc.size + 3 + x.mod.size + 1 + x.name.size + 3 + (tB x.typ).size > 9223372036854775807) := by omega
      have n7 : ¬ (acc.size + 3 + x.mod.size + 1 + x.name.size + 3 + (tB x.typ).size + 1 > 9223372036854775807) := by omega
      go_wp2_with fail
      refine CP.out.mono ?_; rintro e w9 ⟨rfl, hb9⟩
      have HB9 := hZ (below_over HB8.out hb9);clear x0 x1 x2 x3 x4 x5 x6 x7 x8 x9 CP hb9;go_wp2_with fail
      go_roundw
      case rel => exact ⟨j + 1, acc ++ txL x, by omega, by go_num, by rw [HE.out], hZ (by rw [textL_take _ _ _ HX.out, ByteArray.data_append, Array.toList_append, HA.out]; try simp [List.append_assoc]), by rw [ByteArray.size_append]; have := HZ.out; omega, HB9.out⟩
      case measure => simp [intOf]; omega
    ·have R2 : Hid (acc = ⟨(textU u).toArray⟩) := hZ (bytes_ext' (by
      have h := HA.out;rw [List.take_of_length_le (by rw [<- HND.out]; omega)] at h;rw [h]; simp [textU]))
     have HBf := hZ (below_over HB0.out hb);go_wp2_with fail
     go_ret;exact ⟨by rw [R2.out]; rfl, HBf.out⟩
def lnNm (k : Int) (s : ByteArray) : Bool := if k = 1 then smallB s.data.toList else if k = 2 then greatB s.data.toList else false
theorem mayLn_eq (l : Ln) : mayLn l = (lnNm l.kind l.name && (smallB l.mod.data.toList && mayT l.typ)) := by
  unfold mayLn lnNm
  by_cases h1 : l.kind = 1
  · rw [h1]
    cases smallB l.mod.data.toList <;> cases mayT l.typ <;> cases smallB l.name.data.toList <;> rfl
  · by_cases h2 : l.kind = 2
    · rw [h2]
      cases smallB l.mod.data.toList <;> cases mayT l.typ <;> cases greatB l.name.data.toList <;> rfl
    · rw [if_neg h1, if_neg h2, show (l.kind == 1) = false by simpa using h1, show (l.kind == 2) = false by simpa using h2]
      simp
theorem mayName_any (k : Int) (m s : ByteArray) (t : Ty) (An As : Option Addr) (cA cS : Nat) (w : World) (z : s.size <= 9223372036854775807) :
    Calls Tryz.prog 61 #[.agg #[.int .i64 k, .string m, .string s, .int .i64 t.kind, .string t.pkg, .int .i64 t.major, .string t.mod, .string t.name, .slice An t.names.length cA, .slice As t.subs.length cS]] w fun e w' => e = .returned (.bool (lnNm k s)) /\ Below w.heap.size w w' := by
  obtain ⟨w0, hw0⟩ : ∃ w0, w0 = w.alloc (.cells #[.int .i64 k, .string m, .string s, .int .i64 t.kind, .string t.pkg, .int .i64 t.major, .string t.mod, .string t.name, .slice An t.names.length cA, .slice As t.subs.length cS] 60) := ⟨_, rfl⟩;have B0 : Below w.heap.size w w0 := by rw [hw0]; exact below_new (Below.refl _ _) _
  have O0 : w0.heap[w.heap.size]? = some (.cells #[.int .i64 k, .string m, .string s, .int .i64 t.kind, .string t.pkg, .int .i64 t.major, .string t.mod, .string t.name, .slice An t.names.length cA, .slice As t.subs.length cS] 60 (0, 0)) := by rw [hw0]; exact heap_alloc_new w _
  have S0 := hZ (fun w => csmall_b s w z);have S1 := hZ (fun w => cgreat_b s w z);have y0 := cZ O0 0;have y2 := cZ O0 2;simp at y0 y2;have HB := hZ B0;have HW0 := hZ hw0;clear hw0 B0 O0 z;unfold lnNm
  by_cases h1 : k = 1
  · subst h1
    rw [if_pos rfl];go_enter Tryz.func61, Tryz.ntmps61
    go_upto_region 1 with fail
    rw [<- HW0.out];clear HW0;go_wp2_with fail
    refine (S0.out _).mono ?_; rintro e w1 ⟨rfl, hb1⟩
    have FIN := hZ (below_over HB.out hb1);clear hb1 y0 y2 S0 S1;go_wp2_with fail
    go_ret;exact ⟨rfl, FIN.out⟩
  have e1 : (k == 1) = false := by simpa using h1
  by_cases h2 : k = 2
  · subst h2
    rw [if_neg h1, if_pos rfl];clear h1 e1;go_enter Tryz.func61, Tryz.ntmps61
    go_upto_region 1 with fail
    rw [<- HW0.out];clear HW0;go_wp2_with fail
    refine (S1.out _).mono ?_; rintro e w1 ⟨rfl, hb1⟩
    have FIN := hZ (below_over HB.out hb1);clear hb1 y0 y2 S0 S1;go_wp2_with fail
    go_ret;exact ⟨rfl, FIN.out⟩
  have e2 : (k == 2) = false := by simpa using h2
  rw [if_neg h1, if_neg h2];clear h1 h2;go_enter Tryz.func61, Tryz.ntmps61
  go_upto_region 1 with fail
  rw [<- HW0.out];clear HW0;go_wp2_with fail
  go_ret;exact ⟨rfl, HB.out⟩
theorem cmayNotL_any (k : Int) (m s : ByteArray) (t : Ty) (An As : Option Addr) (cA cS : Nat) (w : World) (hT : TyAt w [.int .i64 t.kind, .string t.pkg, .int .i64 t.major, .string t.mod, .string t.name, .slice An t.names.length cA, .slice As t.subs.length cS] t) (zm : m.size <= 9223372036854775807) (z : s.size <= 9223372036854775807) :
    Calls Tryz.prog 31 #[.agg #[.int .i64 k, .string m, .string s, .int .i64 t.kind, .string t.pkg, .int .i64 t.major, .string t.mod, .string t.name, .slice An t.names.length cA, .slice As t.subs.length cS]] w fun e w' => e = .returned (.bool (!mayLn ⟨k, m, s, t⟩)) /\ Below w.heap.size w w' := by
  obtain ⟨w0, hw0⟩ : ∃ w0, w0 = w.alloc (.cells #[.int .i64 k, .string m, .string s, .int .i64 t.kind, .string t.pkg, .int .i64 t.major, .string t.mod, .string t.name, .slice An t.names.length cA, .slice As t.subs.length cS] 60) := ⟨_, rfl⟩;have B0 : Below w.heap.size w w0 := by rw [hw0]; exact below_new (Below.refl _ _) _
  have O0 : w0.heap[w.heap.size]? = some (.cells #[.int .i64 k, .string m, .string s, .int .i64 t.kind, .string t.pkg, .int .i64 t.major, .string t.mod, .string t.name, .slice An t.names.length cA, .slice As t.subs.length cS] 60 (0, 0)) := by rw [hw0]; exact heap_alloc_new w _
  have hl0 : w.heap.size < w0.heap.size := by rw [hw0]; simp
  have S0 := hZ (fun w => mayName_any k m s t An As cA cS w z);have S1 := hZ (fun w => csmall_b m w zm);have MY : Hid (∀ w', Below w.heap.size w w' -> Calls Tryz.prog 63 #[.agg #[.int .i64 t.kind, .string t.pkg, .int .i64 t.major, .string t.mod, .string t.name, .slice An t.names.length cA, .slice As t.subs.length cS]] w' fun e w'' => e = .returned (.bool (mayT t)) /\ Below w'.heap.size w' w'') := hZ (fun w' hb => mayK_any t _ w' ⟨_, rfl, hT.keep hb⟩);rw [mayLn_eq];generalize lnNm k s = b0 at S0
  generalize smallB m.data.toList = b1 at S1
  generalize mayT t = b2 at MY
  obtain ⟨y0, y1, y2, y3, y4, y5, y6, y7, y8⟩ := cq9 O0;have y9 := cZ O0 9;simp at y0 y1 y2 y3 y4 y5 y6 y7 y8 y9;have HO := hZ O0;have HB := hZ B0;have HW0 := hZ hw0;clear hw0 B0 O0 z zm hT;go_enter Tryz.func31, Tryz.ntmps31
  go_upto_region 1 with fail
  rw [<- HW0.out];clear HW0;go_wp2_with fail
  refine (S0.out _).mono ?_; rintro e w1 ⟨rfl, hb1⟩
  have O1 := (hb1.block _ hl0).trans HO.out;have HB1 := hZ (below_over HB.out hb1);have hl1 := Nat.lt_of_lt_of_le hl0 hb1.size;have HO1 := hZ O1;clear y0 y1 y2 y3 y4 y5 y6 y7 y8 y9;have y1 := cZ O1 1;simp at y1;clear O1 hb1 HO HB S0 hl0;cases b0 with
  | false => go_wp2_with fail; go_ret; exact ⟨rfl, HB1.out⟩
  | true =>
  go_wp2_with fail
  refine (S1.out _).mono ?_; rintro e w2 ⟨rfl, hb2⟩
  have O2 := (hb2.block _ hl1).trans HO1.out;have HB2 := hZ (below_over HB1.out hb2);clear y1 hb2 HO1 HB1 S1 hl1;cases b1 with
  | false => go_wp2_with fail; go_ret; exact ⟨rfl, HB2.out⟩
  | true =>
  obtain ⟨y0, y1, y2, y3, y4, y5, y6, y7, y8⟩ := cq9 O2;have y9 := cZ O2 9;simp at y0 y1 y2 y3 y4 y5 y6 y7 y8 y9;clear O2;go_wp2_with fail
  refine (MY.out _ HB2.out).mono ?_; rintro e w3 ⟨rfl, hb3⟩
  have FIN := hZ (below_over HB2.out hb3);clear y0 y1 y2 y3 y4 y5 y6 y7 y8 y9 hb3 MY;go_wp2_with fail
  go_ret;exact ⟨by cases b2 <;> rfl, FIN.out⟩
theorem indexL11_any (A : Option Addr) (c n : Nat) (xs : List Ln) (w : World) (hn : xs.length = n) (hz : n <= 9223372036854775807) (hS : RowIn lnR w A xs) :
    Calls Tryz.prog 60 #[.slice A n c, .func (.func 31) #[] #[]] w fun e w' => ∃ r : Int, e = .returned (.int .i64 r) /\ decide (0 <= r) = !xs.all mayLn /\ Below w.heap.size w w' := by
  have HS := hZ hS;have HN := hZ hn;clear hS hn;go_enter Tryz.func60, Tryz.ntmps60
  go_wp2_with fail
  go_loopw [8] (fun i wr => ∃ k : Nat, k <= n /\ i = .int .i64 k /\ Hid ((xs.take k).all mayLn = true) /\ Below w.heap.size w wr) (fun i _ => n - (intOf i).toNat)
  case atStart => exact ⟨0, by omega, rfl, hZ (by simp), Below.refl _ _⟩
  case round =>
    obtain ⟨k, hk, rfl, HP, hb⟩ := hrel;obtain ⟨wo, rfl⟩ : ∃ wo : World, wo = wr := ⟨_, rfl⟩;by_cases hlt : k < n
    · obtain ⟨x, hx⟩ : ∃ x, xs[k]? = some x := ⟨_, List.getElem?_eq_getElem (by rw [HN.out]; exact hlt)⟩
      obtain ⟨g, o, v0, v1, v2, v3, v4, v5, v6, rfl, -, a0, am, a1, u0, u1, u2, u3, u4, u5, u6, us, zm, zs⟩ := (HS.out.below hb).ln hx;obtain ⟨An, cA, As, cS, ev, -⟩ := us.parts;simp only [List.cons.injEq, and_true] at ev;obtain ⟨rfl, rfl, rfl, rfl, rfl, rfl, rfl⟩ := ev;have IM := hZ (cmayNotL_any x.kind x.mod x.name x.typ An As cA cS wo us zm zs);have HX := hZ hx;clear hx us zm zs;obtain ⟨q, hq⟩ : ∃ q, mayLn ⟨x.kind, x.mod, x.name, x.typ⟩ = q := ⟨_, rfl⟩;rw [hq] at IM;have HQ := hZ hq;clear hq;cases q with
      | false =>
        have R : Hid (decide (0 <= (k : Int)) = !xs.all mayLn) := hZ (by
          have : xs.all mayLn = false := by rw [List.all_eq_false]; exact ⟨x, List.mem_of_getElem? HX.out, by rw [show mayLn x = false from HQ.out]; decide⟩
          rw [this]; simp)
        go_wp2_with fail
        refine IM.out.mono ?_; rintro e w2 ⟨rfl, hb2⟩
        have hb3 := below_over hb hb2;clear a0 am a1 u0 u1 u2 u3 u4 u5 u6 hb hb2;go_wp2_with fail
        go_ret;exact ⟨_, rfl, R.out, hb3⟩
      | true =>
        go_wp2_with fail
        refine IM.out.mono ?_; rintro e w2 ⟨rfl, hb2⟩
        have hb3 := below_over hb hb2;clear a0 am a1 u0 u1 u2 u3 u4 u5 u6 hb hb2;go_wp2_with fail
        go_roundw
        case rel => exact ⟨k + 1, by omega, by go_num, hZ (by rw [all_snoc _ _ _ _ HX.out, HP.out, show mayLn x = true from HQ.out]; rfl), hb3⟩
        case measure => simp [intOf]; omega
    · have R : Hid (decide (0 <= (-1 : Int)) = !xs.all mayLn) := hZ (by
        have h := HP.out;rw [List.take_of_length_le (by rw [HN.out]; omega)] at h;rw [h]; rfl)
      go_wp2_with fail
      go_ret;exact ⟨_, rfl, R.out, hb⟩
theorem containsL11_any (A : Option Addr) (c n : Nat) (xs : List Ln) (w : World) (hn : xs.length = n) (hz : n <= 9223372036854775807) (hS : RowIn lnR w A xs) :
    Calls Tryz.prog 30 #[.slice A n c, .func (.func 31) #[] #[]] w fun e w' => e = .returned (.bool (!xs.all mayLn)) /\ Below w.heap.size w w' := by
  have HC := hZ (indexL11_any A c n xs w hn hz hS);clear hn hS;go_enter Tryz.func30, Tryz.ntmps30
  go_wp2_with fail
  refine HC.out.mono ?_; rintro e w2 ⟨r, rfl, hr, hb2⟩
  have HR := hZ hr;clear hr HC;go_wp2_with fail
  go_ret;exact ⟨ret_bool HR.out.symm, hb2⟩
theorem cmay11_any (u : Us) (l : List Value) (w : World) (h : UsAt w l u) : Calls Tryz.prog 11 #[.agg l.toArray] w fun e w' => e = .returned (.bool (mayU u)) /\ Below w.heap.size w w' := by
  obtain ⟨Ai, ci, Ad, cd, rfl, z2, z3, hI, hD⟩ := h;obtain ⟨w0, hw0⟩ : ∃ w0, w0 = w.alloc (.cells #[.slice Ai u.imps.length ci, .slice Ad u.lines.length cd] 25) := ⟨_, rfl⟩;have B0 : Below w.heap.size w w0 := by rw [hw0]; exact below_new (Below.refl _ _) _
  have O0 : w0.heap[w.heap.size]? = some (.cells #[.slice Ai u.imps.length ci, .slice Ad u.lines.length cd] 25 (0, 0)) := by rw [hw0]; exact heap_alloc_new w _
  have hl0 : w.heap.size < w0.heap.size := by rw [hw0]; simp
  have SI : Hid (∀ w', Below w.heap.size w w' -> Calls Tryz.prog 29 #[.slice Ai u.imps.length ci] w' fun e w'' => e = .returned (.bool (decide (u.imps.length <= 20) && u.imps.all mayI)) /\ Below w'.heap.size w' w'') := hZ (fun w' hb => cmayI_any Ai ci _ u.imps w' rfl z2 (hI.below hb));have SD : Hid (∀ w', Below w.heap.size w w' -> Calls Tryz.prog 30 #[.slice Ad u.lines.length cd, .func (.func 31) #[] #[]] w' fun e w'' => e = .returned (.bool (!u.lines.all mayLn)) /\ Below w'.heap.size w' w'') := hZ (fun w' hb => containsL11_any Ad cd _ u.lines w' rfl z3 (hD.below hb));obtain ⟨V, hV⟩ : ∃ V, mayU u = V := ⟨_, rfl⟩;rw [hV];have HV : Hid ((decide (u.imps.length <= 20) && (decide (u.lines.length <= 60) && (u.imps.all mayI && u.lines.all mayLn))) = V) := hZ hV;generalize u.imps.length = ni at *
  generalize u.lines.length = nd at *
  generalize u.imps.all mayI = b1 at SI HV
  generalize u.lines.all mayLn = b2 at SD HV
  have HV0 : Hid (((decide (ni <= 20) && b1) && (decide (nd <= 60) && b2)) = V) := hZ (by
    rw [<- HV.out];cases b1 <;> cases b2 <;> cases decide (ni <= 20) <;> cases decide (nd <= 60) <;> rfl)
  generalize (decide (ni <= 20) && b1) = q at SI HV0
  have x0 := cZ O0 0;simp at x0;have HO := hZ O0;have HB := hZ B0;have HW0 := hZ hw0;clear hV hI hD hw0 B0 O0 z2 HV;go_enter Tryz.func11, Tryz.ntmps11
  go_upto_region 1 with fail
  rw [<- HW0.out];clear HW0;go_wp2_with fail
  refine (SI.out _ HB.out).mono ?_; rintro e w2 ⟨rfl, hb2⟩
  have O2 := (hb2.block _ hl0).trans HO.out;have x2 := cZ O2 1;simp at x2;have HB2 := hZ (below_over HB.out hb2);clear x0 hb2 HB O2 SI;cases q with
  | false => go_wp2_with fail; go_ret; exact ⟨by rw [<- HV0.out]; rfl, HB2.out⟩
  | true =>
  by_cases hd : nd <= 60
  rotate_left
  · have e1 : ¬ (nd : Int) <= 60 := by omega
    go_wp2_with fail
    go_ret;exact ⟨by rw [<- HV0.out, decide_eq_false hd]; simp <;> omega, HB2.out⟩
  have e1 : (nd : Int) <= 60 := by omega
  go_wp2_with fail
  refine (SD.out _ HB2.out).mono ?_; rintro e w3 ⟨rfl, hb3⟩
  have HB3 := hZ (below_over HB2.out hb3);have HV3 : Hid (b2 = V) := hZ (by rw [<- HV0.out, decide_eq_true hd]; simp);clear x2 hb3 HB2 SD HV0;go_wp2_with fail
  go_ret;exact ⟨by rw [<- HV3.out]; cases b2 <;> simp, HB3.out⟩
theorem textL_len (xs : List Ln) (h : ∀ x ∈ xs, mayLn x = true) : (textL xs).length <= 62060 * xs.length := by
  induction xs with
  | nil => simp [textL]
  | cons x xs ih =>
    have h1 := txL_size (h x (by simp));have h2 := ih (fun y hy => h y (by simp [hy]));simp only [textL, List.length_append, List.length_cons, len_size];omega
theorem text11_any (k : Int) (m s : ByteArray) (t : Ty) (An As : Option Addr) (cA cS : Nat) (w : World) (hT : TyAt w [.int .i64 t.kind, .string t.pkg, .int .i64 t.major, .string t.mod, .string t.name, .slice An t.names.length cA, .slice As t.subs.length cS] t) (hM : mayLn ⟨k, m, s, t⟩ = true) (hp : Pow w) :
    Calls Tryz.prog 24 #[.agg #[.int .i64 k, .string m, .string s, .int .i64 t.kind, .string t.pkg, .int .i64 t.major, .string t.mod, .string t.name, .slice An t.names.length cA, .slice As t.subs.length cS]] w fun e w' => e = .returned (.string (txL ⟨k, m, s, t⟩)) /\ Below w.heap.size w w' := by
  obtain ⟨w0, hw0⟩ : ∃ w0, w0 = w.alloc (.cells #[.int .i64 k, .string m, .string s, .int .i64 t.kind, .string t.pkg, .int .i64 t.major, .string t.mod, .string t.name, .slice An t.names.length cA, .slice As t.subs.length cS] 60) := ⟨_, rfl⟩;have B0 : Below w.heap.size w w0 := by rw [hw0]; exact below_new (Below.refl _ _) _
  have O0 : w0.heap[w.heap.size]? = some (.cells #[.int .i64 k, .string m, .string s, .int .i64 t.kind, .string t.pkg, .int .i64 t.major, .string t.mod, .string t.name, .slice An t.names.length cA, .slice As t.subs.length cS] 60 (0, 0)) := by rw [hw0]; exact heap_alloc_new w _
  have hl0 : w.heap.size < w0.heap.size := by rw [hw0]; simp
  obtain ⟨zm, zs, hk, hmt⟩ := mayLn_bd hM;have zm : m.size <= 20 := zm;have zs : s.size <= 20 := zs;have hk : k = 1 \/ k = 2 := hk;have hmt : mayT t = true := hmt;have KP := hZ (printK_yes t hmt (by have := (mayT_bd hmt).2.1; omega) (.agg #[.int .i64 t.kind, .string t.pkg, .int .i64 t.major, .string t.mod, .string t.name, .slice An t.names.length cA, .slice As t.subs.length cS]) w0 ⟨_, rfl, hT.keep B0⟩ (hp.on B0));have zt := (mayT_bd hmt).2.2;obtain ⟨y0, y1, y2, y3, y4, y5, y6, y7, y8⟩ := cq9 O0;have y9 := cZ O0 9;simp at y0 y1 y2 y3 y4 y5 y6 y7 y8 y9;have HO := hZ O0;have HB := hZ B0;have HW0 := hZ hw0;have n1 : ¬ (m.size + 1 > 9223372036854775807) := by omega
  have n2 : ¬ (m.size + 1 + s.size > 9223372036854775807) := by omega
  clear hw0 B0 O0 hT hM hp hmt;go_enter Tryz.func24, Tryz.ntmps24
  go_upto_region 1 with fail
  rw [<- HW0.out];clear HW0;go_wp2_with fail
  refine KP.out.mono ?_; rintro e w1 ⟨rfl, hb1⟩
  have O1 := (hb1.block _ hl0).trans HO.out;have HB1 := hZ (below_over HB.out hb1);clear y0 y1 y2 y3 y4 y5 y6 y7 y8 y9 n1 n2;have y0 := cZ O1 0;simp at y0;clear O1 hb1 HO HB KP hl0;rcases hk with rfl | rfl
  · have HV : Hid ((⟨#[117, 115, 101, 32]⟩ ++ (m ++ ⟨#[46]⟩ ++ s) ++ ⟨#[32, 58, 32]⟩ ++ tB t ++ ⟨#[10]⟩ : ByteArray) = txL ⟨1, m, s, t⟩) := hZ (bytes_ext' (by unfold txL; rw [if_pos rfl]; simp))
    have n1 : ¬ (4 + (m.size + 1 + s.size) > 9223372036854775807) := by omega
    have n2 : ¬ (4 + (m.size + 1 + s.size) + 3 > 9223372036854775807) := by omega
    have n3 : ¬ (4 + (m.size + 1 + s.size) + 3 + (tB t).size > 9223372036854775807) := by omega
    have n4 : ¬ (4 + (m.size + 1 + s.size) + 3 + (tB t).size + 1 > 9223372036854775807) := by omega
    go_wp2_with fail
    go_ret;exact ⟨by rw [<- HV.out]; rfl, HB1.out⟩
  · have HV : Hid ((⟨#[105, 115, 32]⟩ ++ (m ++ ⟨#[46]⟩ ++ s) ++ ⟨#[32, 61, 32]⟩ ++ tB t ++ ⟨#[10]⟩ : ByteArray) = txL ⟨2, m, s, t⟩) := hZ (bytes_ext' (by unfold txL; rw [if_neg (show ¬ (2 : Int) = 1 by decide)]; simp))
    have n1 : ¬ (3 + (m.size + 1 + s.size) > 9223372036854775807) := by omega
    have n2 : ¬ (3 + (m.size + 1 + s.size) + 3 > 9223372036854775807) := by omega
    have n3 : ¬ (3 + (m.size + 1 + s.size) + 3 + (tB t).size > 9223372036854775807) := by omega
    have n4 : ¬ (3 + (m.size + 1 + s.size) + 3 + (tB t).size + 1 > 9223372036854775807) := by omega
    go_wp2_with fail
    go_ret;exact ⟨by rw [<- HV.out]; rfl, HB1.out⟩
theorem cprint11_no (u : Us) (l : List Value) (w : World) (h : UsAt w l u) (hm : mayU u = false) : Calls Tryz.prog 9 #[.agg l.toArray] w fun e w' => e = .returned (.tuple #[.string ⟨#[]⟩, .iface 32 (.int .i64 1)]) /\ Below w.heap.size w w' := by
  have HM := hZ hm;have HV := hZ h;obtain ⟨Ai, ci, Ad, cd, rfl, -, -, -, -⟩ := h;clear hm;go_enter Tryz.func9, Tryz.ntmps9
  go_wp2_with fail
  refine (cmay11_any u _ _ (HV.out.below (below_new (Below.refl _ _) _))).mono ?_; rintro e w1 ⟨rfl, hb1⟩; rw [HM.out]
  go_wp2_with fail
  go_ret2
  exact ⟨rfl, (below_new (Below.refl _ _) _).trans (hb1.mono (by simp))⟩
theorem cprint11_yes (u : Us) (l : List Value) (w : World) (h : UsAt w l u) (hm : mayU u = true) (hp : Pow w) : Calls Tryz.prog 9 #[.agg l.toArray] w fun e w' => e = .returned (.tuple #[.string ⟨(textU u).toArray⟩, .nilIface]) /\ Below w.heap.size w w' := by
  have HM := hZ hm;have HV := hZ h;have HP := hZ hp;obtain ⟨zi, zd, mi, md⟩ := mayU_parts hm;have li := textI_len _ mi;have HMD := hZ md;have HMI := hZ mi;obtain ⟨Ai, ci, Ad, cd, rfl, -, -, hI, hD⟩ := h;have HI := hZ hI;have HD := hZ hD;clear hm hp hI hD md mi;obtain ⟨w0, hw0⟩ : ∃ w0, w0 = w.alloc (.cells #[.slice Ai u.imps.length ci, .slice Ad u.lines.length cd] 25) := ⟨_, rfl⟩;have HB0 : Hid (Below w.heap.size w w0) := hZ (by rw [hw0]; exact below_new (Below.refl _ _) _);have HO0 : Hid (w0.heap[w.heap.size]? = some (.cells #[.slice Ai u.imps.length ci, .slice Ad u.lines.length cd] 25 (0, 0))) := hZ (by rw [hw0]; exact heap_alloc_new w _);have HW0 := hZ hw0;have hl0 : w.heap.size < w0.heap.size := by rw [hw0]; simp
  clear hw0;go_enter Tryz.func9, Tryz.ntmps9
  go_wp2_with fail
  rw [<- HW0.out];refine (cmay11_any u _ _ (HV.out.below HB0.out)).mono ?_; rintro e w1 ⟨rfl, hb1⟩; rw [HM.out]
  have HB1 : Hid (Below w.heap.size w w1) := hZ (below_over HB0.out hb1);have HO1 : Hid (w1.heap[w.heap.size]? = some (.cells #[.slice Ai u.imps.length ci, .slice Ad u.lines.length cd] 25 (0, 0))) := hZ ((hb1.block _ hl0).trans HO0.out);have hl1 : w.heap.size < w1.heap.size := Nat.lt_of_lt_of_le hl0 hb1.size;clear hb1 HB0 HO0 HW0 hl0;obtain ⟨wb, hwb⟩ : ∃ wb, wb = w1.alloc (.cells #[.pointer none, .slice none 0 0] 64) := ⟨_, rfl⟩;have HBB : Hid (Below w1.heap.size w1 wb) := hZ (by rw [hwb]; exact below_new (Below.refl _ _) _);have H0 : Hid (Wr w1.heap.size w1.heap.size wb [] wb) := hZ (by rw [hwb]; exact ⟨Lib.fresh_isBuilder 64 5 w1, Below.refl _ _, Lib.OthersKept.refl _ _ _⟩);have HOb : Hid (wb.heap[w.heap.size]? = some (.cells #[.slice Ai u.imps.length ci, .slice Ad u.lines.length cd] 25 (0, 0))) := hZ ((HBB.out.block _ hl1).trans HO1.out);have HWB := hZ hwb;have HXw : Hid (Below w.heap.size w wb) := hZ (below_over HB1.out HBB.out);clear hwb;go_upto_region 4 with fail
  rw [<- HWB.out];have HJ : Hid ((tI u.imps).data.toList = textI u.imps) := hZ (by unfold tI; simp);have HZ : Hid ((tI u.imps).size = (textI u.imps).length) := hZ (by rw [<- HJ.out, len_size]);have HZ2 : Hid ((textI u.imps).length <= 2428) := hZ (by omega);have TI := hZ (textIB_any Ai ci _ u.imps wb rfl (by omega) (HI.out.below HXw.out) HMI.out (HP.out.on HXw.out));have y0 := cZ HOb.out 0;simp at y0;go_wp2_with fail
  refine TI.out.mono ?_; rintro e w2 ⟨rfl, hb2⟩
  have g1 := H0.out.below hb2;have G1 := hZ g1;clear g1 hb2 TI y0;go_wp2_with fail
  refine (wr_str G1.out (tI u.imps) (by rw [HZ.out]; have := HZ2.out; simp; omega)).mono ?_; rintro e w3 ⟨rfl, g3⟩
  rw [HJ.out, List.nil_append] at g3;have HG := hZ g3;have hne : w.heap.size ≠ w1.heap.size := by omega
  have yu : w3.cell? ⟨w.heap.size, 1, none⟩ = some (.slice Ad u.lines.length cd) := kept_cell g3.2.2 HOb.out hne (by decide) 1;clear g3 G1;obtain ⟨nd, hnd⟩ : ∃ nd, nd = u.lines.length := ⟨_, rfl⟩;rw [<- hnd] at yu zd;have HND := hZ hnd;clear hnd;go_wp2_with fail
  go_loopw [18] (fun iv wr => ∃ k : Nat, k <= nd /\ iv = .int .i64 k /\ Hid (Wr w1.heap.size w1.heap.size wb (textI u.imps ++ textL (u.lines.take k)) wr)) (fun iv _ => nd - (intOf iv).toNat)
  case atStart => exact ⟨0, by omega, rfl, hZ (HG.out.eq (by simp [textL]))⟩
  case round =>
    obtain ⟨k, hk, rfl, HK⟩ := hrel;obtain ⟨wo, rfl⟩ : ∃ wo : World, wo = wr := ⟨_, rfl⟩;have HBo : Hid (Below w.heap.size w wo) := hZ (HXw.out.trans (HK.out.2.1.mono HB1.out.size));by_cases hlt : k < nd
    · obtain ⟨x, hx⟩ : ∃ x, u.lines[k]? = some x := ⟨_, List.getElem?_eq_getElem (by rw [<- HND.out]; exact hlt)⟩
      have hmx := HMD.out x (List.mem_of_getElem? hx);obtain ⟨g, o, v0, v1, v2, v3, v4, v5, v6, rfl, -, a0, am, a1, u0, u1, u2, u3, u4, u5, u6, us, -, -⟩ := (HD.out.below HBo.out).ln hx;obtain ⟨An, cA, As, cS, ev, -⟩ := us.parts;simp only [List.cons.injEq, and_true] at ev;obtain ⟨rfl, rfl, rfl, rfl, rfl, rfl, rfl⟩ := ev;obtain ⟨w8, hw8⟩ : ∃ w8, w8 = wo.alloc (.cells #[.int .i64 x.kind, .string x.mod, .string x.name, .int .i64 x.typ.kind, .string x.typ.pkg, .int .i64 x.typ.major, .string x.typ.mod, .string x.typ.name, .slice An x.typ.names.length cA, .slice As x.typ.subs.length cS] 60) := ⟨_, rfl⟩;have B8 : Below wo.heap.size wo w8 := by rw [hw8]; exact below_new (Below.refl _ _) _
      have LN := hZ (text11_any x.kind x.mod x.name x.typ An As cA cS w8 (us.keep B8) hmx ((HP.out.on HBo.out).on B8));have G8 : Hid (Wr w1.heap.size w1.heap.size wb (textI u.imps ++ textL (u.lines.take k)) w8) := hZ (by rw [hw8]; exact HK.out.alloc _);have HW8 := hZ hw8;have HX := hZ hx
      have HL : Hid ((textI u.imps ++ textL (u.lines.take k)).length + (txL x).size <= 4000000) := hZ (by
        have h1 := HZ2.out;have h2 := textL_len (u.lines.take k) (fun y hy => HMD.out y (List.mem_of_mem_take hy));have h3 := txL_size hmx;rw [List.length_take] at h2;have h4 : min k u.lines.length <= k := Nat.min_le_left _ _;rw [List.length_append];omega)
      clear hx hmx us B8 hw8;go_wp2_with fail
      rw [<- HW8.out];refine LN.out.mono ?_; rintro e w4 ⟨rfl, hb4⟩
      have G4 := hZ (G8.out.below hb4);clear a0 am a1 u0 u1 u2 u3 u4 u5 u6 hb4 LN HW8;go_wp2_with fail
      refine (wr_str G4.out (txL x) HL.out).mono ?_; rintro e w5 ⟨rfl, g5⟩
      have G5 := hZ g5;clear g5;go_wp2_with fail
      go_roundw
      case rel => exact ⟨k + 1, by omega, by go_num, hZ (G5.out.eq (by rw [textL_take _ _ _ HX.out]; simp [List.append_assoc]))⟩
      case measure => simp [intOf]; omega
    · have GF : Hid (Wr w1.heap.size w1.heap.size wb (textU u) wo) := hZ (HK.out.eq (by
        rw [List.take_of_length_le (by rw [<- HND.out]; omega)]; rfl))
      have hsz : w1.heap.size <= wo.heap.size := by have := GF.out.lt; omega
      go_wp2_with fail
      refine (Tryz.Builder_String_any w1.heap.size w1.heap.size (textU u) _ GF.out.1 hsz).mono ?_; rintro e w6 ⟨rfl, hb6⟩
      go_wp2_with fail
      go_ret2
      exact ⟨rfl, HBo.out.trans (hb6.mono HB1.out.size)⟩
end Go.Proofs.YteecgiebimdbhaaGreatDoor
namespace Go.Proofs.YteecgiebimdbhaaGreatDoor
open Go Go.RowKit
open Go.Sort
open M
section
variable {P : Program} (w : World)
end
theorem flatC_len {k : Nat} : ∀ (C : List (List Value)), (∀ l, l ∈ C -> l.length = k) -> C.flatten.length = C.length * k
  | [], _ => by simp
  | a :: r, h => by
    rw [List.flatten_cons, List.length_append, h a List.mem_cons_self, flatC_len r (fun l hl => h l (List.mem_cons_of_mem _ hl)), List.length_cons, Nat.succ_mul];omega
theorem RowIn.lists {α : Type} {R : Reads α} {w : World} {g o : Nat} {xs : List α} (hk : 0 < R.k) (h : RowIn R w (some ⟨g, o, none⟩) xs) :
    ∃ C : List (List Value), C.length = xs.length /\ (∀ l, l ∈ C -> l.length = R.k) /\ (∀ (i : Nat) (l : List Value) (x : α), C[i]? = some l -> xs[i]? = some x -> R.E w l x) /\
      ∀ (j : Nat) (u : Value), C.flatten[j]? = some u -> w.cell? ⟨g, o + j, none⟩ = some u := by
  have hall : ∀ i : Fin xs.length, ∃ l : List Value, R.E w l xs[i] /\ ∀ (j : Nat) (v : Value), l[j]? = some v -> w.cell? ⟨g, o + i.1 * R.k + j, none⟩ = some v := fun i => by
    obtain ⟨g', o', l, hA, hg, hc, hE⟩ := h i.1 xs[i] (List.getElem?_eq_getElem i.2);cases hA
    exact ⟨l, hE, hc⟩
  obtain ⟨F, hF⟩ := Classical.axiomOfChoice hall
  have hat : ∀ (i : Nat) (l : List Value), (List.ofFn F)[i]? = some l -> ∃ hi : i < xs.length, l = F ⟨i, hi⟩ := by
    intro i l hl;rw [List.getElem?_ofFn] at hl;split at hl
    · rename_i hi
      exact ⟨hi, (Option.some.inj hl).symm⟩
    · cases hl
  have hlen : ∀ l, l ∈ List.ofFn F -> l.length = R.k := fun l hl => by
    obtain ⟨i, hi⟩ := List.mem_iff_getElem?.1 hl;obtain ⟨hi', rfl⟩ := hat i l hi;exact R.len _ _ _ (hF ⟨i, hi'⟩).1
  refine ⟨List.ofFn F, by simp, hlen, fun i l x hl hx => ?_, fun j u hu => ?_⟩
  · obtain ⟨hi, rfl⟩ := hat i l hl
    rw [List.getElem?_eq_getElem hi] at hx;cases hx
    exact (hF ⟨i, hi⟩).1
  · have hj := (List.getElem?_eq_some_iff.1 hu).1
    rw [flatC_len _ hlen, List.length_ofFn] at hj;have hi : j / R.k < xs.length := Nat.div_lt_of_lt_mul (by rw [Nat.mul_comm]; exact hj);have hl : (List.ofFn F)[j / R.k]? = some (F ⟨j / R.k, hi⟩) := by rw [List.getElem?_ofFn, dif_pos hi]
    have hf := flatk_at (List.ofFn F) hlen (j / R.k) (j % R.k) _ hl (Nat.mod_lt _ hk);have hd : j / R.k * R.k + j % R.k = j := by rw [Nat.mul_comm]; exact Nat.div_add_mod j R.k
    rw [hd, hu] at hf;have := (hF ⟨j / R.k, hi⟩).2 (j % R.k) u hf.symm
    rwa [Nat.add_assoc, hd] at this
theorem ty_one {w : World} {l : List Value} {t : Ty} (h : TyAt w l t) : ∀ u ∈ l, u.oneCell' = true := by
  obtain ⟨An, cn, As, cs, rfl, -⟩ := h.parts;intro u hu;simp at hu;rcases hu with rfl | rfl | rfl | rfl | rfl | rfl | rfl <;> rfl
theorem small_size {s : ByteArray} (h : smallB s.data.toList = true) : s.size <= 20 := by
  unfold smallB at h
  rw [Bool.and_eq_true, spell_iff] at h;rw [<- len_size]; exact h.1.2.1
theorem great_size {s : ByteArray} (h : greatB s.data.toList = true) : s.size <= 20 := by
  unfold greatB at h
  rw [Bool.and_eq_true, spell_iff] at h;rw [<- len_size]; exact h.1.2.1
theorem mayD_name {d : De} (h : mayD d = true) : d.name.size <= 20 := by
  unfold mayD at h
  split at h
  · rw [Bool.and_eq_true] at h; exact great_size h.1
  · split at h
    · rw [Bool.and_eq_true] at h; exact great_size h.1
    · split at h
      · rw [Bool.and_eq_true] at h; exact small_size h.1
      · cases h
theorem mayM_parts {m : Mo} (h : mayM m = true) : m.imps.length <= 20 /\ m.decs.length <= 60 /\ (∀ x ∈ m.imps, mayI x = true) /\ ∀ d ∈ m.decs, mayD d = true := by
  unfold mayM at h
  simp only [Bool.and_eq_true, decide_eq_true_eq, List.all_eq_true] at h;exact ⟨h.2.1, h.2.2.1, h.2.2.2.1, h.2.2.2.2⟩
theorem MoAt.names {w : World} {l : List Value} {m : Mo} (h : MoAt w l m) : (∀ x ∈ m.imps, x.asn.size <= maxLen) /\ ∀ d ∈ m.decs, d.name.size <= maxLen := by
  obtain ⟨Ai, ci, Ad, cd, -, -, -, -, hI, hD⟩ := h;unfold maxLen
  refine ⟨fun x hx => ?_, fun d hd => ?_⟩
  · obtain ⟨i, hi⟩ := List.getElem?_of_mem hx
    obtain ⟨g, o, l, -, -, -, hE⟩ := hI i x hi;have := hE.2.2.2
    omega
  · obtain ⟨i, hi⟩ := List.getElem?_of_mem hd
    obtain ⟨g, o, l, -, -, -, hs, -⟩ := hD i d hi;omega
def CkAny (w : World) (m : Mo) (e : Ending) (w' : World) : Prop :=
  (mayM m = false /\ e = .returned (.iface 32 (.int .i64 1))) \/ (mayM m = true /\ CkOut w m e w')
theorem check7_any (m : Mo) (l : List Value) (w : World) (h : MoAt w l m) (hM : ∀ d ∈ m.decs, many d.typ <= 9000) (hcap : CapsAt l m) :
    Calls Tryz.prog 204 #[.agg l.toArray] w fun e w' => CkAny w m e w' /\ Below w.heap.size w w' := by
  cases hm : mayM m with
  | false =>
    refine (check7_no m l w h hm).mono ?_;rintro e w' ⟨he, hb⟩;exact ⟨.inl ⟨hm, he⟩, hb⟩
  | true =>
    refine (check7_yes m l w h hm h.names.1 (fun d hd => ⟨hM d hd, h.names.2 d hd⟩) hcap).mono ?_;rintro e w' ⟨he, hb⟩;exact ⟨.inr ⟨hm, he⟩, hb⟩
end Go.Proofs.YteecgiebimdbhaaGreatDoor
namespace Go.Proofs.YteecgiebimdbhaaGreatDoor
open Go.RowKit
open M
theorem fstN_neg {p : Nat -> Bool} {n : Nat} : ¬ 0 <= fstN p n ↔ ∀ i, i < n -> p i = false := by
  unfold fstN
  cases h : (List.range n).find? p with
  | none =>
    rw [List.find?_eq_none] at h;constructor
    · intro _ i hi
      have := h i (List.mem_range.2 hi)
      simpa using this
    · intro _; simp
  | some i =>
    constructor
    · intro h2; exact absurd (Int.natCast_nonneg i) h2
    · intro h2
      have h3 := List.find?_some h;have h4 := List.mem_range.1 (List.mem_of_find?_eq_some h);rw [h2 i h4] at h3; cases h3
structure Ok7 (m : Mo) : Prop where
  imp : ∀ i, i < m.imps.length -> dupB (·.asn) m.imps i = false
  dec : ∀ i, i < m.decs.length -> dupB (·.name) m.decs i = false
  whole : ∀ (i : Nat) (d : De), m.decs[i]? = some d -> wholeT m d.typ = true
  circ : ∀ (i : Nat) (d : De), m.decs[i]? = some d -> ¬ Reach (entries m) (saidT m d.typ) i
  hid : ∀ (i j : Nat) (d e : De), m.decs[i]? = some d -> m.decs[j]? = some e -> Reach (entries m) (saidT m d.typ) j -> e.kind ≠ 2
theorem dec_at {m : Mo} {i : Nat} (h : i < m.decs.length) : ∃ d, m.decs[i]? = some d := ⟨_, List.getElem?_eq_getElem h⟩
theorem dec_lt {m : Mo} {i : Nat} {d : De} (h : m.decs[i]? = some d) : i < m.decs.length := (List.getElem?_eq_some_iff.1 h).1
theorem hidB_iff {m : Mo} {l : List Nat} : hidB (entries m) l = false ↔ ∀ (j : Nat) (e : De), m.decs[j]? = some e -> Reach (entries m) l j -> e.kind ≠ 2 := by
  unfold hidB
  rw [List.any_eq_false];constructor
  · intro h j e he hr hk
    refine h j (List.mem_range.2 (by rw [entries_len]; exact dec_lt he)) ?_;rw [entries_at he, reachB_iff.2 hr];simp [hk]
  · intro h j hj
    have hj := List.mem_range.1 hj;rw [entries_len] at hj;obtain ⟨e, he⟩ := dec_at hj;rw [entries_at he];simp only [Bool.and_eq_true, not_and, Bool.not_eq_true, beq_eq_false_iff_ne, ne_eq];intro hr;exact h j e he (reachB_iff.1 hr)
theorem check7_none {m : Mo} : check7 m = none ↔ Ok7 m := by
  unfold check7 faults7
  rw [List.find?_eq_none];simp only [List.mem_cons, List.not_mem_nil, or_false, forall_eq_or_imp, forall_eq, decide_eq_true_eq, fstN_neg, entries_len];constructor
  · rintro ⟨h1, h2, h3, h4, h5⟩
    refine ⟨h1, h2, fun i d hd => ?_, fun i d hd hr => ?_, fun i j d e hd he hr => ?_⟩
    · have := h3 i (dec_lt hd)
      rw [atE_some (entries_at hd)] at this;simpa using this
    · have := h4 i (dec_lt hd)
      rw [atE_some (entries_at hd)] at this;rw [reachB_iff.2 hr] at this; cases this
    · have := h5 i (dec_lt hd)
      rw [atE_some (entries_at hd)] at this;exact hidB_iff.1 this j e he hr
  · intro h
    refine ⟨h.imp, h.dec, fun i hi => ?_, fun i hi => ?_, fun i hi => ?_⟩
    · obtain ⟨d, hd⟩ := dec_at hi
      rw [atE_some (entries_at hd)];simpa using h.whole i d hd
    · obtain ⟨d, hd⟩ := dec_at hi
      rw [atE_some (entries_at hd)];cases e : reachB (entries m) (saidT m d.typ) i with
      | false => rfl
      | true => exact absurd (reachB_iff.1 e) (h.circ i d hd)
    · obtain ⟨d, hd⟩ := dec_at hi
      rw [atE_some (entries_at hd)];exact hidB_iff.2 fun j e he hr => h.hid i j d e hd he hr
structure Emb (f : Nat -> Nat) (m' m : Mo) : Prop where
  imps : m'.imps = m.imps
  dec : ∀ (i : Nat) (d : De), m'.decs[i]? = some d -> m.decs[f i]? = some d
  inj : ∀ i j, i < m'.decs.length -> j < m'.decs.length -> f i = f j -> i = j
  sur : ∀ (i : Nat) (d : De), m.decs[i]? = some d -> d.kind ≠ 4 -> ∃ j, j < m'.decs.length /\ f j = i
theorem dup_not {m : Mo} (h : ∀ i, i < m.decs.length -> dupB (·.name) m.decs i = false) {i j : Nat} {d e : De} (hi : m.decs[i]? = some d) (hj : m.decs[j]? = some e) (hn : d.name = e.name) : i = j := by
  have key : ∀ (i j : Nat) (d e : De), m.decs[i]? = some d -> m.decs[j]? = some e -> d.name = e.name -> ¬ i < j := by
    intro i j d e hi hj hn hlt;have h1 := h j (dec_lt hj);rw [dupB_some hj, List.any_eq_false] at h1;exact h1 d (List.mem_of_getElem? (i := i) (by rw [List.getElem?_take, if_pos hlt]; exact hi)) (by simpa using hn)
  have a := key i j d e hi hj hn;have b := key j i e d hj hi hn.symm;omega
section
variable {f : Nat -> Nat} {m' m : Mo}
end
mutual
def locT : Ty -> List Ty
  | .mk k p j d n ns ss => if k = 8 then .mk k p j d n ns ss :: locL ss else locL ss
def locL : List Ty -> List Ty
  | [] => []
  | t :: r => locT t ++ locL r
end
theorem locT_eq (t : Ty) : locT t = (if t.kind = 8 then [t] else []) ++ locL t.subs := by
  cases t; unfold locT Ty.kind Ty.subs; split <;> rfl
def oneN (m : Mo) (x : Ty) : List Nat := if x.mod.size = 0 then (typAt m x.name).toList else []
theorem local_subs {t : Ty} (h : ownOk t = true) (hk : t.kind = 8) : t.subs = [] := by
  unfold ownOk shapeOk at h
  rw [hk] at h;simp only [Bool.and_eq_true, decide_eq_true_eq, reduceCtorEq, if_neg (show ¬ ((8 : Int) = 1 \/ (8 : Int) = 2 \/ (8 : Int) = 3) by decide), if_neg (show ¬ (8 : Int) = 4 by decide), if_neg (show ¬ (8 : Int) = 5 by decide), if_neg (show ¬ (8 : Int) = 6 by decide), if_neg (show ¬ (8 : Int) = 7 by decide), if_pos] at h;exact List.length_eq_zero_iff.1 h.2.1.1.1.1.1
mutual
theorem loc_ok (m : Mo) : ∀ t : Ty, allOk t = true -> saidT m t = (locT t).flatMap (oneN m) /\ wholeT m t = (locT t).all (knoN m)
  | .mk k p j d n ns ss, h => by
    rw [allOk_eq, Bool.and_eq_true] at h;by_cases hk : k = 8
    · have hs : ss = [] := local_subs h.1 hk
      subst hs;unfold saidT wholeT locT
      simp only [if_pos hk];refine ⟨by simp [locL, oneN, Ty.mod, Ty.name], by simp [locL, knoN, Ty.mod, Ty.name]⟩
    · unfold saidT wholeT locT
      simp only [if_neg hk];exact locL_ok m ss h.2
theorem locL_ok (m : Mo) : ∀ l : List Ty, allOkL l = true -> saidL m l = (locL l).flatMap (oneN m) /\ wholeL m l = (locL l).all (knoN m)
  | [], _ => ⟨rfl, rfl⟩
  | t :: r, h => by
    unfold allOkL at h
    rw [Bool.and_eq_true] at h;have h1 := loc_ok m t h.1;have h2 := locL_ok m r h.2;unfold saidL wholeL locL
    rw [h1.1, h2.1, h1.2, h2.2, List.flatMap_append, List.all_append];exact ⟨rfl, rfl⟩
end
theorem loc_may (m : Mo) {t : Ty} (h : mayT t = true) : saidT m t = (locT t).flatMap (oneN m) /\ wholeT m t = (locT t).all (knoN m) := by
  unfold mayT at h
  simp only [Bool.and_eq_true] at h;exact loc_ok m t h.1.1
theorem mayD_sorts {d : De} (h : mayD d = true) : ((d.kind = 1 \/ d.kind = 2) /\ d.typ = noT /\ greatB d.name.data.toList = true) \/ (d.kind = 3 /\ mayT d.typ = true /\ greatB d.name.data.toList = true) \/ (d.kind = 4 /\ mayT d.typ = true /\ smallB d.name.data.toList = true) := by
  unfold mayD at h
  split at h
  · rename_i hk
    rw [Bool.and_eq_true] at h;exact .inl ⟨hk, (sameT_iff _ _).1 h.2, h.1⟩
  · split at h
    · rename_i hk
      rw [Bool.and_eq_true] at h;exact .inr (.inl ⟨hk, h.2, h.1⟩)
    · split at h
      · rename_i hk
        rw [Bool.and_eq_true] at h;exact .inr (.inr ⟨hk, h.2, h.1⟩)
      · cases h
structure Rch (m : Mo) (t : Ty) (F : Nat -> Bool) (L : List Ty) : Prop where
  only : ∀ i, F i = true -> Reach (entries m) (saidT m t) i
  says : ∀ x ∈ L, ∀ i ∈ oneN m x, Reach (entries m) (saidT m t) i
  own : ∀ x ∈ locT t, x ∈ L
  on : ∀ (k : Nat) (d : De), F k = true -> m.decs[k]? = some d -> d.kind = 3 -> ∀ x ∈ locT d.typ, x ∈ L
end Go.Proofs.YteecgiebimdbhaaGreatDoor
