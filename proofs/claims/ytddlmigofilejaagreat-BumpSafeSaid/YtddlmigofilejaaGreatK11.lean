/-
  Several texts in one.
-/
import Derived.Test.YtddlmigofilejaaGreatK10
set_option maxRecDepth 100000
set_option maxHeartbeats 8000000
namespace Go.Proofs.YtddlmigofilejaaGreat
open Go.RowKit
open Go.Sort Go.Maps
open M
def isDe (s : ByteArray) (d : De) : Bool := decide (d.name = s)
def isAs (s : ByteArray) (x : Im) : Bool := decide (x.asn = s)
theorem pIf_one (y : If) (At : Option Addr) (ct : Nat) (Av : Option Addr) (cv : Nat) (x : Im) (xb : Nat) (w : World) (hx : w.heap[xb]? = some (.cells #[.string x.pkg, .int .i64 x.major, .string x.mod, .string x.asn] 71 (0, 0))) :
  Calls Tryz.prog 94 #[.agg #[.string y.pkg, .int .i64 y.major, .string y.mod, .slice At y.types.length ct, .slice Av y.vals.length cv], .pointer (some ⟨xb, 0, none⟩)] w fun e w' => e = .returned (.bool (isIf x.pkg x.major x.mod y)) /\ Below w.heap.size w w' := by
 obtain ⟨wb, hwb⟩ : ∃ wb, wb = w.alloc (.cells #[.string y.pkg, .int .i64 y.major, .string y.mod, .slice At y.types.length ct, .slice Av y.vals.length cv] 44) := ⟨_, rfl⟩
 have B0 : Below w.heap.size w wb := by rw [hwb]; exact below_new (Below.refl _ _) _
 have X0 : wb.heap[w.heap.size]? = some (.cells #[.string y.pkg, .int .i64 y.major, .string y.mod, .slice At y.types.length ct, .slice Av y.vals.length cv] 44 (0, 0)) := by rw [hwb]; exact heap_alloc_new w _
 have X1 := (B0.block _ (Array.getElem?_eq_some_iff.1 hx).1).trans hx
 obtain ⟨y0, y1, y2⟩ := cq3 X0
 obtain ⟨x0, x1, x2⟩ := cq3 X1
 simp at y0 y1 y2 x0 x1 x2
 have HB0 := hZ B0
 have HWB := hZ hwb
 have hq := str_eq y.pkg x.pkg
 have hr := str_eq y.mod x.mod
 obtain ⟨b2, hb2⟩ : ∃ b, (y.major == x.major) = b := ⟨_, rfl⟩
 obtain ⟨b1, hb1⟩ : ∃ b, b = decide (y.pkg = x.pkg) := ⟨_, rfl⟩
 obtain ⟨b3, hb3⟩ : ∃ b, b = decide (y.mod = x.mod) := ⟨_, rfl⟩
 rw [<- hb1] at hq
 rw [<- hb3] at hr
 obtain ⟨V, hV⟩ : ∃ V, V = isIf x.pkg x.major x.mod y := ⟨_, rfl⟩
 have HV : Hid (V = (b1 && (b2 && b3))) := hZ (by rw [hV, hb1, hb3, <- hb2]; rfl)
 rw [<- hV]
 clear hx hwb B0 X0 X1 hb1 hb3 hV
 cases b1 with
 | false =>
  have RV : V = false := HV.out;subst RV;go_enter Tryz.func94, Tryz.ntmps94
  go_upto_region 1 with fail
  rw [<- HWB.out];go_wp2_with fail
  go_ret;exact ⟨rfl, HB0.out⟩
 | true =>
  cases b2 with
  | false =>
   have RV : V = false := HV.out;subst RV;go_enter Tryz.func94, Tryz.ntmps94
   go_upto_region 1 with fail
   rw [<- HWB.out];go_wp2_with fail
   go_ret;exact ⟨rfl, HB0.out⟩
  | true =>
   have RV : V = b3 := HV.out;subst RV;go_enter Tryz.func94, Tryz.ntmps94
   go_upto_region 1 with fail
   rw [<- HWB.out];go_wp2_with fail
   go_ret;exact ⟨by first | rfl | exact ret_bool rfl, HB0.out⟩
theorem pIf_index (A : Option Addr) (c : Nat) (l : List If) (x : Im) (xb : Nat) (w : World) (h : RowIn ifR w A l) (hl : l.length <= 9223372036854775807) (hx : w.heap[xb]? = some (.cells #[.string x.pkg, .int .i64 x.major, .string x.mod, .string x.asn] 71 (0, 0))) :
  Calls Tryz.prog 129 #[.slice A l.length c, .func (.func 94) #[] #[.pointer (some ⟨xb, 0, none⟩)]] w fun e w' => e = .returned (.int .i64 (optN (l.findIdx? (isIf x.pkg x.major x.mod)))) /\ Below w.heap.size w w' := by
 have HR := hZ h
 have HX0 := hZ hx
 obtain ⟨n, hn⟩ : ∃ n, n = l.length := ⟨_, rfl⟩
 have HN := hZ hn
 obtain ⟨V, hV⟩ : ∃ V, V = optN (l.findIdx? (isIf x.pkg x.major x.mod)) := ⟨_, rfl⟩
 have HV := hZ hV
 rw [<- hn] at hl ⊢
 rw [<- hV]
 clear h hn hx hV
 go_enter Tryz.func129, Tryz.ntmps129
 go_wp2_with fail
 go_loopw [8] (fun s8 wr => ∃ k : Nat, k <= n /\ s8 = .int .i64 k /\ Hid (∀ z ∈ l.take k, (isIf x.pkg x.major x.mod) z = false) /\ Hid (Below w.heap.size w wr)) (fun s8 _ => n - (intOf s8).toNat)
 case atStart => exact ⟨0, by omega, rfl, hZ (by simp), hZ (Below.refl _ _)⟩
 case round =>
  obtain ⟨k, hk, rfl, HNO, HB⟩ := hrel;obtain ⟨wo, rfl⟩ : ∃ wo : World, wo = wr := ⟨_, rfl⟩;by_cases hlt : k < n
  ·obtain ⟨y, hx⟩ : ∃ y, l[k]? = some y := ⟨_, List.getElem?_eq_getElem (by rw [<- HN.out]; exact hlt)⟩
   obtain ⟨g, o, At, ct, Av, cv, rfl, hg, a0, a1, a2, a3, a4, -⟩ := (HR.out.below HB.out).ifc hx;have IM := hZ (pIf_one y At ct Av cv x xb wo ((HB.out.block _ (Array.getElem?_eq_some_iff.1 HX0.out).1).trans HX0.out));have HY := hZ hx;have hk0 : (0 : Int) <= k := by omega
   have hk1 : (k : Int) < n := by omega
   obtain ⟨q, hq⟩ : ∃ q, (isIf x.pkg x.major x.mod) y = q := ⟨_, rfl⟩;rw [hq] at IM;have HQ := hZ hq;clear hq hx hg;cases q with
   | true =>
    have RV : V = (k : Int) := by rw [HV.out, idx_yes HY.out HNO.out HQ.out]; rfl
    subst RV;go_wp2_with fail
    refine IM.out.mono ?_; rintro e w2 ⟨rfl, hb2⟩
    have HB2 := hZ (below_over HB.out hb2);clear a0 a1 a2 a3 a4 hb2;go_wp2_with fail
    go_ret;exact ⟨rfl, HB2.out⟩
   | false =>
    have NX : Hid (∀ z ∈ l.take (k + 1), (isIf x.pkg x.major x.mod) z = false) := hZ (fun z hy => by
     rw [List.take_add_one, HY.out] at hy;rcases List.mem_append.1 hy with h | h
     ·exact HNO.out z h
     ·simp at h; rw [h]; exact HQ.out)
    go_wp2_with fail
    refine IM.out.mono ?_; rintro e w2 ⟨rfl, hb2⟩
    have HB2 := hZ (below_over HB.out hb2);clear a0 a1 a2 a3 a4 hb2;go_wp2_with fail
    go_roundw
    case rel => exact ⟨k + 1, by omega, by go_num, NX, HB2⟩
    case measure => simp [intOf]; omega
  ·have RV : V = -1 := by rw [HV.out, idx_no (fun z hz => HNO.out z (by rw [List.take_of_length_le (by rw [<- HN.out]; omega)]; exact hz))]; rfl
   subst RV;go_wp2_with fail
   go_ret;exact ⟨rfl, HB.out⟩
theorem pNm_one (y : Nm) (Bn : Option Addr) (cB : Nat) (Bs : Option Addr) (dB : Nat) (s : ByteArray) (xb : Nat) (w : World) (hx : w.heap[xb]? = some (.cells #[.string s] 9 (0, 0))) :
  Calls Tryz.prog 131 #[.agg #[.string y.name, .int .i64 y.typ.kind, .string y.typ.pkg, .int .i64 y.typ.major, .string y.typ.mod, .string y.typ.name, .slice Bn y.typ.names.length cB, .slice Bs y.typ.subs.length dB], .pointer (some ⟨xb, 0, none⟩)] w fun e w' => e = .returned (.bool (isNm s y)) /\ Below w.heap.size w w' := by
 obtain ⟨wb, hwb⟩ : ∃ wb, wb = w.alloc (.cells #[.string y.name, .int .i64 y.typ.kind, .string y.typ.pkg, .int .i64 y.typ.major, .string y.typ.mod, .string y.typ.name, .slice Bn y.typ.names.length cB, .slice Bs y.typ.subs.length dB] 52) := ⟨_, rfl⟩
 have B0 : Below w.heap.size w wb := by rw [hwb]; exact below_new (Below.refl _ _) _
 have X0 : wb.heap[w.heap.size]? = some (.cells #[.string y.name, .int .i64 y.typ.kind, .string y.typ.pkg, .int .i64 y.typ.major, .string y.typ.mod, .string y.typ.name, .slice Bn y.typ.names.length cB, .slice Bs y.typ.subs.length dB] 52 (0, 0)) := by rw [hwb]; exact heap_alloc_new w _
 have X1 := (B0.block _ (Array.getElem?_eq_some_iff.1 hx).1).trans hx
 have y0 := cZ X0 0
 have x0 := cZ X1 0
 simp at y0 x0
 have HB0 := hZ B0
 have HWB := hZ hwb
 have hq := str_eq y.name s
 obtain ⟨b1, hb1⟩ : ∃ b, b = decide (y.name = s) := ⟨_, rfl⟩
 rw [<- hb1] at hq
 have e1 : isNm s y = b1 := hb1.symm
 rw [e1]
 clear hx hwb B0 X0 X1 hb1 e1
 go_enter Tryz.func131, Tryz.ntmps131
 go_upto_region 1 with fail
 rw [<- HWB.out]
 go_wp2_with fail
 go_ret
 exact ⟨by first | rfl | exact ret_bool hq, HB0.out⟩
theorem pNm_index (A : Option Addr) (c : Nat) (l : List Nm) (s : ByteArray) (xb : Nat) (w : World) (h : RowIn nmR w A l) (hl : l.length <= 9223372036854775807) (hx : w.heap[xb]? = some (.cells #[.string s] 9 (0, 0))) :
  Calls Tryz.prog 157 #[.slice A l.length c, .func (.func 131) #[] #[.pointer (some ⟨xb, 0, none⟩)]] w fun e w' => e = .returned (.int .i64 (optN (l.findIdx? (isNm s)))) /\ Below w.heap.size w w' := by
 have HR := hZ h
 have HX0 := hZ hx
 obtain ⟨n, hn⟩ : ∃ n, n = l.length := ⟨_, rfl⟩
 have HN := hZ hn
 obtain ⟨V, hV⟩ : ∃ V, V = optN (l.findIdx? (isNm s)) := ⟨_, rfl⟩
 have HV := hZ hV
 rw [<- hn] at hl ⊢
 rw [<- hV]
 clear h hn hx hV
 go_enter Tryz.func157, Tryz.ntmps157
 go_wp2_with fail
 go_loopw [8] (fun s8 wr => ∃ k : Nat, k <= n /\ s8 = .int .i64 k /\ Hid (∀ z ∈ l.take k, (isNm s) z = false) /\ Hid (Below w.heap.size w wr)) (fun s8 _ => n - (intOf s8).toNat)
 case atStart => exact ⟨0, by omega, rfl, hZ (by simp), hZ (Below.refl _ _)⟩
 case round =>
  obtain ⟨k, hk, rfl, HNO, HB⟩ := hrel;obtain ⟨wo, rfl⟩ : ∃ wo : World, wo = wr := ⟨_, rfl⟩;by_cases hlt : k < n
  ·obtain ⟨y, hx⟩ : ∃ y, l[k]? = some y := ⟨_, List.getElem?_eq_getElem (by rw [<- HN.out]; exact hlt)⟩
   obtain ⟨g, o, Bn, cB, Bs, dB, rfl, hg, a0, a1, a2, a3, a4, a5, a6, a7, -⟩ := (HR.out.below HB.out).nm hx;have IM := hZ (pNm_one y Bn cB Bs dB s xb wo ((HB.out.block _ (Array.getElem?_eq_some_iff.1 HX0.out).1).trans HX0.out));have HY := hZ hx;have hk0 : (0 : Int) <= k := by omega
   have hk1 : (k : Int) < n := by omega
   obtain ⟨q, hq⟩ : ∃ q, (isNm s) y = q := ⟨_, rfl⟩;rw [hq] at IM;have HQ := hZ hq;clear hq hx hg;cases q with
   | true =>
    have RV : V = (k : Int) := by rw [HV.out, idx_yes HY.out HNO.out HQ.out]; rfl
    subst RV;go_wp2_with fail
    refine IM.out.mono ?_; rintro e w2 ⟨rfl, hb2⟩
    have HB2 := hZ (below_over HB.out hb2);clear a0 a1 a2 a3 a4 a5 a6 a7 hb2;go_wp2_with fail
    go_ret;exact ⟨rfl, HB2.out⟩
   | false =>
    have NX : Hid (∀ z ∈ l.take (k + 1), (isNm s) z = false) := hZ (fun z hy => by
     rw [List.take_add_one, HY.out] at hy;rcases List.mem_append.1 hy with h | h
     ·exact HNO.out z h
     ·simp at h; rw [h]; exact HQ.out)
    go_wp2_with fail
    refine IM.out.mono ?_; rintro e w2 ⟨rfl, hb2⟩
    have HB2 := hZ (below_over HB.out hb2);clear a0 a1 a2 a3 a4 a5 a6 a7 hb2;go_wp2_with fail
    go_roundw
    case rel => exact ⟨k + 1, by omega, by go_num, NX, HB2⟩
    case measure => simp [intOf]; omega
  ·have RV : V = -1 := by rw [HV.out, idx_no (fun z hz => HNO.out z (by rw [List.take_of_length_le (by rw [<- HN.out]; omega)]; exact hz))]; rfl
   subst RV;go_wp2_with fail
   go_ret;exact ⟨rfl, HB.out⟩
theorem pDe_one (y : De) (Bn : Option Addr) (cB : Nat) (Bs : Option Addr) (dB : Nat) (s : ByteArray) (xb : Nat) (w : World) (hx : w.heap[xb]? = some (.cells #[.string s] 9 (0, 0))) :
  Calls Tryz.prog 193 #[.agg #[.int .i64 y.kind, .string y.name, .int .i64 y.typ.kind, .string y.typ.pkg, .int .i64 y.typ.major, .string y.typ.mod, .string y.typ.name, .slice Bn y.typ.names.length cB, .slice Bs y.typ.subs.length dB], .pointer (some ⟨xb, 0, none⟩)] w fun e w' => e = .returned (.bool (isDe s y)) /\ Below w.heap.size w w' := by
 obtain ⟨wb, hwb⟩ : ∃ wb, wb = w.alloc (.cells #[.int .i64 y.kind, .string y.name, .int .i64 y.typ.kind, .string y.typ.pkg, .int .i64 y.typ.major, .string y.typ.mod, .string y.typ.name, .slice Bn y.typ.names.length cB, .slice Bs y.typ.subs.length dB] 191) := ⟨_, rfl⟩
 have B0 : Below w.heap.size w wb := by rw [hwb]; exact below_new (Below.refl _ _) _
 have X0 : wb.heap[w.heap.size]? = some (.cells #[.int .i64 y.kind, .string y.name, .int .i64 y.typ.kind, .string y.typ.pkg, .int .i64 y.typ.major, .string y.typ.mod, .string y.typ.name, .slice Bn y.typ.names.length cB, .slice Bs y.typ.subs.length dB] 191 (0, 0)) := by rw [hwb]; exact heap_alloc_new w _
 have X1 := (B0.block _ (Array.getElem?_eq_some_iff.1 hx).1).trans hx
 have y1 := cZ X0 1
 have x0 := cZ X1 0
 simp at y1 x0
 have HB0 := hZ B0
 have HWB := hZ hwb
 have hq := str_eq y.name s
 obtain ⟨b1, hb1⟩ : ∃ b, b = decide (y.name = s) := ⟨_, rfl⟩
 rw [<- hb1] at hq
 have e1 : isDe s y = b1 := hb1.symm
 rw [e1]
 clear hx hwb B0 X0 X1 hb1 e1
 go_enter Tryz.func193, Tryz.ntmps193
 go_upto_region 1 with fail
 rw [<- HWB.out]
 go_wp2_with fail
 go_ret
 exact ⟨by first | rfl | exact ret_bool hq, HB0.out⟩
theorem pDe_index (A : Option Addr) (c : Nat) (l : List De) (s : ByteArray) (xb : Nat) (w : World) (h : RowIn deR w A l) (hl : l.length <= 9223372036854775807) (hx : w.heap[xb]? = some (.cells #[.string s] 9 (0, 0))) :
  Calls Tryz.prog 190 #[.slice A l.length c, .func (.func 193) #[] #[.pointer (some ⟨xb, 0, none⟩)]] w fun e w' => e = .returned (.int .i64 (optN (l.findIdx? (isDe s)))) /\ Below w.heap.size w w' := by
 have HR := hZ h
 have HX0 := hZ hx
 obtain ⟨n, hn⟩ : ∃ n, n = l.length := ⟨_, rfl⟩
 have HN := hZ hn
 obtain ⟨V, hV⟩ : ∃ V, V = optN (l.findIdx? (isDe s)) := ⟨_, rfl⟩
 have HV := hZ hV
 rw [<- hn] at hl ⊢
 rw [<- hV]
 clear h hn hx hV
 go_enter Tryz.func190, Tryz.ntmps190
 go_wp2_with fail
 go_loopw [8] (fun s8 wr => ∃ k : Nat, k <= n /\ s8 = .int .i64 k /\ Hid (∀ z ∈ l.take k, (isDe s) z = false) /\ Hid (Below w.heap.size w wr)) (fun s8 _ => n - (intOf s8).toNat)
 case atStart => exact ⟨0, by omega, rfl, hZ (by simp), hZ (Below.refl _ _)⟩
 case round =>
  obtain ⟨k, hk, rfl, HNO, HB⟩ := hrel;obtain ⟨wo, rfl⟩ : ∃ wo : World, wo = wr := ⟨_, rfl⟩;by_cases hlt : k < n
  ·obtain ⟨y, hx⟩ : ∃ y, l[k]? = some y := ⟨_, List.getElem?_eq_getElem (by rw [<- HN.out]; exact hlt)⟩
   obtain ⟨g, o, v0, v1, v2, v3, v4, v5, v6, rfl, hg, a0, a1, a2, a3, a4, a5, a6, a7, a8, us, zs⟩ := (HR.out.below HB.out).de hx;obtain ⟨Bn, cB, Bs, dB, ev, -⟩ := us.parts;simp only [List.cons.injEq, and_true] at ev;obtain ⟨rfl, rfl, rfl, rfl, rfl, rfl, rfl⟩ := ev;clear us zs;have IM := hZ (pDe_one y Bn cB Bs dB s xb wo ((HB.out.block _ (Array.getElem?_eq_some_iff.1 HX0.out).1).trans HX0.out));have HY := hZ hx;have hk0 : (0 : Int) <= k := by omega
   have hk1 : (k : Int) < n := by omega
   obtain ⟨q, hq⟩ : ∃ q, (isDe s) y = q := ⟨_, rfl⟩;rw [hq] at IM;have HQ := hZ hq;clear hq hx hg;cases q with
   | true =>
    have RV : V = (k : Int) := by rw [HV.out, idx_yes HY.out HNO.out HQ.out]; rfl
    subst RV;go_wp2_with fail
    refine IM.out.mono ?_; rintro e w2 ⟨rfl, hb2⟩
    have HB2 := hZ (below_over HB.out hb2);clear a0 a1 a2 a3 a4 a5 a6 a7 a8 hb2;go_wp2_with fail
    go_ret;exact ⟨rfl, HB2.out⟩
   | false =>
    have NX : Hid (∀ z ∈ l.take (k + 1), (isDe s) z = false) := hZ (fun z hy => by
     rw [List.take_add_one, HY.out] at hy;rcases List.mem_append.1 hy with h | h
     ·exact HNO.out z h
     ·simp at h; rw [h]; exact HQ.out)
    go_wp2_with fail
    refine IM.out.mono ?_; rintro e w2 ⟨rfl, hb2⟩
    have HB2 := hZ (below_over HB.out hb2);clear a0 a1 a2 a3 a4 a5 a6 a7 a8 hb2;go_wp2_with fail
    go_roundw
    case rel => exact ⟨k + 1, by omega, by go_num, NX, HB2⟩
    case measure => simp [intOf]; omega
  ·have RV : V = -1 := by rw [HV.out, idx_no (fun z hz => HNO.out z (by rw [List.take_of_length_le (by rw [<- HN.out]; omega)]; exact hz))]; rfl
   subst RV;go_wp2_with fail
   go_ret;exact ⟨rfl, HB.out⟩
theorem pAs_one (y : Im)  (s : ByteArray) (xb : Nat) (w : World) (hx : w.heap[xb]? = some (.cells #[.string s] 9 (0, 0))) :
  Calls Tryz.prog 89 #[.agg #[.string y.pkg, .int .i64 y.major, .string y.mod, .string y.asn], .pointer (some ⟨xb, 0, none⟩)] w fun e w' => e = .returned (.bool (isAs s y)) /\ Below w.heap.size w w' := by
 obtain ⟨wb, hwb⟩ : ∃ wb, wb = w.alloc (.cells #[.string y.pkg, .int .i64 y.major, .string y.mod, .string y.asn] 71) := ⟨_, rfl⟩
 have B0 : Below w.heap.size w wb := by rw [hwb]; exact below_new (Below.refl _ _) _
 have X0 : wb.heap[w.heap.size]? = some (.cells #[.string y.pkg, .int .i64 y.major, .string y.mod, .string y.asn] 71 (0, 0)) := by rw [hwb]; exact heap_alloc_new w _
 have X1 := (B0.block _ (Array.getElem?_eq_some_iff.1 hx).1).trans hx
 have y3 := cZ X0 3
 have x0 := cZ X1 0
 simp at y3 x0
 have HB0 := hZ B0
 have HWB := hZ hwb
 have hq := str_eq y.asn s
 obtain ⟨b1, hb1⟩ : ∃ b, b = decide (y.asn = s) := ⟨_, rfl⟩
 rw [<- hb1] at hq
 have e1 : isAs s y = b1 := hb1.symm
 rw [e1]
 clear hx hwb B0 X0 X1 hb1 e1
 go_enter Tryz.func89, Tryz.ntmps89
 go_upto_region 1 with fail
 rw [<- HWB.out]
 go_wp2_with fail
 go_ret
 exact ⟨by first | rfl | exact ret_bool hq, HB0.out⟩
theorem pAs_index (A : Option Addr) (c : Nat) (l : List Im) (s : ByteArray) (xb : Nat) (w : World) (h : RowIn imR w A l) (hl : l.length <= 9223372036854775807) (hx : w.heap[xb]? = some (.cells #[.string s] 9 (0, 0))) :
  Calls Tryz.prog 87 #[.slice A l.length c, .func (.func 89) #[] #[.pointer (some ⟨xb, 0, none⟩)]] w fun e w' => e = .returned (.int .i64 (optN (l.findIdx? (isAs s)))) /\ Below w.heap.size w w' := by
 have HR := hZ h
 have HX0 := hZ hx
 obtain ⟨n, hn⟩ : ∃ n, n = l.length := ⟨_, rfl⟩
 have HN := hZ hn
 obtain ⟨V, hV⟩ : ∃ V, V = optN (l.findIdx? (isAs s)) := ⟨_, rfl⟩
 have HV := hZ hV
 rw [<- hn] at hl ⊢
 rw [<- hV]
 clear h hn hx hV
 go_enter Tryz.func87, Tryz.ntmps87
 go_wp2_with fail
 go_loopw [8] (fun s8 wr => ∃ k : Nat, k <= n /\ s8 = .int .i64 k /\ Hid (∀ z ∈ l.take k, (isAs s) z = false) /\ Hid (Below w.heap.size w wr)) (fun s8 _ => n - (intOf s8).toNat)
 case atStart => exact ⟨0, by omega, rfl, hZ (by simp), hZ (Below.refl _ _)⟩
 case round =>
  obtain ⟨k, hk, rfl, HNO, HB⟩ := hrel;obtain ⟨wo, rfl⟩ : ∃ wo : World, wo = wr := ⟨_, rfl⟩;by_cases hlt : k < n
  ·obtain ⟨y, hx⟩ : ∃ y, l[k]? = some y := ⟨_, List.getElem?_eq_getElem (by rw [<- HN.out]; exact hlt)⟩
   obtain ⟨g, o, rfl, hg, a0, a1, a2, a3, -⟩ := (HR.out.below HB.out).im hx;have IM := hZ (pAs_one y  s xb wo ((HB.out.block _ (Array.getElem?_eq_some_iff.1 HX0.out).1).trans HX0.out));have HY := hZ hx;have hk0 : (0 : Int) <= k := by omega
   have hk1 : (k : Int) < n := by omega
   obtain ⟨q, hq⟩ : ∃ q, (isAs s) y = q := ⟨_, rfl⟩;rw [hq] at IM;have HQ := hZ hq;clear hq hx hg;cases q with
   | true =>
    have RV : V = (k : Int) := by rw [HV.out, idx_yes HY.out HNO.out HQ.out]; rfl
    subst RV;go_wp2_with fail
    refine IM.out.mono ?_; rintro e w2 ⟨rfl, hb2⟩
    have HB2 := hZ (below_over HB.out hb2);clear a0 a1 a2 a3 hb2;go_wp2_with fail
    go_ret;exact ⟨rfl, HB2.out⟩
   | false =>
    have NX : Hid (∀ z ∈ l.take (k + 1), (isAs s) z = false) := hZ (fun z hy => by
     rw [List.take_add_one, HY.out] at hy;rcases List.mem_append.1 hy with h | h
     ·exact HNO.out z h
     ·simp at h; rw [h]; exact HQ.out)
    go_wp2_with fail
    refine IM.out.mono ?_; rintro e w2 ⟨rfl, hb2⟩
    have HB2 := hZ (below_over HB.out hb2);clear a0 a1 a2 a3 hb2;go_wp2_with fail
    go_roundw
    case rel => exact ⟨k + 1, by omega, by go_num, NX, HB2⟩
    case measure => simp [intOf]; omega
  ·have RV : V = -1 := by rw [HV.out, idx_no (fun z hz => HNO.out z (by rw [List.take_of_length_le (by rw [<- HN.out]; omega)]; exact hz))]; rfl
   subst RV;go_wp2_with fail
   go_ret;exact ⟨rfl, HB.out⟩
end Go.Proofs.YtddlmigofilejaaGreat
namespace Go.Proofs.YtddlmigofilejaaGreat
open Go Go.RowKit
open Go.Sort
section
variable {P : Program} {w : World}
end
theorem below_grown {B : Nat} {w w1 w2 : World} {v : Value} {e : TypeId} {z n : Nat} {xs : List Value} (hb : Below B w w1) (hB : B <= w1.heap.size) (hown : w1.ownsRow B e z v n xs) (hg : w1.grownBy w2 v.ownBlock) : Below B w w2 :=
  hb.trans ⟨hg.os, hg.tape, hg.output, hg.size, fun b h => hg.block b (Nat.lt_of_lt_of_le h hB) (fun e => by have := (hown.lt b e.symm).1; omega)⟩
end Go.Proofs.YtddlmigofilejaaGreat
namespace Go.Proofs.YtddlmigofilejaaGreat
open Go.RowKit Go.Shelf
open Go.Sort Go.Maps
open M
def ShL (l : List Value) (t : Ty) : Prop := ∃ (An : Option Addr) (cn : Nat) (As : Option Addr) (cs : Nat), l = [.int .i64 t.kind, .string t.pkg, .int .i64 t.major, .string t.mod, .string t.name, .slice An t.names.length cn, .slice As t.subs.length cs]
def OwnL (w : World) (lo : Nat) (v : Value) (xs : List Ty) : Prop :=
  ∃ C : List (List Value), C.length = xs.length /\ (∀ l, l ∈ C -> l.length = 7) /\ w.ownsRow lo 50 7 v xs.length C.flatten /\ ∀ (i : Nat) (l : List Value) (x : Ty), C[i]? = some l -> xs[i]? = some x -> ShL l x
end Go.Proofs.YtddlmigofilejaaGreat
namespace Go.Proofs.YtddlmigofilejaaGreat
open Go Go.RowKit Go.Shelf
open Go.Sort Go.Maps
open M
theorem findI_lt {env : List If} {p : ByteArray} {j : Int} {d : ByteArray} {k : Nat} (h : findI env p j d = some k) : k < env.length := by
  unfold findI at h
  rw [List.findIdx?_eq_some_iff_getElem] at h;exact h.1
theorem ofI_lt {l : List Nm} {s : ByteArray} {k : Nat} (h : ofI l s = some k) : k < l.length := by
  unfold ofI at h
  rw [List.findIdx?_eq_some_iff_getElem] at h;exact h.1
theorem zero_at (w : World) : TyAt w [.int .i64 0, .string ⟨#[]⟩, .int .i64 0, .string ⟨#[]⟩, .string ⟨#[]⟩, .slice none 0 0, .slice none 0 0] (.mk 0 ⟨#[]⟩ 0 ⟨#[]⟩ ⟨#[]⟩ [] []) :=
  .mk 0 ⟨#[]⟩ 0 ⟨#[]⟩ ⟨#[]⟩ [] [] none 0 none 0 (fun _ => [.int .i64 0, .string ⟨#[]⟩, .int .i64 0, .string ⟨#[]⟩, .string ⟨#[]⟩, .slice none 0 0, .slice none 0 0]) (by decide) (by decide) (by decide) (by decide) (by decide) (by decide) (fun i s h => by simp at h) (fun _ => rfl) (fun i t h => by simp at h) (fun i t h => by simp at h)
def zIf : If := ⟨⟨#[]⟩, 0, ⟨#[]⟩, [], []⟩
def zTy : Ty := .mk 0 ⟨#[]⟩ 0 ⟨#[]⟩ ⟨#[]⟩ [] []
def gotI (env : List If) (x : Im) : If := match findI env x.pkg x.major x.mod with | none => zIf | some k => (env[k]?).getD zIf
def gotT (l : List Nm) (s : ByteArray) : Ty := match ofI l s with | none => zTy | some k => ((l[k]?).map (·.typ)).getD zTy
theorem gotI_no {env : List If} {x : Im} (h : findI env x.pkg x.major x.mod = none) : gotI env x = zIf := by unfold gotI; rw [h]
theorem gotI_at {env : List If} {x : Im} {k : Nat} {y : If} (h : findI env x.pkg x.major x.mod = some k) (hy : env[k]? = some y) : gotI env x = y := by unfold gotI; rw [h]; simp only []; rw [hy]; rfl
theorem gotT_no {l : List Nm} {s : ByteArray} (h : ofI l s = none) : gotT l s = zTy := by unfold gotT; rw [h]
theorem gotT_at {l : List Nm} {s : ByteArray} {k : Nat} {y : Nm} (h : ofI l s = some k) (hy : l[k]? = some y) : gotT l s = y.typ := by unfold gotT; rw [h]; simp only []; rw [hy]; rfl
theorem ifSize : (Tryz.prog.info? 44).map (·.size) = some 5 := by kernel_rfl
theorem ifOne {p d : ByteArray} {m : Int} {A B : Option Addr} {n c k e : Nat} : (#[.string p, .int .i64 m, .string d, .slice A n c, .slice B k e] : Array Value).all (·.oneCell') = true := Array.all_eq_true_iff_forall_mem.2 (fun v hv => by simp at hv; rcases hv with rfl | rfl | rfl | rfl | rfl <;> rfl)
theorem cell5 {w : World} {b : Nat} {v0 v1 v2 v3 v4 : Value} {T : TypeId} {fr : Nat × Nat} (h : w.heap[b]? = some (.cells #[v0, v1, v2, v3, v4] T fr)) : ∀ i v, ([v0, v1, v2, v3, v4] : List Value)[i]? = some v -> w.cell? ⟨b, i, none⟩ = some v := fun i v hv => by
 rw [cZ h, <- hv, <- List.getElem?_toArray]
theorem zero_if (w : World) : ifE w [.string ⟨#[]⟩, .int .i64 0, .string ⟨#[]⟩, .slice none 0 0, .slice none 0 0] zIf :=
 ⟨none, 0, none, 0, rfl, by decide, by decide, by decide, by decide, fun i x h => by simp [zIf] at h, fun i x h => by simp [zIf] at h⟩
def FiOut (w0 w : World) (env : List If) (x : Im) (e : Ending) (w' : World) : Prop :=
 ∃ l : List Value, e = .returned (.tuple #[.agg l.toArray, .bool (findI env x.pkg x.major x.mod).isSome]) /\ (∀ wx, Below w0.heap.size w0 wx -> ifE wx l (gotI env x)) /\ Below w.heap.size w w'
def OfOut (w0 w : World) (L : List Nm) (s : ByteArray) (e : Ending) (w' : World) : Prop :=
 ∃ l : List Value, e = .returned (.tuple #[.agg l.toArray, .bool (ofI L s).isSome]) /\ (∀ wx, Below w0.heap.size w0 wx -> TyAt wx l (gotT L s)) /\ Below w.heap.size w w'
theorem idx_ltI {α : Type} {p : α -> Bool} {l : List α} {k : Nat} (h : l.findIdx? p = some k) : k < l.length := by
 rw [List.findIdx?_eq_some_iff_getElem] at h
 exact h.1
def zIm : Im := ⟨⟨#[]⟩, 0, ⟨#[]⟩, ⟨#[]⟩⟩
def zNm : Nm := ⟨⟨#[]⟩, zTy⟩
def gotM (l : List Im) (s : ByteArray) : Im := match l.findIdx? (isAs s) with | none => zIm | some k => (l[k]?).getD zIm
def gotN (l : List Nm) (s : ByteArray) : Nm := match ofI l s with | none => zNm | some k => (l[k]?).getD zNm
theorem gotM_no {l : List Im} {s : ByteArray} (h : l.findIdx? (isAs s) = none) : gotM l s = zIm := by unfold gotM; rw [h]
theorem gotM_at {l : List Im} {s : ByteArray} {k : Nat} {y : Im} (h : l.findIdx? (isAs s) = some k) (hy : l[k]? = some y) : gotM l s = y := by unfold gotM; rw [h]; simp only []; rw [hy]; rfl
theorem gotN_no {l : List Nm} {s : ByteArray} (h : ofI l s = none) : gotN l s = zNm := by unfold gotN; rw [h]
theorem gotN_at {l : List Nm} {s : ByteArray} {k : Nat} {y : Nm} (h : ofI l s = some k) (hy : l[k]? = some y) : gotN l s = y := by unfold gotN; rw [h]; simp only []; rw [hy]; rfl
theorem gotN_typ (l : List Nm) (s : ByteArray) : (gotN l s).typ = gotT l s := by
 unfold gotN gotT
 cases ofI l s with
 | none => rfl
 | some k =>
  show ((l[k]?).getD zNm).typ = ((l[k]?).map (·.typ)).getD zTy
  cases l[k]? <;> rfl
theorem zero_nm (w : World) : nmE w [.string ⟨#[]⟩, .int .i64 0, .string ⟨#[]⟩, .int .i64 0, .string ⟨#[]⟩, .string ⟨#[]⟩, .slice none 0 0, .slice none 0 0] zNm := ⟨by decide, _, rfl, zero_at w⟩
def NmOut (w0 w : World) (L : List Nm) (s : ByteArray) (e : Ending) (w' : World) : Prop :=
 ∃ l : List Value, e = .returned (.tuple #[.agg l.toArray, .bool (ofI L s).isSome]) /\ (∀ wx, Below w0.heap.size w0 wx -> nmE wx l (gotN L s)) /\ Below w.heap.size w w'
def LkIm (w : World) (L : List Im) (s : ByteArray) (e : Ending) (w' : World) : Prop :=
 e = .returned (.tuple #[.agg #[.string (gotM L s).pkg, .int .i64 (gotM L s).major, .string (gotM L s).mod, .string (gotM L s).asn], .bool (L.findIdx? (isAs s)).isSome]) /\ Below w.heap.size w w'
theorem nmSizeI : (Tryz.prog.info? 52).map (·.size) = some 8 := by kernel_rfl
theorem nmOneI {s : ByteArray} {k m : Int} {p d n : ByteArray} {A5 A6 : Option Addr} {n5 c5 n6 c6 : Nat} : (#[.string s, .int .i64 k, .string p, .int .i64 m, .string d, .string n, .slice A5 n5 c5, .slice A6 n6 c6] : Array Value).all (·.oneCell') = true := Array.all_eq_true_iff_forall_mem.2 (fun v hv => by simp at hv; rcases hv with rfl | rfl | rfl | rfl | rfl | rfl | rfl | rfl <;> rfl)
theorem cell8I {w : World} {b : Nat} {v0 v1 v2 v3 v4 v5 v6 v7 : Value} {T : TypeId} {fr : Nat × Nat} (h : w.heap[b]? = some (.cells #[v0, v1, v2, v3, v4, v5, v6, v7] T fr)) : ∀ i v, ([v0, v1, v2, v3, v4, v5, v6, v7] : List Value)[i]? = some v -> w.cell? ⟨b, i, none⟩ = some v := fun i v hv => by
 rw [cZ h, <- hv, <- List.getElem?_toArray]
theorem impSizeI : (Tryz.prog.info? 71).map (·.size) = some 4 := by kernel_rfl
theorem impOneI {a c d : ByteArray} {b : Int} : (#[.string a, .int .i64 b, .string c, .string d] : Array Value).all (·.oneCell') = true := Array.all_eq_true_iff_forall_mem.2 (fun v hv => by simp at hv; rcases hv with rfl | rfl | rfl | rfl <;> rfl)
theorem cell4I {w : World} {b : Nat} {v0 v1 v2 v3 : Value} {T : TypeId} {fr : Nat × Nat} (h : w.heap[b]? = some (.cells #[v0, v1, v2, v3] T fr)) : ∀ i v, ([v0, v1, v2, v3] : List Value)[i]? = some v -> w.cell? ⟨b, i, none⟩ = some v := fun i v hv => by
 rw [cZ h, <- hv, <- List.getElem?_toArray]
theorem firstI_any (A : Option Addr) (c : Nat) (env : List If) (x : Im) (xb : Nat) (w0 w : World) (h : RowIn ifR w0 A env) (hw : Below w0.heap.size w0 w) (hl : env.length <= 9223372036854775807) (hx : w.heap[xb]? = some (.cells #[.string x.pkg, .int .i64 x.major, .string x.mod, .string x.asn] 71 (0, 0))) :
  Calls Tryz.prog 93 #[.slice A env.length c, .func (.func 94) #[] #[.pointer (some ⟨xb, 0, none⟩)]] w (FiOut w0 w env x) := by
 have HE := hZ h
 have HW0 := hZ hw
 obtain ⟨W2, hW2⟩ : ∃ W2, W2 = w.alloc (.cells #[.string ⟨#[]⟩, .int .i64 0, .string ⟨#[]⟩, .slice none 0 0, .slice none 0 0] 44) := ⟨_, rfl⟩
 have B2 : Below w.heap.size w W2 := by rw [hW2]; exact below_new (Below.refl _ _) _
 have O1 : W2.heap[w.heap.size]? = some (.cells #[.string ⟨#[]⟩, .int .i64 0, .string ⟨#[]⟩, .slice none 0 0, .slice none 0 0] 44 (0, 0)) := by rw [hW2]; exact heap_alloc_new w _
 have hl2 : w.heap.size < W2.heap.size := by rw [hW2]; simp
 have IX := hZ (pIf_index A c env x xb W2 ((h.below hw).below B2) hl ((B2.block _ (Array.getElem?_eq_some_iff.1 hx).1).trans hx))
 have HB0 := hZ B2
 have HO1 := hZ O1
 have HW := hZ hW2
 obtain ⟨J, hJ⟩ : ∃ J, J = optN (findI env x.pkg x.major x.mod) := ⟨_, rfl⟩
 have HJ := hZ hJ
 have EJ : optN (env.findIdx? (isIf x.pkg x.major x.mod)) = J := hJ.symm
 rw [EJ] at IX
 obtain ⟨n, hn⟩ : ∃ n, n = env.length := ⟨_, rfl⟩
 have HN := hZ hn
 rw [<- hn] at hl IX ⊢
 clear h hw hx hW2 B2 O1 hJ EJ hn
 go_enter Tryz.func93, Tryz.ntmps93
 go_upto_region 1 with fail
 rw [<- HW.out]
 clear HW
 go_wp2_with fail
 refine IX.out.mono ?_; rintro e w2 ⟨rfl, hb2⟩
 have HB2 : Hid (Below w.heap.size w w2) := hZ (below_over HB0.out hb2)
 have hl3 := Nat.lt_of_lt_of_le hl2 hb2.size
 have X5 := (hb2.block _ hl2).trans HO1.out
 have HX5 := hZ X5
 clear hb2 IX
 cases hk : findI env x.pkg x.major x.mod with
 | none =>
  obtain rfl : J = -1 := by rw [HJ.out, hk]; rfl
  obtain ⟨w3, hw3⟩ : ∃ w3, w3 = w2.alloc (.cells #[.string ⟨#[]⟩, .int .i64 0, .string ⟨#[]⟩, .slice none 0 0, .slice none 0 0] 44) := ⟨_, rfl⟩;have B3 : Below w2.heap.size w2 w3 := by rw [hw3]; exact below_new (Below.refl _ _) _
  have Z3 : w3.heap[w2.heap.size]? = some (.cells #[.string ⟨#[]⟩, .int .i64 0, .string ⟨#[]⟩, .slice none 0 0, .slice none 0 0] 44 (0, 0)) := by rw [hw3]; exact heap_alloc_new w2 _
  have X5 := (B3.block _ hl3).trans X5;have HX5 := hZ X5;have FIN : Hid (FiOut w0 w env x (.returned (.tuple #[.agg #[.string ⟨#[]⟩, .int .i64 0, .string ⟨#[]⟩, .slice none 0 0, .slice none 0 0], .bool false])) (w3.setRow w.heap.size #[.string ⟨#[]⟩, .int .i64 0, .string ⟨#[]⟩, .slice none 0 0, .slice none 0 0])) := hZ (by rw [hw3]; exact ⟨[.string ⟨#[]⟩, .int .i64 0, .string ⟨#[]⟩, .slice none 0 0, .slice none 0 0], by rw [hk]; rfl, by rw [gotI_no hk]; exact fun wx _ => zero_if _, setRow_below (below_new HB2.out _) (Nat.le_refl _) _⟩);have HW3 := hZ hw3;obtain ⟨z0, z1, z2, z3, z4⟩ := cq5 Z3;simp at z0 z1 z2 z3 z4;clear hk hw3 B3 Z3;go_upto_region 4 with fail
  rw [<- HW3.out];clear HW3;go_wp2_with (first | ((with_reducible refine wpList_putRow 44 (w.heap.size) #[.string ⟨#[]⟩, .int .i64 0, .string ⟨#[]⟩, .slice none 0 0, .slice none 0 0] _ _ X5 ?_ ?_ ?_ ?_ ?_ ?_); exact ifSize; rfl; exact ifOne; iterate 2 (focus (first | (go_simp; done) | rfl))))
  exact ret_agg (fn := Tryz.f93) (vs := [.string ⟨#[]⟩, .int .i64 0, .string ⟨#[]⟩, .slice none 0 0, .slice none 0 0]) (b := w.heap.size) rfl rfl rfl Tryz.underlying44 (by kernel_rfl) (cell5 (setRow_heap w3 w.heap.size _ _ _ _ HX5.out)) rfl FIN.out
 | some k =>
  obtain rfl : J = (k : Int) := by rw [HJ.out, hk]; rfl
  have hkl := findI_lt hk;obtain ⟨y, hy⟩ : ∃ y, env[k]? = some y := ⟨_, List.getElem?_eq_getElem hkl⟩;obtain ⟨g, o, At, ct, Av, cv, rfl, hg, a0, a1, a2, a3, a4, z0, z1, z2, z3, hT, hVL⟩ := HE.out.ifc hy;have c0 := ((below_over HW0.out HB2.out).cell (p := ⟨g, _, none⟩) hg).trans a0;have c1 := ((below_over HW0.out HB2.out).cell (p := ⟨g, _, none⟩) hg).trans a1;have c2 := ((below_over HW0.out HB2.out).cell (p := ⟨g, _, none⟩) hg).trans a2;have c3 := ((below_over HW0.out HB2.out).cell (p := ⟨g, _, none⟩) hg).trans a3;have c4 := ((below_over HW0.out HB2.out).cell (p := ⟨g, _, none⟩) hg).trans a4;have FIN : Hid (FiOut w0 w env x (.returned (.tuple #[.agg #[.string y.pkg, .int .i64 y.major, .string y.mod, .slice At y.types.length ct, .slice Av y.vals.length cv], .bool true])) (w2.setRow w.heap.size #[.string y.pkg, .int .i64 y.major, .string y.mod, .slice At y.types.length ct, .slice Av y.vals.length cv])) := hZ ⟨[.string y.pkg, .int .i64 y.major, .string y.mod, .slice At y.types.length ct, .slice Av y.vals.length cv], by rw [hk]; rfl, by rw [gotI_at hk hy]; exact fun wx hb => ⟨At, ct, Av, cv, rfl, z0, z1, z2, z3, hT.below hb, hVL.below hb⟩, setRow_below HB2.out (Nat.le_refl _) _⟩;rw [<- HN.out] at hkl;have hk0 : (0 : Int) <= k := by omega
  have hk1 : (k : Int) < n := by omega
  have hk2 : ¬ (k : Int) < 0 := by omega
  clear hk hy hT hVL a0 a1 a2 a3 a4;go_upto_region 5 with fail
  go_wp2_with (first | ((with_reducible refine wpList_putRow 44 (w.heap.size) #[.string y.pkg, .int .i64 y.major, .string y.mod, .slice At y.types.length ct, .slice Av y.vals.length cv] _ _ X5 ?_ ?_ ?_ ?_ ?_ ?_); exact ifSize; rfl; exact ifOne; iterate 2 (focus (first | (go_simp; done) | rfl))))
  exact ret_agg (fn := Tryz.f93) (vs := [.string y.pkg, .int .i64 y.major, .string y.mod, .slice At y.types.length ct, .slice Av y.vals.length cv]) (b := w.heap.size) rfl rfl rfl Tryz.underlying44 (by kernel_rfl) (cell5 (setRow_heap w2 w.heap.size _ _ _ _ HX5.out)) rfl FIN.out
theorem firstN_any (A : Option Addr) (c : Nat) (L : List Nm) (s : ByteArray) (xb : Nat) (w0 w : World) (h : RowIn nmR w0 A L) (hw : Below w0.heap.size w0 w) (hl : L.length <= 9223372036854775807) (hx : w.heap[xb]? = some (.cells #[.string s] 9 (0, 0))) :
  Calls Tryz.prog 130 #[.slice A L.length c, .func (.func 131) #[] #[.pointer (some ⟨xb, 0, none⟩)]] w (NmOut w0 w L s) := by
 have HE := hZ h
 have HW0 := hZ hw
 obtain ⟨W2, hW2⟩ : ∃ W2, W2 = w.alloc (.cells #[.string ⟨#[]⟩, .int .i64 0, .string ⟨#[]⟩, .int .i64 0, .string ⟨#[]⟩, .string ⟨#[]⟩, .slice none 0 0, .slice none 0 0] 52) := ⟨_, rfl⟩
 have B2 : Below w.heap.size w W2 := by rw [hW2]; exact below_new (Below.refl _ _) _
 have O1 : W2.heap[w.heap.size]? = some (.cells #[.string ⟨#[]⟩, .int .i64 0, .string ⟨#[]⟩, .int .i64 0, .string ⟨#[]⟩, .string ⟨#[]⟩, .slice none 0 0, .slice none 0 0] 52 (0, 0)) := by rw [hW2]; exact heap_alloc_new w _
 have hl2 : w.heap.size < W2.heap.size := by rw [hW2]; simp
 have IX := hZ (pNm_index A c L s xb W2 ((h.below hw).below B2) hl ((B2.block _ (Array.getElem?_eq_some_iff.1 hx).1).trans hx))
 have HB0 := hZ B2
 have HO1 := hZ O1
 have HW := hZ hW2
 obtain ⟨J, hJ⟩ : ∃ J, J = optN (ofI L s) := ⟨_, rfl⟩
 have HJ := hZ hJ
 have EJ : optN (L.findIdx? (isNm s)) = J := hJ.symm
 rw [EJ] at IX
 obtain ⟨n, hn⟩ : ∃ n, n = L.length := ⟨_, rfl⟩
 have HN := hZ hn
 rw [<- hn] at hl IX ⊢
 clear h hw hx hW2 B2 O1 hJ EJ hn
 go_enter Tryz.func130, Tryz.ntmps130
 go_upto_region 1 with fail
 rw [<- HW.out]
 clear HW
 go_wp2_with fail
 refine IX.out.mono ?_; rintro e w2 ⟨rfl, hb2⟩
 have HB2 : Hid (Below w.heap.size w w2) := hZ (below_over HB0.out hb2)
 have hl3 := Nat.lt_of_lt_of_le hl2 hb2.size
 have X5 := (hb2.block _ hl2).trans HO1.out
 have HX5 := hZ X5
 clear hb2 IX
 cases hk : ofI L s with
 | none =>
  obtain rfl : J = -1 := by rw [HJ.out, hk]; rfl
  obtain ⟨w3, hw3⟩ : ∃ w3, w3 = w2.alloc (.cells #[.string ⟨#[]⟩, .int .i64 0, .string ⟨#[]⟩, .int .i64 0, .string ⟨#[]⟩, .string ⟨#[]⟩, .slice none 0 0, .slice none 0 0] 52) := ⟨_, rfl⟩;have B3 : Below w2.heap.size w2 w3 := by rw [hw3]; exact below_new (Below.refl _ _) _
  have Z3 : w3.heap[w2.heap.size]? = some (.cells #[.string ⟨#[]⟩, .int .i64 0, .string ⟨#[]⟩, .int .i64 0, .string ⟨#[]⟩, .string ⟨#[]⟩, .slice none 0 0, .slice none 0 0] 52 (0, 0)) := by rw [hw3]; exact heap_alloc_new w2 _
  have X5 := (B3.block _ hl3).trans X5;have HX5 := hZ X5;have FIN : Hid (NmOut w0 w L s (.returned (.tuple #[.agg #[.string ⟨#[]⟩, .int .i64 0, .string ⟨#[]⟩, .int .i64 0, .string ⟨#[]⟩, .string ⟨#[]⟩, .slice none 0 0, .slice none 0 0], .bool false])) (w3.setRow w.heap.size #[.string ⟨#[]⟩, .int .i64 0, .string ⟨#[]⟩, .int .i64 0, .string ⟨#[]⟩, .string ⟨#[]⟩, .slice none 0 0, .slice none 0 0])) := hZ (by rw [hw3]; exact ⟨[.string ⟨#[]⟩, .int .i64 0, .string ⟨#[]⟩, .int .i64 0, .string ⟨#[]⟩, .string ⟨#[]⟩, .slice none 0 0, .slice none 0 0], by rw [hk]; rfl, by rw [gotN_no hk]; exact fun wx _ => zero_nm _, setRow_below (below_new HB2.out _) (Nat.le_refl _) _⟩);have HW3 := hZ hw3;obtain ⟨z0, z1, z2, z3, z4, z5, z6, z7⟩ := cq8 Z3;simp at z0 z1 z2 z3 z4 z5 z6 z7;clear hk hw3 B3 Z3;go_upto_region 4 with fail
  rw [<- HW3.out];clear HW3;go_wp2_with (first | ((with_reducible refine wpList_putRow 52 (w.heap.size) #[.string ⟨#[]⟩, .int .i64 0, .string ⟨#[]⟩, .int .i64 0, .string ⟨#[]⟩, .string ⟨#[]⟩, .slice none 0 0, .slice none 0 0] _ _ X5 ?_ ?_ ?_ ?_ ?_ ?_); exact nmSizeI; rfl; exact nmOneI; iterate 2 (focus (first | (go_simp; done) | rfl))))
  exact ret_agg (fn := Tryz.f130) (vs := [.string ⟨#[]⟩, .int .i64 0, .string ⟨#[]⟩, .int .i64 0, .string ⟨#[]⟩, .string ⟨#[]⟩, .slice none 0 0, .slice none 0 0]) (b := w.heap.size) rfl rfl rfl Tryz.underlying52 (by kernel_rfl) (cell8I (setRow_heap w3 w.heap.size _ _ _ _ HX5.out)) rfl FIN.out
 | some k =>
  obtain rfl : J = (k : Int) := by rw [HJ.out, hk]; rfl
  have hkl := ofI_lt hk;obtain ⟨y, hy⟩ : ∃ y, L[k]? = some y := ⟨_, List.getElem?_eq_getElem hkl⟩;obtain ⟨g, o, Bn, cB, Bs, dB, rfl, hg, a0, a1, a2, a3, a4, a5, a6, a7, hT, hz⟩ := HE.out.nm hy;have c0 := ((below_over HW0.out HB2.out).cell (p := ⟨g, _, none⟩) hg).trans a0;have c1 := ((below_over HW0.out HB2.out).cell (p := ⟨g, _, none⟩) hg).trans a1;have c2 := ((below_over HW0.out HB2.out).cell (p := ⟨g, _, none⟩) hg).trans a2;have c3 := ((below_over HW0.out HB2.out).cell (p := ⟨g, _, none⟩) hg).trans a3;have c4 := ((below_over HW0.out HB2.out).cell (p := ⟨g, _, none⟩) hg).trans a4;have c5 := ((below_over HW0.out HB2.out).cell (p := ⟨g, _, none⟩) hg).trans a5;have c6 := ((below_over HW0.out HB2.out).cell (p := ⟨g, _, none⟩) hg).trans a6;have c7 := ((below_over HW0.out HB2.out).cell (p := ⟨g, _, none⟩) hg).trans a7;have FIN : Hid (NmOut w0 w L s (.returned (.tuple #[.agg #[.string y.name, .int .i64 y.typ.kind, .string y.typ.pkg, .int .i64 y.typ.major, .string y.typ.mod, .string y.typ.name, .slice Bn y.typ.names.length cB, .slice Bs y.typ.subs.length dB], .bool true])) (w2.setRow w.heap.size #[.string y.name, .int .i64 y.typ.kind, .string y.typ.pkg, .int .i64 y.typ.major, .string y.typ.mod, .string y.typ.name, .slice Bn y.typ.names.length cB, .slice Bs y.typ.subs.length dB])) := hZ ⟨[.string y.name, .int .i64 y.typ.kind, .string y.typ.pkg, .int .i64 y.typ.major, .string y.typ.mod, .string y.typ.name, .slice Bn y.typ.names.length cB, .slice Bs y.typ.subs.length dB], by rw [hk]; rfl, by rw [gotN_at hk hy]; exact fun wx hb => ⟨hz, _, rfl, hT.keep hb⟩, setRow_below HB2.out (Nat.le_refl _) _⟩;rw [<- HN.out] at hkl;have hk0 : (0 : Int) <= k := by omega
  have hk1 : (k : Int) < n := by omega
  have hk2 : ¬ (k : Int) < 0 := by omega
  clear hk hy hT hz a0 a1 a2 a3 a4 a5 a6 a7;go_upto_region 5 with fail
  go_wp2_with (first | ((with_reducible refine wpList_putRow 52 (w.heap.size) #[.string y.name, .int .i64 y.typ.kind, .string y.typ.pkg, .int .i64 y.typ.major, .string y.typ.mod, .string y.typ.name, .slice Bn y.typ.names.length cB, .slice Bs y.typ.subs.length dB] _ _ X5 ?_ ?_ ?_ ?_ ?_ ?_); exact nmSizeI; rfl; exact nmOneI; iterate 2 (focus (first | (go_simp; done) | rfl))))
  exact ret_agg (fn := Tryz.f130) (vs := [.string y.name, .int .i64 y.typ.kind, .string y.typ.pkg, .int .i64 y.typ.major, .string y.typ.mod, .string y.typ.name, .slice Bn y.typ.names.length cB, .slice Bs y.typ.subs.length dB]) (b := w.heap.size) rfl rfl rfl Tryz.underlying52 (by kernel_rfl) (cell8I (setRow_heap w2 w.heap.size _ _ _ _ HX5.out)) rfl FIN.out
theorem firstA_any (A : Option Addr) (c : Nat) (L : List Im) (s : ByteArray) (xb : Nat) (w0 w : World) (h : RowIn imR w0 A L) (hw : Below w0.heap.size w0 w) (hl : L.length <= 9223372036854775807) (hx : w.heap[xb]? = some (.cells #[.string s] 9 (0, 0))) :
  Calls Tryz.prog 88 #[.slice A L.length c, .func (.func 89) #[] #[.pointer (some ⟨xb, 0, none⟩)]] w (LkIm w L s) := by
 have HE := hZ h
 have HW0 := hZ hw
 obtain ⟨W2, hW2⟩ : ∃ W2, W2 = w.alloc (.cells #[.string ⟨#[]⟩, .int .i64 0, .string ⟨#[]⟩, .string ⟨#[]⟩] 71) := ⟨_, rfl⟩
 have B2 : Below w.heap.size w W2 := by rw [hW2]; exact below_new (Below.refl _ _) _
 have O1 : W2.heap[w.heap.size]? = some (.cells #[.string ⟨#[]⟩, .int .i64 0, .string ⟨#[]⟩, .string ⟨#[]⟩] 71 (0, 0)) := by rw [hW2]; exact heap_alloc_new w _
 have hl2 : w.heap.size < W2.heap.size := by rw [hW2]; simp
 have IX := hZ (pAs_index A c L s xb W2 ((h.below hw).below B2) hl ((B2.block _ (Array.getElem?_eq_some_iff.1 hx).1).trans hx))
 have HB0 := hZ B2
 have HO1 := hZ O1
 have HW := hZ hW2
 obtain ⟨J, hJ⟩ : ∃ J, J = optN (L.findIdx? (isAs s)) := ⟨_, rfl⟩
 have HJ := hZ hJ
 have EJ : optN (L.findIdx? (isAs s)) = J := hJ.symm
 rw [EJ] at IX
 obtain ⟨n, hn⟩ : ∃ n, n = L.length := ⟨_, rfl⟩
 have HN := hZ hn
 rw [<- hn] at hl IX ⊢
 clear h hw hx hW2 B2 O1 hJ EJ hn
 go_enter Tryz.func88, Tryz.ntmps88
 go_upto_region 1 with fail
 rw [<- HW.out]
 clear HW
 go_wp2_with fail
 refine IX.out.mono ?_; rintro e w2 ⟨rfl, hb2⟩
 have HB2 : Hid (Below w.heap.size w w2) := hZ (below_over HB0.out hb2)
 have hl3 := Nat.lt_of_lt_of_le hl2 hb2.size
 have X5 := (hb2.block _ hl2).trans HO1.out
 have HX5 := hZ X5
 clear hb2 IX
 cases hk : L.findIdx? (isAs s) with
 | none =>
  obtain rfl : J = -1 := by rw [HJ.out, hk]; rfl
  obtain ⟨w3, hw3⟩ : ∃ w3, w3 = w2.alloc (.cells #[.string ⟨#[]⟩, .int .i64 0, .string ⟨#[]⟩, .string ⟨#[]⟩] 71) := ⟨_, rfl⟩;have B3 : Below w2.heap.size w2 w3 := by rw [hw3]; exact below_new (Below.refl _ _) _
  have Z3 : w3.heap[w2.heap.size]? = some (.cells #[.string ⟨#[]⟩, .int .i64 0, .string ⟨#[]⟩, .string ⟨#[]⟩] 71 (0, 0)) := by rw [hw3]; exact heap_alloc_new w2 _
  have X5 := (B3.block _ hl3).trans X5;have HX5 := hZ X5;have FIN : Hid (LkIm w L s (.returned (.tuple #[.agg #[.string ⟨#[]⟩, .int .i64 0, .string ⟨#[]⟩, .string ⟨#[]⟩], .bool false])) (w3.setRow w.heap.size #[.string ⟨#[]⟩, .int .i64 0, .string ⟨#[]⟩, .string ⟨#[]⟩])) := hZ (by rw [hw3]; exact ⟨by rw [gotM_no hk, hk]; rfl, setRow_below (below_new HB2.out _) (Nat.le_refl _) _⟩);have HW3 := hZ hw3;obtain ⟨z0, z1, z2, z3⟩ := cq4 Z3;simp at z0 z1 z2 z3;clear hk hw3 B3 Z3;go_upto_region 4 with fail
  rw [<- HW3.out];clear HW3;go_wp2_with (first | ((with_reducible refine wpList_putRow 71 (w.heap.size) #[.string ⟨#[]⟩, .int .i64 0, .string ⟨#[]⟩, .string ⟨#[]⟩] _ _ X5 ?_ ?_ ?_ ?_ ?_ ?_); exact impSizeI; rfl; exact impOneI; iterate 2 (focus (first | (go_simp; done) | rfl))))
  exact ret_agg (fn := Tryz.f88) (vs := [.string ⟨#[]⟩, .int .i64 0, .string ⟨#[]⟩, .string ⟨#[]⟩]) (b := w.heap.size) rfl rfl rfl Tryz.underlying71 (by kernel_rfl) (cell4I (setRow_heap w3 w.heap.size _ _ _ _ HX5.out)) rfl FIN.out
 | some k =>
  obtain rfl : J = (k : Int) := by rw [HJ.out, hk]; rfl
  have hkl := idx_ltI hk;obtain ⟨y, hy⟩ : ∃ y, L[k]? = some y := ⟨_, List.getElem?_eq_getElem hkl⟩;obtain ⟨g, o, rfl, hg, a0, a1, a2, a3, -⟩ := HE.out.im hy;have c0 := ((below_over HW0.out HB2.out).cell (p := ⟨g, _, none⟩) hg).trans a0;have c1 := ((below_over HW0.out HB2.out).cell (p := ⟨g, _, none⟩) hg).trans a1;have c2 := ((below_over HW0.out HB2.out).cell (p := ⟨g, _, none⟩) hg).trans a2;have c3 := ((below_over HW0.out HB2.out).cell (p := ⟨g, _, none⟩) hg).trans a3;have FIN : Hid (LkIm w L s (.returned (.tuple #[.agg #[.string y.pkg, .int .i64 y.major, .string y.mod, .string y.asn], .bool true])) (w2.setRow w.heap.size #[.string y.pkg, .int .i64 y.major, .string y.mod, .string y.asn])) := hZ ⟨by rw [gotM_at hk hy, hk]; rfl, setRow_below HB2.out (Nat.le_refl _) _⟩;rw [<- HN.out] at hkl;have hk0 : (0 : Int) <= k := by omega
  have hk1 : (k : Int) < n := by omega
  have hk2 : ¬ (k : Int) < 0 := by omega
  clear hk hy  a0 a1 a2 a3;go_upto_region 5 with fail
  go_wp2_with (first | ((with_reducible refine wpList_putRow 71 (w.heap.size) #[.string y.pkg, .int .i64 y.major, .string y.mod, .string y.asn] _ _ X5 ?_ ?_ ?_ ?_ ?_ ?_); exact impSizeI; rfl; exact impOneI; iterate 2 (focus (first | (go_simp; done) | rfl))))
  exact ret_agg (fn := Tryz.f88) (vs := [.string y.pkg, .int .i64 y.major, .string y.mod, .string y.asn]) (b := w.heap.size) rfl rfl rfl Tryz.underlying71 (by kernel_rfl) (cell4I (setRow_heap w2 w.heap.size _ _ _ _ HX5.out)) rfl FIN.out
theorem lkIface_any (A : Option Addr) (c : Nat) (env : List If) (x : Im) (w0 w : World) (h : RowIn ifR w0 A env) (hw : Below w0.heap.size w0 w) (hl : env.length <= 9223372036854775807) :
  Calls Tryz.prog 63 #[.slice A env.length c, .agg #[.string x.pkg, .int .i64 x.major, .string x.mod, .string x.asn]] w (FiOut w0 w env x) := by
 have HE := hZ h
 obtain ⟨W2, hW2, B2, O0, O1, hl2⟩ := two_boxes w #[.string x.pkg, .int .i64 x.major, .string x.mod, .string x.asn] #[.string ⟨#[]⟩, .int .i64 0, .string ⟨#[]⟩, .slice none 0 0, .slice none 0 0] 71 44
 have HB0 := hZ B2
 have HO1 := hZ O1
 have HW := hZ hW2
 have IX := hZ (firstI_any A c env x w.heap.size w0 W2 h (below_over hw B2) hl O0)
 clear h hw hW2 B2 O0 O1
 go_enter Tryz.func63, Tryz.ntmps63
 go_upto_region 1 with fail
 rw [<- HW.out]
 clear HW
 go_wp2_with (first | fail)
 refine IX.out.mono ?_; rintro e w2 ⟨l, rfl, hL, hb2⟩
 have HL := hZ hL
 obtain ⟨y, hy⟩ : ∃ y, y = gotI env x := ⟨_, rfl⟩
 have hL0 := hL w0 (Below.refl _ _)
 rw [<- hy] at hL0
 obtain ⟨At, ct, Av, cv, rfl, -⟩ := hL0
 obtain ⟨q, hq⟩ : ∃ q, (findI env x.pkg x.major x.mod).isSome = q := ⟨_, rfl⟩
 have X5 := (hb2.block _ hl2).trans HO1.out
 have HX5 := hZ X5
 have FIN : Hid (FiOut w0 w env x (.returned (.tuple #[.agg #[.string y.pkg, .int .i64 y.major, .string y.mod, .slice At y.types.length ct, .slice Av y.vals.length cv], .bool q])) (w2.setRow (w.heap.size + 1) #[.string y.pkg, .int .i64 y.major, .string y.mod, .slice At y.types.length ct, .slice Av y.vals.length cv])) := hZ ⟨_, by rw [hq], HL.out, setRow_below (below_over HB0.out hb2) (by omega) _⟩
 rw [hq]
 clear hL hy hb2 IX hq
 go_wp2_with (first | ((with_reducible refine wpList_putRow 44 (w.heap.size + 1) #[.string y.pkg, .int .i64 y.major, .string y.mod, .slice At y.types.length ct, .slice Av y.vals.length cv] _ _ X5 ?_ ?_ ?_ ?_ ?_ ?_); exact ifSize; rfl; exact ifOne; iterate 2 (focus (first | (go_simp; done) | rfl))))
 exact ret_agg (fn := Tryz.f63) (vs := [.string y.pkg, .int .i64 y.major, .string y.mod, .slice At y.types.length ct, .slice Av y.vals.length cv]) (b := w.heap.size + 1) rfl rfl rfl Tryz.underlying44 (by kernel_rfl) (cell5 (setRow_heap w2 (w.heap.size + 1) _ _ _ _ HX5.out)) rfl FIN.out
theorem lkImport_any (A : Option Addr) (c : Nat) (L : List Im) (s : ByteArray) (w0 w : World) (h : RowIn imR w0 A L) (hw : Below w0.heap.size w0 w) (hl : L.length <= 9223372036854775807) :
  Calls Tryz.prog 60 #[.slice A L.length c, .string s] w (LkIm w L s) := by
 have HE := hZ h
 obtain ⟨W2, hW2, B2, O0, O1, hl2⟩ := two_boxes w #[.string s] #[.string ⟨#[]⟩, .int .i64 0, .string ⟨#[]⟩, .string ⟨#[]⟩] 9 71
 have HB0 := hZ B2
 have HO1 := hZ O1
 have HW := hZ hW2
 have IX := hZ (firstA_any A c L s w.heap.size w0 W2 h (below_over hw B2) hl O0)
 clear h hw hW2 B2 O0 O1
 go_enter Tryz.func60, Tryz.ntmps60
 go_upto_region 1 with fail
 rw [<- HW.out]
 clear HW
 go_wp2_with (first | fail)
 refine IX.out.mono ?_; rintro e w2 ⟨rfl, hb2⟩
 obtain ⟨y, hy⟩ : ∃ y, y = gotM L s := ⟨_, rfl⟩
 obtain ⟨q, hq⟩ : ∃ q, (L.findIdx? (isAs s)).isSome = q := ⟨_, rfl⟩
 have X5 := (hb2.block _ hl2).trans HO1.out
 have HX5 := hZ X5
 have FIN : Hid (LkIm w L s (.returned (.tuple #[.agg #[.string y.pkg, .int .i64 y.major, .string y.mod, .string y.asn], .bool q])) (w2.setRow (w.heap.size + 1) #[.string y.pkg, .int .i64 y.major, .string y.mod, .string y.asn])) := hZ ⟨by rw [hq, hy], setRow_below (below_over HB0.out hb2) (by omega) _⟩
 rw [hq, <- hy]
 clear hy hb2 IX hq
 go_wp2_with (first | ((with_reducible refine wpList_putRow 71 (w.heap.size + 1) #[.string y.pkg, .int .i64 y.major, .string y.mod, .string y.asn] _ _ X5 ?_ ?_ ?_ ?_ ?_ ?_); exact impSizeI; rfl; exact impOneI; iterate 2 (focus (first | (go_simp; done) | rfl))))
 exact ret_agg (fn := Tryz.f60) (vs := [.string y.pkg, .int .i64 y.major, .string y.mod, .string y.asn]) (b := w.heap.size + 1) rfl rfl rfl Tryz.underlying71 (by kernel_rfl) (cell4I (setRow_heap w2 (w.heap.size + 1) _ _ _ _ HX5.out)) rfl FIN.out
theorem lkType_any (A : Option Addr) (c : Nat) (L : List Nm) (s : ByteArray) (w0 w : World) (h : RowIn nmR w0 A L) (hw : Below w0.heap.size w0 w) (hl : L.length <= 9223372036854775807) :
  Calls Tryz.prog 95 #[.slice A L.length c, .string s] w (OfOut w0 w L s) := by
 have HE := hZ h
 obtain ⟨W2, hW2, B2, O0, O1, hl2⟩ := two_boxes w #[.string s] #[.int .i64 0, .string ⟨#[]⟩, .int .i64 0, .string ⟨#[]⟩, .string ⟨#[]⟩, .slice none 0 0, .slice none 0 0] 9 50
 have HB0 := hZ B2
 have HO1 := hZ O1
 have HW := hZ hW2
 have IX := hZ (firstN_any A c L s w.heap.size w0 W2 h (below_over hw B2) hl O0)
 clear h hw hW2 B2 O0 O1
 go_enter Tryz.func95, Tryz.ntmps95
 go_upto_region 1 with fail
 rw [<- HW.out]
 clear HW
 go_wp2_with (first | fail)
 refine IX.out.mono ?_; rintro e w2 ⟨l, rfl, hL, hb2⟩
 obtain ⟨y, hy⟩ : ∃ y, y = gotN L s := ⟨_, rfl⟩
 rw [<- hy] at hL
 have hL0 := hL w0 (Below.refl _ _)
 obtain ⟨-, l7, rfl, hT0⟩ := hL0
 obtain ⟨Bn, cB, Bs, dB, rfl, -⟩ := hT0.parts
 have HT : Hid (∀ wx, Below w0.heap.size w0 wx -> TyAt wx [.int .i64 y.typ.kind, .string y.typ.pkg, .int .i64 y.typ.major, .string y.typ.mod, .string y.typ.name, .slice Bn y.typ.names.length cB, .slice Bs y.typ.subs.length dB] (gotT L s)) := hZ (fun wx hb => by
  obtain ⟨-, l7, e, hT⟩ := hL wx hb;simp only [List.cons.injEq, true_and] at e;rw [<- gotN_typ, <- hy, e];exact hT)
 obtain ⟨q, hq⟩ : ∃ q, (ofI L s).isSome = q := ⟨_, rfl⟩
 obtain ⟨w3, hw3⟩ : ∃ w3, w3 = w2.alloc (.cells #[.string y.name, .int .i64 y.typ.kind, .string y.typ.pkg, .int .i64 y.typ.major, .string y.typ.mod, .string y.typ.name, .slice Bn y.typ.names.length cB, .slice Bs y.typ.subs.length dB] 52) := ⟨_, rfl⟩
 have B3 : Below w2.heap.size w2 w3 := by rw [hw3]; exact below_new (Below.refl _ _) _
 have Z3 : w3.heap[w2.heap.size]? = some (.cells #[.string y.name, .int .i64 y.typ.kind, .string y.typ.pkg, .int .i64 y.typ.major, .string y.typ.mod, .string y.typ.name, .slice Bn y.typ.names.length cB, .slice Bs y.typ.subs.length dB] 52 (0, 0)) := by rw [hw3]; exact heap_alloc_new w2 _
 have hl3 := Nat.lt_of_lt_of_le hl2 hb2.size
 have X5 := (B3.block _ hl3).trans ((hb2.block _ hl2).trans HO1.out)
 have HX5 := hZ X5
 have FIN : Hid (OfOut w0 w L s (.returned (.tuple #[.agg #[.int .i64 y.typ.kind, .string y.typ.pkg, .int .i64 y.typ.major, .string y.typ.mod, .string y.typ.name, .slice Bn y.typ.names.length cB, .slice Bs y.typ.subs.length dB], .bool q])) (w3.setRow (w.heap.size + 1) #[.int .i64 y.typ.kind, .string y.typ.pkg, .int .i64 y.typ.major, .string y.typ.mod, .string y.typ.name, .slice Bn y.typ.names.length cB, .slice Bs y.typ.subs.length dB])) := hZ ⟨_, by rw [hq], HT.out, setRow_below (below_over HB0.out (below_over hb2 B3)) (by omega) _⟩
 obtain ⟨z0, z1, z2, z3, z4, z5, z6, z7⟩ := cq8 Z3
 simp at z0 z1 z2 z3 z4 z5 z6 z7
 have HW3 := hZ hw3
 rw [hq]
 clear hL hy hb2 IX hq hw3 B3 Z3 hT0 HT
 go_upto_region 2 with fail
 rw [<- HW3.out]
 clear HW3
 go_wp2_with (first | ((with_reducible refine wpList_putRow 50 (w.heap.size + 1) #[.int .i64 y.typ.kind, .string y.typ.pkg, .int .i64 y.typ.major, .string y.typ.mod, .string y.typ.name, .slice Bn y.typ.names.length cB, .slice Bs y.typ.subs.length dB] _ _ X5 ?_ ?_ ?_ ?_ ?_ ?_); exact tySize; rfl; exact tyOne; iterate 2 (focus (first | (go_simp; done) | rfl))))
 exact ret_agg (fn := Tryz.f95) (vs := [.int .i64 y.typ.kind, .string y.typ.pkg, .int .i64 y.typ.major, .string y.typ.mod, .string y.typ.name, .slice Bn y.typ.names.length cB, .slice Bs y.typ.subs.length dB]) (b := w.heap.size + 1) rfl rfl rfl Tryz.underlying50 (by kernel_rfl) (cell7 (setRow_heap w3 (w.heap.size + 1) _ _ _ _ HX5.out)) rfl FIN.out
end Go.Proofs.YtddlmigofilejaaGreat
