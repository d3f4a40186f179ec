/-
  Several texts in one: The code's May of imports. · The code's May of all imports. · A number's decimal digits, and the walk of the reference's Digits. · The library's Itoa at this translation, and the table that it reads. · Plain mathematics for layer 4: the texts of types. · The texts of imports: the code's. · Walks of package kind: are a type's own fields those of its kind?
-/
import Derived.Test.YtpfoclpgcbjjoaaGreatDoorJ20
import Derived.Test.YtpfoclpgcbjjoaaGreatDoorJ01
import Derived.LoopTactic
import Derived.Test.YtpfoclpgcbjjoaaGreatDoorChecked
import Derived.Test.YtpfoclpgcbjjoaaGreatDoorJ00
import Derived.WalkKit
import Derived.Lib.AppendIntMem
import Derived.Lib.ItoaLen
import Derived.Lib.IndexBytes
import Derived.Deep.RegionHeld3
import Derived.Deep.RegionWith
import Derived.IntWalk
import Derived.Laws.BitsLemmas
import Derived.Test.YtpfoclpgcbjjoaaGreatDoorShelf
import Derived.Test.YtpfoclpgcbjjoaaGreatDoorJ19
import Derived.Deep.QuietTactic
import Derived.BigQuiet
import Derived.Deep.DeepCutAuto
import Derived.Deep.CutBlock
/- The code's May of imports. -/
namespace Go.Proofs.YtpfoclpgcbjjoaaGreatDoor
open Go.RowKit
open Go.Sort
open M

theorem csmall_b (s : ByteArray) (w : World) (hs : s.size ≤ 9223372036854775807) : Calls Tryz.prog 34 #[.string s] w fun e w' => e = .returned (.bool (smallB s.data.toList)) ∧ Below w.heap.size w w' :=
  (small_any s w hs).mono fun e w' ⟨h, hw⟩ => ⟨h, by rw [← hw]; exact Below.refl _ _⟩
theorem cgreat_b (s : ByteArray) (w : World) (hs : s.size ≤ 9223372036854775807) : Calls Tryz.prog 82 #[.string s] w fun e w' => e = .returned (.bool (greatB s.data.toList)) ∧ Below w.heap.size w w' :=
  (great_any s w hs).mono fun e w' ⟨h, hw⟩ => ⟨h, by rw [← hw]; exact Below.refl _ _⟩

set_option maxRecDepth 100000 in
set_option maxHeartbeats 4000000 in
theorem cmayNotI_any (x : Im) (w : World) (z0 : x.pkg.size ≤ 9223372036854775807) (z1 : x.mod.size ≤ 9223372036854775807) (z2 : x.asn.size ≤ 9223372036854775807) :
    Calls Tryz.prog 80 #[.agg #[.string x.pkg, .int .i64 x.major, .string x.mod, .string x.asn]] w fun e w' => e = .returned (.bool (!mayI x)) ∧ Below w.heap.size w w' := by
  obtain ⟨w0, hw0⟩ : ∃ w0, w0 = w.alloc (.cells #[.string x.pkg, .int .i64 x.major, .string x.mod, .string x.asn] 67) := ⟨_, rfl⟩
  have B0 : Below w.heap.size w w0 := by rw [hw0]; exact below_new (Below.refl _ _) _
  have O0 : w0.heap[w.heap.size]? = some (.cells #[.string x.pkg, .int .i64 x.major, .string x.mod, .string x.asn] 67 (0, 0)) := by rw [hw0]; exact heap_alloc_new w _
  have hl0 : w.heap.size < w0.heap.size := by rw [hw0]; simp
  obtain ⟨V, hV⟩ : ∃ V, (!mayI x) = V := ⟨_, rfl⟩
  rw [hV]
  have HV : Hid ((!(smallB x.pkg.data.toList && (smallB x.mod.data.toList && (smallB x.asn.data.toList && (decide (1 ≤ x.major) && decide (x.major ≤ 999999999)))))) = V) := Lib.hid hV
  have S0 := Lib.hid (fun w => csmall_b x.pkg w z0)
  have S1 := Lib.hid (fun w => csmall_b x.mod w z1)
  have S2 := Lib.hid (fun w => csmall_b x.asn w z2)
  generalize smallB x.pkg.data.toList = b0 at S0 HV
  generalize smallB x.mod.data.toList = b1 at S1 HV
  generalize smallB x.asn.data.toList = b2 at S2 HV
  have x0 := Lib.cell_of_heap O0 0
  simp at x0
  have HO := Lib.hid O0
  have HB := Lib.hid B0
  have HW0 := Lib.hid hw0
  clear hw0 B0 O0 hV z0 z1 z2
  go_enter Tryz.func80, Tryz.ntmps80
  go_upto_region 1 with fail
  rw [← HW0.out]
  clear HW0
  go_wp2_with fail
  refine (S0.out _).mono ?_; rintro e w1 ⟨rfl, hb1⟩
  have O1 := (hb1.block _ hl0).trans HO.out
  have x1 := Lib.cell_of_heap O1 1
  have x2 := Lib.cell_of_heap O1 2
  simp at x1 x2
  have HB1 := Lib.hid (below_over HB.out hb1)
  have hl1 := Nat.lt_of_lt_of_le hl0 hb1.size
  clear x0 hb1 HO HB S0
  cases b0 with
  | false =>
    go_wp2_with fail
    go_ret
    exact ⟨by rw [← HV.out]; rfl, HB1.out⟩
  | true =>
  by_cases hm : x.major < 1
  · have e1 : decide (1 ≤ x.major) = false := by simp; omega
    go_wp2_with fail
    go_ret
    exact ⟨by rw [← HV.out, e1]; simp, HB1.out⟩
  by_cases hm2 : 999999999 < x.major
  · have e1 : decide (x.major ≤ 999999999) = false := by simp; omega
    go_wp2_with fail
    go_ret
    exact ⟨by rw [← HV.out, e1]; simp, HB1.out⟩
  have HV1 : Hid ((!(b1 && b2)) = V) := Lib.hid (by
    rw [← HV.out, decide_eq_true (show 1 ≤ x.major by omega), decide_eq_true (show x.major ≤ 999999999 by omega)]; simp)
  clear HV
  go_wp2_with fail
  refine (S1.out _).mono ?_; rintro e w2 ⟨rfl, hb2⟩
  have O2 := (hb2.block _ hl1).trans O1
  have x3 := Lib.cell_of_heap O2 3
  simp at x3
  have HB2 := Lib.hid (below_over HB1.out hb2)
  clear x1 x2 hb2 O1 O2 S1 HB1
  cases b1 with
  | false =>
    go_wp2_with fail
    go_ret
    exact ⟨by rw [← HV1.out]; rfl, HB2.out⟩
  | true =>
    go_wp2_with fail
    refine (S2.out _).mono ?_; rintro e w3 ⟨rfl, hb3⟩
    have HB3 := Lib.hid (below_over HB2.out hb3)
    clear hb3 x3 S2 HB2
    go_wp2_with fail
    go_ret
    exact ⟨by rw [← HV1.out]; cases b2 <;> simp <;> omega, HB3.out⟩

end Go.Proofs.YtpfoclpgcbjjoaaGreatDoor

/- The code's May of all imports. -/
namespace Go.Proofs.YtpfoclpgcbjjoaaGreatDoor
open Go.RowKit
open Go.Sort
open M

set_option maxRecDepth 100000 in
set_option maxHeartbeats 4000000 in
theorem indexI_any (A : Option Addr) (c n : Nat) (xs : List Im) (w : World) (hn : xs.length = n) (hz : n ≤ 9223372036854775807) (hS : RowIn imR w A xs) :
    Calls Tryz.prog 116 #[.slice A n c, .func (.func 80) #[] #[]] w fun e w' => ∃ r : Int, e = .returned (.int .i64 r) ∧ decide (0 ≤ r) = !xs.all mayI ∧ Below w.heap.size w w' := by
  have HS := Lib.hid hS
  have HN := Lib.hid hn
  clear hS hn
  go_enter Tryz.func116, Tryz.ntmps116
  go_wp2_with fail
  go_loopw [8] (fun i wr => ∃ k : Nat, k ≤ n ∧ i = .int .i64 k ∧ Hid ((xs.take k).all mayI = true) ∧ Below w.heap.size w wr) (fun i _ => n - (intOf i).toNat)
  case atStart => exact ⟨0, by omega, rfl, Lib.hid (by simp), Below.refl _ _⟩
  case round =>
    obtain ⟨k, hk, rfl, HP, hb⟩ := hrel
    obtain ⟨wo, rfl⟩ : ∃ wo : World, wo = wr := ⟨_, rfl⟩
    by_cases hlt : k < n
    · obtain ⟨x, hx⟩ : ∃ x, xs[k]? = some x := ⟨_, List.getElem?_eq_getElem (by rw [HN.out]; exact hlt)⟩
      obtain ⟨g, o, rfl, -, a0, a1, a2, a3, y1, y2, y3⟩ := (HS.out.below hb).im hx
      have IM := Lib.hid (cmayNotI_any x wo y1 y2 y3)
      have HX := Lib.hid hx
      clear hx y1 y2 y3
      obtain ⟨q, hq⟩ : ∃ q, mayI x = q := ⟨_, rfl⟩
      rw [hq] at IM
      have HQ := Lib.hid hq
      clear hq
      cases q with
      | false =>
        have R : Hid (decide (0 ≤ (k : Int)) = !xs.all mayI) := Lib.hid (by
          have : xs.all mayI = false := by rw [List.all_eq_false]; exact ⟨x, List.mem_of_getElem? HX.out, by rw [HQ.out]; decide⟩
          rw [this]; simp)
        go_wp2_with fail
        refine IM.out.mono ?_; rintro e w2 ⟨rfl, hb2⟩
        have hb3 := below_over hb hb2
        clear a0 a1 a2 a3 hb hb2
        go_wp2_with fail
        go_ret
        exact ⟨_, rfl, R.out, hb3⟩
      | true =>
        go_wp2_with fail
        refine IM.out.mono ?_; rintro e w2 ⟨rfl, hb2⟩
        have hb3 := below_over hb hb2
        clear a0 a1 a2 a3 hb hb2
        go_wp2_with fail
        go_roundw
        case rel => exact ⟨k + 1, by omega, by go_num, Lib.hid (by rw [all_snoc _ _ _ _ HX.out, HP.out, HQ.out]; rfl), hb3⟩
        case measure => simp [intOf]; omega
    · have R : Hid (decide (0 ≤ (-1 : Int)) = !xs.all mayI) := Lib.hid (by
        have h := HP.out
        rw [List.take_of_length_le (by rw [HN.out]; omega)] at h
        rw [h]; rfl)
      go_wp2_with fail
      go_ret
      exact ⟨_, rfl, R.out, hb⟩

set_option maxRecDepth 100000 in
set_option maxHeartbeats 1000000 in
theorem containsI_any (A : Option Addr) (c n : Nat) (xs : List Im) (w : World) (hn : xs.length = n) (hz : n ≤ 9223372036854775807) (hS : RowIn imR w A xs) :
    Calls Tryz.prog 79 #[.slice A n c, .func (.func 80) #[] #[]] w fun e w' => e = .returned (.bool (!xs.all mayI)) ∧ Below w.heap.size w w' := by
  have HC := Lib.hid (indexI_any A c n xs w hn hz hS)
  clear hn hS
  go_enter Tryz.func79, Tryz.ntmps79
  go_wp2_with fail
  refine HC.out.mono ?_; rintro e w2 ⟨r, rfl, hr, hb2⟩
  have HR := Lib.hid hr
  clear hr HC
  go_wp2_with fail
  go_ret
  exact ⟨ret_bool HR.out.symm, hb2⟩

set_option maxRecDepth 100000 in
set_option maxHeartbeats 1000000 in
theorem cmayI_any (A : Option Addr) (c n : Nat) (xs : List Im) (w : World) (hn : xs.length = n) (hz : n ≤ 9223372036854775807) (hS : RowIn imR w A xs) :
    Calls Tryz.prog 35 #[.slice A n c] w fun e w' => e = .returned (.bool (decide (n ≤ 20) && xs.all mayI)) ∧ Below w.heap.size w w' := by
  have HC := Lib.hid (containsI_any A c n xs w hn hz hS)
  clear hn hS
  generalize xs.all mayI = q at HC
  by_cases h : n ≤ 20
  · have e1 : (n : Int) ≤ 20 := by omega
    have e2 : decide (n ≤ 20) = true := by simp [h]
    rw [e2]
    clear e2 h
    go_enter Tryz.func35, Tryz.ntmps35
    go_wp2_with fail
    refine HC.out.mono ?_; rintro e w2 ⟨rfl, hb2⟩
    cases q
    all_goals (go_wp2_with fail; go_ret; exact ⟨rfl, hb2⟩)
  · have e1 : ¬ (n : Int) ≤ 20 := by omega
    have e2 : decide (n ≤ 20) = false := by simp; omega
    rw [e2]
    clear e2 h HC
    go_enter Tryz.func35, Tryz.ntmps35
    go_wp2_with fail
    go_ret
    exact ⟨rfl, Below.refl _ _⟩

end Go.Proofs.YtpfoclpgcbjjoaaGreatDoor

/- A number's decimal digits, and the walk of the reference's Digits. -/
namespace Go.Proofs.YtpfoclpgcbjjoaaGreatDoor
open Go.RowKit

/-- A number's decimal digits. -/
def dec (n : Int) : ByteArray := ⟨(Lib.decDigits n.toNat).toArray⟩
theorem dec_size (n : Int) (h0 : 0 ≤ n) (h1 : n ≤ 9223372036854775807) : (dec n).size ≤ 20 := by
  unfold dec
  rw [Lib.size_eq, List.toList_toArray, Lib.decDigits_length]
  exact Lib.nDigits_le20 _ (by omega)

/-- An int as a byte. -/
def byteOf (x : Int) : UInt8 := UInt8.ofNat x.toNat
theorem dec_small (n : Int) (h0 : 0 ≤ n) (h1 : n < 10) : dec n = ⟨#[byteOf (48 + n)]⟩ := by
  unfold dec byteOf
  rw [show (48 + n).toNat = 48 + n.toNat by omega]
  rw [Lib.decDigits, dif_pos (by omega)]
theorem dec_big (n : Int) (h1 : 10 ≤ n) : dec n = dec (n / 10) ++ ⟨#[byteOf (48 + n % 10)]⟩ := by
  unfold dec byteOf
  rw [show (48 + n % 10).toNat = 48 + (n % 10).toNat by omega]
  rw [Lib.decDigits, dif_neg (by omega), show n.toNat / 10 = (n / 10).toNat by omega, show n.toNat % 10 = (n % 10).toNat by omega]
  exact (ByteArray.mk_append_mk _ _).symm

/-- A slice of one byte as a string, in whatever world holds its cell. -/
theorem conv_one (x : Int) (W : World) (b : Nat) (h : W.cell? ⟨b, 0, none⟩ = some (.int .u8 x)) :
    (convert 56 9 (.slice (some ⟨b, 0, none⟩) 1 1)).run Tryz.prog W = .ok (.string ⟨#[byteOf x]⟩) W :=
  run_convert_bytes_arg W 56 5 Tryz.underlying56 Tryz.underlying5 b 0 1 1 [x] rfl (fun i hi => by
    obtain rfl : i = 0 := by omega
    exact h) 9 Tryz.underlying9

set_option maxHeartbeats 1000000 in
theorem digits_small (n : Int) (w : World) (h0 : 0 ≤ n) (h1 : n < 10) :
    Calls Tryz.prog 38 #[.int .i64 n] w fun e w' => e = .returned (.string (dec n)) ∧ Below w.heap.size w w' := by
  rw [dec_small n h0 h1]
  have k := conv_one (48 + n)
  go_enter Tryz.func38, Tryz.ntmps38
  go_wp2
  go_ret
  refine ⟨rfl, ?_⟩
  repeat (first | exact Below.refl _ _ | refine Below.drew ?_ | refine below_drewN ?_ _ | refine below_new ?_ _ | refine below_put ?_ (by simp; omega) _ | refine below_over ?_ (by assumption))

set_option maxHeartbeats 1000000 in
theorem digits_step (n : Int) (w : World) (h0 : 10 ≤ n) (h1 : n ≤ 9223372036854775807)
    (ih : ∀ w : World, Calls Tryz.prog 38 #[.int .i64 (n / 10)] w fun e w' => e = .returned (.string (dec (n / 10))) ∧ Below w.heap.size w w') :
    Calls Tryz.prog 38 #[.int .i64 n] w fun e w' => e = .returned (.string (dec n)) ∧ Below w.heap.size w w' := by
  have D := Lib.hid (dec_big n h0)
  have IH := Lib.hid ih; clear ih
  have z := dec_size (n / 10) (by omega) (by omega)
  have n1 : ¬ ((dec (n / 10)).size + 1 > 9223372036854775807) := by omega
  have hq : IntKind.i64.wrap (n.tdiv 10) = n / 10 := by rw [Int.tdiv_eq_ediv_of_nonneg (by omega)]; exact IntWalk.i64_in _ (by omega)
  have hr : n.tmod 10 = n % 10 := Int.tmod_eq_emod_of_nonneg (by omega)
  have hs : IntKind.i64.wrap (48 + n % 10) = 48 + n % 10 := IntWalk.i64_in _ (by omega)
  have hs8 : IntKind.u8.wrap (48 + n % 10) = 48 + n % 10 := IntWalk.u8_in _ (by omega)
  have m0 : 0 ≤ n % 10 := by omega
  have m1 : n % 10 < 10 := by omega
  have k := conv_one (48 + n % 10)
  go_enter Tryz.func38, Tryz.ntmps38
  go_wp2_with fail
  go_region_with (go_at_call 38; refine (IH.out _).mono ?_; rintro e w1 ⟨rfl, hbw⟩; obtain ⟨hcw, hfw⟩ := bcell hbw)
  all_goals
    go_wp2
    go_ret
    rw [D.out]
    refine ⟨rfl, ?_⟩
    repeat (first | exact Below.refl _ _ | refine Below.drew ?_ | refine below_drewN ?_ _ | refine below_new ?_ _ | refine below_put ?_ (by simp; omega) _ | refine below_over ?_ (by assumption))

theorem digits_nat : ∀ (m : Nat) (n : Int) (w : World), n.toNat < m → 0 ≤ n → n ≤ 9223372036854775807 →
    Calls Tryz.prog 38 #[.int .i64 n] w fun e w' => e = .returned (.string (dec n)) ∧ Below w.heap.size w w'
  | 0, n, w, h, _, _ => by omega
  | m + 1, n, w, h, h0, h1 => by
    by_cases hs : n < 10
    · exact digits_small n w h0 hs
    · exact digits_step n w (by omega) h1 (fun w => digits_nat m (n / 10) w (by omega) (by omega) (by omega))
theorem digits_any (n : Int) (w : World) (h0 : 0 ≤ n) (h1 : n ≤ 9223372036854775807) :
    Calls Tryz.prog 38 #[.int .i64 n] w fun e w' => e = .returned (.string (dec n)) ∧ Below w.heap.size w w' :=
  digits_nat (n.toNat + 1) n w (by omega) h0 h1

end Go.Proofs.YtpfoclpgcbjjoaaGreatDoor

/- The library's Itoa at this translation, and the table that it reads. -/
namespace Go.Proofs.YtpfoclpgcbjjoaaGreatDoor
open Go.RowKit

/-- The library's table of powers of ten lies as the program's text lays it. -/
def Pow (w : World) : Prop := Lib.TabIs Tryz.prog w "internal/strconv.uint64pow10" .u64 Lib.pow10Tab
theorem Pow.on {w w' : World} (h : Pow w) (hb : Below w.heap.size w w') : Pow w' := Lib.tabBelow_of_tabIs h w' hb

theorem itoa_any (n : Int) (w : World) (h0 : 0 ≤ n) (h1 : n ≤ 9223372036854775807) (hp : Pow w) :
    Calls Tryz.prog 70 #[.int .i64 n] w fun e w' => e = .returned (.string (dec n)) ∧ Below w.heap.size w w' :=
  (Tryz.strconv_Itoa n (by omega) h1 w hp).mono fun e w' ⟨he, k, os, hw⟩ => by
    subst hw
    refine ⟨?_, ⟨rfl, rfl, rfl, Lib.size_grow _ _ _, ?_⟩⟩
    · rw [he]; unfold Lib.itoa dec; rw [if_neg (by omega)]
    · intro j hj
      exact Lib.heap_grow_old w k os j hj

end Go.Proofs.YtpfoclpgcbjjoaaGreatDoor

/- Plain mathematics for layer 4: the texts of types. -/
namespace Go.Proofs.YtpfoclpgcbjjoaaGreatDoor.M

/-- The first k texts, commas between, each name ahead of its text, if there are names. -/
def rowOf (L : List (List UInt8)) (ns : List ByteArray) : Nat → List UInt8
  | 0 => []
  | k + 1 => (if 0 < k then rowOf L ns k ++ [44, 32] else rowOf L ns k) ++ (if 0 < ns.length then (nameAt ns k).data.toList ++ [58, 32] else []) ++ L.getD k []
def kindText (k : Int) (p : ByteArray) (m : Int) (d n : ByteArray) (ns : List ByteArray) (L : List (List UInt8)) : List UInt8 :=
  if k = 1 then [73, 110, 116]
  else if k = 2 then [84, 101, 120, 116]
  else if k = 3 then [66, 111, 111, 108]
  else if k = 4 then [76, 105, 115, 116, 40] ++ L.getD 0 [] ++ [41]
  else if k = 5 then [123] ++ rowOf L ns L.length ++ [125]
  else if k = 6 then [91] ++ rowOf L ns L.length ++ [93]
  else if k = 7 then [40] ++ rowOf L [] (L.length - 1) ++ [41, 32, 45, 62, 32] ++ L.getD (L.length - 1) []
  else if k = 9 then [60] ++ p.data.toList ++ [32] ++ (dec m).data.toList ++ [32] ++ d.data.toList ++ [32] ++ n.data.toList ++ [62]
  else if d.size = 0 then n.data.toList
  else d.data.toList ++ [46] ++ n.data.toList
-- a type's text, and those of a list of types
mutual
def textT : Ty → List UInt8
  | .mk k p m d n ns ss => kindText k p m d n ns (textsT ss)
def textsT : List Ty → List (List UInt8)
  | [] => []
  | t :: r => textT t :: textsT r
end
theorem textT_eq (t : Ty) : textT t = kindText t.kind t.pkg t.major t.mod t.name t.names (textsT t.subs) := by cases t; rfl
theorem textsT_len : ∀ l : List Ty, (textsT l).length = l.length
  | [] => rfl
  | t :: r => by simp [textsT, textsT_len r]
theorem textsT_at : ∀ (l : List Ty) (i : Nat) (t : Ty), l[i]? = some t → (textsT l).getD i [] = textT t
  | [], i, t, h => by simp at h
  | a :: r, 0, t, h => by simp at h; subst h; rfl
  | a :: r, i + 1, t, h => by
    have := textsT_at r i t (by simpa using h)
    simpa [textsT] using this

theorem spell_len {f g : Int → Bool} {s : ByteArray} (h : spell f g s.data.toList = true) : s.size ≤ 20 := by
  have := ((spell_iff _ _ _).1 h).2.1
  rwa [len_size] at this
theorem small_len {s : ByteArray} (h : smallB s.data.toList = true) : s.size ≤ 20 := by
  unfold smallB at h
  simp only [Bool.and_eq_true] at h
  exact spell_len h.1
theorem great_len {s : ByteArray} (h : greatB s.data.toList = true) : s.size ≤ 20 := by
  unfold greatB at h
  simp only [Bool.and_eq_true] at h
  exact spell_len h.1
/-- In a type whose own fields may be each name has at most twenty bytes. -/
theorem own_names {t : Ty} (h : ownOk t = true) (i : Nat) (hi : i < t.names.length) : (nameAt t.names i).size ≤ 20 := by
  unfold ownOk at h
  simp only [Bool.and_eq_true] at h
  obtain ⟨⟨-, hn⟩, hs⟩ := h
  have hb := (namesOk_iff _ _).1 hn i hi
  unfold badName at hb
  simp only [Bool.or_eq_false_iff, Bool.and_eq_false_iff, Bool.not_eq_false'] at hb
  obtain ⟨⟨h5, h6⟩, -⟩ := hb
  by_cases k5 : t.kind = 5
  · rcases h5 with h5 | h5
    · rw [k5] at h5; cases h5
    · exact small_len h5
  by_cases k6 : t.kind = 6
  · rcases h6 with h6 | h6
    · rw [k6] at h6; cases h6
    · exact great_len h6
  exfalso
  unfold shapeOk at hs
  simp only [k5, k6, if_false] at hs
  have h0 : t.names.length ≠ 0 := by omega
  (repeat' split at hs) <;> simp_all

/-- A row's length. -/
theorem row_len (l : List Ty) (ns : List ByteArray) (hl : ∀ s, s ∈ l → (textT s).length + 24 ≤ 124 * many s) (hn : ∀ i, i < ns.length → (nameAt ns i).size ≤ 20) :
    ∀ k, k ≤ l.length → (rowOf (textsT l) ns k).length ≤ 124 * manyL (l.take k) := by
  intro k
  induction k with
  | zero => intro _; simp [rowOf]
  | succ k ih =>
    intro hk
    have a := ih (by omega)
    obtain ⟨s, hs⟩ : ∃ s, l[k]? = some s := ⟨_, List.getElem?_eq_getElem (by omega)⟩
    have b := hl s (List.mem_of_getElem? hs)
    have c : (nameAt ns k).size ≤ 20 := by
      rcases Nat.lt_or_ge k ns.length with h | h
      · exact hn k h
      · unfold nameAt; rw [List.getD_eq_getElem?_getD, List.getElem?_eq_none h]; exact Nat.zero_le _
    have d := len_size (nameAt ns k)
    rw [manyL_take l k _ hs]
    unfold rowOf
    rw [textsT_at l k _ hs]
    split <;> split <;> simp only [List.length_append, List.length_cons, List.length_nil, d] <;> omega
theorem getD_len (l : List Ty) (k : Nat) (hk : k < l.length) (hl : ∀ s, s ∈ l → (textT s).length + 24 ≤ 124 * many s) : ((textsT l).getD k []).length + 24 + 124 * manyL (l.take k) ≤ 124 * manyL l := by
  obtain ⟨s, hs⟩ : ∃ s, l[k]? = some s := ⟨_, List.getElem?_eq_getElem hk⟩
  have b := hl s (List.mem_of_getElem? hs)
  have c := manyL_take l k _ hs
  have d := manyL_take_le l (k + 1)
  rw [textsT_at l k _ hs]
  omega
/-- What may be is of a short text. -/
theorem own_len (t : Ty) (ho : ownOk t = true) (hl : ∀ s, s ∈ t.subs → (textT s).length + 24 ≤ 124 * many s) : (textT t).length + 24 ≤ 124 * many t := by
  have hN := own_names ho
  have hm : many t = 1 + manyL t.subs := by cases t; rfl
  have hr := row_len t.subs t.names hl hN
  have hr0 := row_len t.subs [] hl (fun i hi => by simp at hi)
  have htk : manyL (t.subs.take t.subs.length) = manyL t.subs := by rw [List.take_of_length_le (Nat.le_refl _)]
  have hLl := textsT_len t.subs
  have hs : shapeOk t = true := by
    unfold ownOk at ho
    simp only [Bool.and_eq_true] at ho
    exact ho.2
  rw [textT_eq]
  unfold kindText
  rw [hLl]
  by_cases k1 : t.kind = 1
  · simp [k1]; omega
  by_cases k2 : t.kind = 2
  · simp [k2]; omega
  by_cases k3 : t.kind = 3
  · simp [k3]; omega
  rw [if_neg k1, if_neg k2, if_neg k3]
  unfold shapeOk at hs
  rw [if_neg (by omega)] at hs
  by_cases k4 : t.kind = 4
  · rw [if_pos k4] at hs ⊢
    simp only [Bool.and_eq_true, decide_eq_true_eq] at hs
    have := getD_len t.subs 0 (by omega) hl
    simp only [List.length_append, List.length_cons, List.length_nil]
    omega
  rw [if_neg k4] at hs ⊢
  by_cases k5 : t.kind = 5
  · rw [if_pos k5]
    have := hr t.subs.length (Nat.le_refl _)
    simp only [List.length_append, List.length_cons, List.length_nil]
    omega
  rw [if_neg k5] at hs ⊢
  by_cases k6 : t.kind = 6
  · rw [if_pos k6]
    have := hr t.subs.length (Nat.le_refl _)
    simp only [List.length_append, List.length_cons, List.length_nil]
    omega
  rw [if_neg k6] at hs ⊢
  by_cases k7 : t.kind = 7
  · rw [if_pos k7] at hs ⊢
    simp only [Bool.and_eq_true, decide_eq_true_eq] at hs
    have a := hr0 (t.subs.length - 1) (by omega)
    have b := getD_len t.subs (t.subs.length - 1) (by omega) hl
    simp only [List.length_append, List.length_cons, List.length_nil]
    omega
  rw [if_neg k7] at hs ⊢
  by_cases k8 : t.kind = 8
  · rw [if_pos k8] at hs
    simp only [Bool.and_eq_true, Bool.or_eq_true] at hs
    have a := great_len hs.1.2
    have b : t.mod.size ≤ 20 := by
      rcases hs.2 with h | h
      · exact small_len h
      · have : t.mod.size = 0 := by simpa [emptyB] using h
        omega
    have c := len_size t.mod
    have d := len_size t.name
    rw [if_neg (by omega)]
    split <;> simp only [List.length_append, List.length_cons, List.length_nil, c, d] <;> omega
  rw [if_neg k8] at hs
  by_cases k9 : t.kind = 9
  · rw [if_pos k9] at hs ⊢
    simp only [Bool.and_eq_true, decide_eq_true_eq] at hs
    obtain ⟨⟨⟨⟨⟨-, h1⟩, h2⟩, h3⟩, h4⟩, h5⟩ := hs
    have a := small_len h1
    have b := small_len h2
    have c := great_len h3
    have d := dec_size t.major (by omega) (by omega)
    have e1 := len_size t.pkg
    have e2 := len_size t.mod
    have e3 := len_size t.name
    have e4 := len_size (dec t.major)
    simp only [List.length_append, List.length_cons, List.length_nil, e1, e2, e3, e4]
    omega
  · rw [if_neg k9] at hs
    cases hs
mutual
theorem text_len : ∀ t : Ty, allOk t = true → (textT t).length + 24 ≤ 124 * many t
  | .mk k p m d n ns ss, h => by
    rw [allOk_eq] at h
    simp only [Bool.and_eq_true] at h
    exact own_len _ h.1 (texts_len ss h.2)
theorem texts_len : ∀ l : List Ty, allOkL l = true → ∀ s, s ∈ l → (textT s).length + 24 ≤ 124 * many s
  | a :: r, h, s, hs => by
    unfold allOkL at h
    simp only [Bool.and_eq_true] at h
    rcases List.mem_cons.1 hs with e | hs
    · rw [e]; exact text_len a h.1
    · exact texts_len r h.2 s hs
end

end Go.Proofs.YtpfoclpgcbjjoaaGreatDoor.M

/- The texts of imports: the code's. -/
namespace Go.Proofs.YtpfoclpgcbjjoaaGreatDoor
open Go.RowKit
open Go.Sort
open M

/-- An import's line. -/
def txI (x : Im) : ByteArray := ⟨#[105, 109, 112, 111, 114, 116, 32]⟩ ++ x.pkg ++ ⟨#[32]⟩ ++ dec x.major ++ ⟨#[32]⟩ ++ x.mod ++ ⟨#[32, 97, 115, 32]⟩ ++ x.asn ++ ⟨#[10]⟩
def textI : List Im → List UInt8
  | [] => []
  | x :: xs => (txI x).data.toList ++ textI xs
theorem textI_snoc (xs : List Im) (x : Im) : textI (xs ++ [x]) = textI xs ++ (txI x).data.toList := by
  induction xs with
  | nil => simp [textI]
  | cons y ys ih => simp [textI, ih]
theorem textI_take (xs : List Im) (k : Nat) (x : Im) (h : xs[k]? = some x) : textI (xs.take (k + 1)) = textI (xs.take k) ++ (txI x).data.toList := by
  rw [List.take_add_one, h]; exact textI_snoc _ _
theorem mayI_bd {x : Im} (h : mayI x = true) : x.pkg.size ≤ 20 ∧ x.mod.size ≤ 20 ∧ x.asn.size ≤ 20 ∧ 1 ≤ x.major ∧ x.major ≤ 999999999 := by
  unfold mayI at h
  simp only [Bool.and_eq_true, decide_eq_true_eq] at h
  obtain ⟨h1, h2, h3, h4, h5⟩ := h
  exact ⟨small_len h1, small_len h2, small_len h3, h4, h5⟩
theorem txI_size {x : Im} (h : mayI x = true) : (txI x).size ≤ 120 := by
  obtain ⟨h1, h2, h3, h4, h5⟩ := mayI_bd h
  have hd := dec_size x.major (by omega) (by omega)
  unfold txI
  simp only [ByteArray.size_append]
  simp only [show (⟨#[105, 109, 112, 111, 114, 116, 32]⟩ : ByteArray).size = 7 from rfl, show (⟨#[32]⟩ : ByteArray).size = 1 from rfl, show (⟨#[32, 97, 115, 32]⟩ : ByteArray).size = 4 from rfl, show (⟨#[10]⟩ : ByteArray).size = 1 from rfl]
  omega

/-- What the line's region stands on: the import's box at block k, and the table. -/
structure TI (k : Nat) (x : Im) (W0 w' : World) : Prop where
  below : Below W0.heap.size W0 w'
  lt : k < W0.heap.size
  c0 : W0.cell? ⟨k, 0, none⟩ = some (.string x.pkg)
  c1 : W0.cell? ⟨k, 1, none⟩ = some (.int .i64 x.major)
  c2 : W0.cell? ⟨k, 2, none⟩ = some (.string x.mod)
  c3 : W0.cell? ⟨k, 3, none⟩ = some (.string x.asn)
  pow : Pow W0
theorem TI.all {k : Nat} {x : Im} {W0 w' : World} (h : TI k x W0 w') :
    w'.cell? ⟨k, 0, none⟩ = some (.string x.pkg) ∧ w'.cell? ⟨k, 1, none⟩ = some (.int .i64 x.major) ∧ w'.cell? ⟨k, 2, none⟩ = some (.string x.mod) ∧ w'.cell? ⟨k, 3, none⟩ = some (.string x.asn) ∧ TI k x W0 w' :=
  ⟨(h.below.cell (p := ⟨k, 0, none⟩) h.lt).trans h.c0, (h.below.cell (p := ⟨k, 1, none⟩) h.lt).trans h.c1, (h.below.cell (p := ⟨k, 2, none⟩) h.lt).trans h.c2, (h.below.cell (p := ⟨k, 3, none⟩) h.lt).trans h.c3, h⟩
theorem TI.drew {k : Nat} {x : Im} {W0 w' : World} (h : TI k x W0 w') : TI k x W0 w'.drew := { h with below := h.below.drew }
theorem TI.on {k : Nat} {x : Im} {W0 w' w'' : World} (h : TI k x W0 w') (hb : Below w'.heap.size w' w'') : TI k x W0 w'' := { h with below := below_over h.below hb }
theorem TI.powAt {k : Nat} {x : Im} {W0 w' : World} (h : TI k x W0 w') : Pow w' := h.pow.on h.below

set_option maxRecDepth 100000 in
set_option maxHeartbeats 4000000 in
theorem textI_any (A : Option Addr) (c n : Nat) (xs : List Im) (w : World) (hn : xs.length = n) (hz : n ≤ 1000) (hS : RowIn imR w A xs) (hM : ∀ x ∈ xs, mayI x = true) (hp : Pow w) :
    Calls Tryz.prog 28 #[.slice A n c] w fun e w' => ∃ s : ByteArray, e = .returned (.string s) ∧ s.data.toList = textI xs ∧ s.size ≤ 120 * n ∧ Below w.heap.size w w' := by
  have HS := Lib.hid hS
  have HN := Lib.hid hn
  have HM := Lib.hid hM
  have HP := Lib.hid hp
  clear hS hn hM hp
  go_enter Tryz.func28, Tryz.ntmps28
  go_wp2_with fail
  go_loopw [3, 8] (fun sv iv wr => ∃ (k : Nat) (acc : ByteArray), k ≤ n ∧ iv = .int .i64 k ∧ sv = .string acc ∧ Hid (acc.data.toList = textI (xs.take k)) ∧ acc.size ≤ 120 * k ∧ Below w.heap.size w wr) (fun _ iv _ => n - (intOf iv).toNat)
  case atStart => exact ⟨0, ⟨#[]⟩, by omega, rfl, rfl, Lib.hid (by simp [textI]), Nat.le_of_eq rfl, Below.refl _ _⟩
  case round =>
    obtain ⟨k, acc, hk, rfl, rfl, HA, ha, hb⟩ := hrel
    obtain ⟨wo, rfl⟩ : ∃ wo : World, wo = wr := ⟨_, rfl⟩
    by_cases hlt : k < n
    · obtain ⟨x, hx⟩ : ∃ x, xs[k]? = some x := ⟨_, List.getElem?_eq_getElem (by rw [HN.out]; exact hlt)⟩
      obtain ⟨g, o, rfl, -, a0, a1, a2, a3, -, -, -⟩ := (HS.out.below hb).im hx
      have hmx := HM.out x (List.mem_of_getElem? hx)
      have HZ := Lib.hid (txI_size hmx)
      obtain ⟨z0, z1, z2, m1, m2⟩ := mayI_bd hmx
      have zd := dec_size x.major (by omega) (by omega)
      have HX := Lib.hid hx
      have HPo := Lib.hid (HP.out.on hb)
      have hT : TI wo.heap.size x (wo.alloc (.cells #[.string x.pkg, .int .i64 x.major, .string x.mod, .string x.asn] 67)) (wo.alloc (.cells #[.string x.pkg, .int .i64 x.major, .string x.mod, .string x.asn] 67)) :=
        ⟨Below.refl _ _, by simp, by go_simp, by go_simp, by go_simp, by go_simp, HPo.out.on (below_new (Below.refl _ _) _)⟩
      have HB0 : Hid (Below w.heap.size w (wo.alloc (.cells #[.string x.pkg, .int .i64 x.major, .string x.mod, .string x.asn] 67))) := Lib.hid (below_new hb _)
      have n1 : ¬ (7 + x.pkg.size > 9223372036854775807) := by omega
      have n2 : ¬ (7 + x.pkg.size + 1 > 9223372036854775807) := by omega
      have n3 : ¬ (7 + x.pkg.size + 1 + (dec x.major).size > 9223372036854775807) := by omega
      have n4 : ¬ (7 + x.pkg.size + 1 + (dec x.major).size + 1 > 9223372036854775807) := by omega
      have n5 : ¬ (7 + x.pkg.size + 1 + (dec x.major).size + 1 + x.mod.size > 9223372036854775807) := by omega
      have n6 : ¬ (7 + x.pkg.size + 1 + (dec x.major).size + 1 + x.mod.size + 4 > 9223372036854775807) := by omega
      have n7 : ¬ (7 + x.pkg.size + 1 + (dec x.major).size + 1 + x.mod.size + 4 + x.asn.size > 9223372036854775807) := by omega
      have n8 : ¬ (7 + x.pkg.size + 1 + (dec x.major).size + 1 + x.mod.size + 4 + x.asn.size + 1 > 9223372036854775807) := by omega
      have n9 : ¬ (acc.size + (7 + x.pkg.size + 1 + (dec x.major).size + 1 + x.mod.size + 4 + x.asn.size + 1) > 9223372036854775807) := by omega
      clear hx hmx
      go_wp2_with fail
      go_region_held3 (fun w' => w'.cell? ⟨wo.heap.size, 0, none⟩ = some (.string x.pkg) ∧ w'.cell? ⟨wo.heap.size, 1, none⟩ = some (.int .i64 x.major) ∧ w'.cell? ⟨wo.heap.size, 2, none⟩ = some (.string x.mod) ∧ w'.cell? ⟨wo.heap.size, 3, none⟩ = some (.string x.asn) ∧ TI wo.heap.size x (wo.alloc (.cells #[.string x.pkg, .int .i64 x.major, .string x.mod, .string x.asn] 67)) w')
        (first | exact (TI.drew hT).all | (go_split_ands; refine (TI.on ?_ hbw).all; assumption))
        (first | (go_at_call 70; go_split_ands; refine (itoa_any _ _ ?_ ?_ ?_).mono ?_; (omega); (omega); (refine TI.powAt (k := wo.heap.size) (x := x) (W0 := wo.alloc (.cells #[.string x.pkg, .int .i64 x.major, .string x.mod, .string x.asn] 67)) ?_; assumption); rintro e w1 ⟨rfl, hbw⟩))
      go_split_ands
      have HB1 : Hid _ := Lib.hid (TI.below (k := wo.heap.size) (x := x) (W0 := wo.alloc (.cells #[.string x.pkg, .int .i64 x.major, .string x.mod, .string x.asn] 67)) (by assumption))
      clear a0 a1 a2 a3 n1 n2 n3 n4 n5 n6 n7 n8 n9 hT hb
      go_wp2_with fail
      go_roundw
      case rel =>
        refine ⟨k + 1, acc ++ txI x, by omega, by go_num, rfl, Lib.hid (by rw [textI_take _ _ _ HX.out, ← HA.out]; simp), by rw [ByteArray.size_append]; have := HZ.out; omega, ?_⟩
        exact below_over HB0.out HB1.out
      case measure => simp [intOf]; omega
    · have R : Hid (acc.data.toList = textI xs) := Lib.hid (by
        have h := HA.out
        rw [List.take_of_length_le (by rw [HN.out]; omega)] at h
        exact h)
      have hkn : k = n := by omega
      subst hkn
      go_wp2_with fail
      go_ret
      exact ⟨_, rfl, R.out, ha, hb⟩

end Go.Proofs.YtpfoclpgcbjjoaaGreatDoor

/- Walks of package kind: are a type's own fields those of its kind? -/
namespace Go.Proofs.YtpfoclpgcbjjoaaGreatDoor
open Go.RowKit
open M

/-- What a Local's, an Open's own fields must be. -/
def localOk (t : Ty) : Bool := emptyB t.pkg && (t.major == 0) && (emptyB t.mod || smallB t.mod.data.toList) && greatB t.name.data.toList
def openOk (t : Ty) : Bool := smallB t.pkg.data.toList && decide (1 ≤ t.major) && decide (t.major ≤ 999999999) && smallB t.mod.data.toList && greatB t.name.data.toList
/-- Is the name at that place at fault, of names of that sort? -/
def badFor (f : List UInt8 → Bool) (names : List ByteArray) (i : Nat) : Bool := !f (nameAt names i).data.toList || (decide (0 < i) && leS (nameAt names i) (nameAt names (i - 1)))
def risingB (f : List UInt8 → Bool) (names : List ByteArray) : Bool := (List.range names.length).all fun i => !badFor f names i
theorem rising_iff (f : List UInt8 → Bool) (names : List ByteArray) : risingB f names = true ↔ ∀ i, i < names.length → badFor f names i = false := by
  unfold risingB
  simp [List.all_eq_true]
theorem rising_no {f : List UInt8 → Bool} {names : List ByteArray} {i : Nat} (hi : i < names.length) (h : badFor f names i = true) : risingB f names = false := by
  rw [Bool.eq_false_iff, ne_eq, rising_iff]
  intro a
  have := a i hi
  rw [h] at this; cases this
theorem leL : ∀ x y : List UInt8, (Op.bytesLess x y || x == y) = !Op.bytesLess y x
  | [], [] => rfl
  | [], b :: y => by simp [Op.bytesLess]
  | a :: x, [] => by simp [Op.bytesLess]
  | a :: x, b :: y => by
    have ih := leL x y
    simp only [Op.bytesLess, List.cons_beq_cons]
    rcases Nat.lt_trichotomy a.toNat b.toNat with h | h | h
    · have h1 : a < b := h
      have h2 : ¬ b < a := by intro (c : b.toNat < a.toNat); omega
      have h3 : (b == a) = false := by simp; intro e; subst e; exact absurd h (Nat.lt_irrefl _)
      simp [h1, h2, h3]
    · have e : a = b := UInt8.toNat_inj.1 h
      subst e
      have h1 : ¬ a < a := by intro (c : a.toNat < a.toNat); omega
      simp [h1, ih]
    · have h1 : b < a := h
      have h2 : ¬ a < b := by intro (c : a.toNat < b.toNat); omega
      have h3 : (a == b) = false := by simp; intro e; subst e; exact absurd h (Nat.lt_irrefl _)
      simp [h1, h2, h3]
theorem leS_eq (a b : ByteArray) : leS a b = !Op.bytesLess b.toList a.toList := leL _ _
theorem names_small (names : List ByteArray) : namesOk 5 names = risingB smallB names := by
  have e : (fun i => !badName 5 names i) = (fun i => !badFor smallB names i) := by funext i; simp [badName, badFor]
  unfold namesOk risingB; rw [e]
theorem names_great (names : List ByteArray) : namesOk 6 names = risingB greatB names := by
  have e : (fun i => !badName 6 names i) = (fun i => !badFor greatB names i) := by funext i; simp [badName, badFor]
  unfold namesOk risingB; rw [e]
theorem names_none (k : Int) {names : List ByteArray} (h : names.length = 0) : namesOk k names = true := by
  unfold namesOk; rw [h]; rfl
/-- What the package asks of a type's own fields. -/
def formT (t : Ty) : Bool :=
  if t.kind = 1 ∨ t.kind = 2 ∨ t.kind = 3 then decide (t.subs.length = 0) && decide (t.names.length = 0) && noMore t
  else if t.kind = 4 then decide (t.subs.length = 1) && decide (t.names.length = 0) && noMore t
  else if t.kind = 5 then decide (t.subs.length ≤ 20) && decide (t.names.length = t.subs.length) && risingB smallB t.names && noMore t
  else if t.kind = 6 then decide (1 ≤ t.subs.length) && decide (t.subs.length ≤ 20) && decide (t.names.length = t.subs.length) && risingB greatB t.names && noMore t
  else if t.kind = 7 then decide (1 ≤ t.subs.length) && decide (t.subs.length ≤ 20) && decide (t.names.length = 0) && noMore t
  else if t.kind = 8 then decide (t.subs.length = 0) && decide (t.names.length = 0) && localOk t
  else if t.kind = 9 then decide (t.subs.length = 0) && decide (t.names.length = 0) && openOk t
  else false
def formW (t : Ty) (n q : Nat) : Bool :=
  if t.kind = 1 ∨ t.kind = 2 ∨ t.kind = 3 then decide (n = 0) && decide (q = 0) && noMore t
  else if t.kind = 4 then decide (n = 1) && decide (q = 0) && noMore t
  else if t.kind = 5 then decide (n ≤ 20) && decide (q = n) && risingB smallB t.names && noMore t
  else if t.kind = 6 then decide (1 ≤ n) && decide (n ≤ 20) && decide (q = n) && risingB greatB t.names && noMore t
  else if t.kind = 7 then decide (1 ≤ n) && decide (n ≤ 20) && decide (q = 0) && noMore t
  else if t.kind = 8 then decide (n = 0) && decide (q = 0) && localOk t
  else if t.kind = 9 then decide (n = 0) && decide (q = 0) && openOk t
  else false
theorem formT_w (t : Ty) : formT t = formW t t.subs.length t.names.length := rfl
theorem formT_own (t : Ty) : formT t = ownOk t := by
  unfold formT ownOk shapeOk localOk openOk
  by_cases h : t.kind = 1 ∨ t.kind = 2 ∨ t.kind = 3
  · simp only [if_pos h]
    by_cases h0 : t.names.length = 0
    · rw [names_none _ h0, Bool.eq_iff_iff]; simp [h0] <;> (constructor <;> (intro a; simp_all))
    · rw [Bool.eq_iff_iff]; simp [h0]
  simp only [if_neg h]
  by_cases h4 : t.kind = 4
  · simp only [if_pos h4]
    by_cases h0 : t.names.length = 0
    · rw [names_none _ h0, Bool.eq_iff_iff]; simp [h0] <;> (constructor <;> (intro a; simp_all))
    · rw [Bool.eq_iff_iff]; simp [h0]
  simp only [if_neg h4]
  by_cases h5 : t.kind = 5
  · simp only [if_pos h5]
    rw [h5, names_small]
    rw [Bool.eq_iff_iff]; simp only [Bool.and_eq_true, decide_eq_true_eq]
    constructor
    · rintro ⟨⟨⟨a, b⟩, c⟩, d⟩; exact ⟨⟨a, c⟩, d, b.symm⟩
    · rintro ⟨⟨a, c⟩, d, b⟩; exact ⟨⟨⟨a, b.symm⟩, c⟩, d⟩
  simp only [if_neg h5]
  by_cases h6 : t.kind = 6
  · simp only [if_pos h6]
    rw [h6, names_great]
    rw [Bool.eq_iff_iff]; simp only [Bool.and_eq_true, decide_eq_true_eq]
    constructor
    · rintro ⟨⟨⟨⟨e, a⟩, b⟩, c⟩, d⟩; exact ⟨⟨a, c⟩, ⟨d, b.symm⟩, by omega⟩
    · rintro ⟨⟨a, c⟩, ⟨d, b⟩, e⟩; exact ⟨⟨⟨⟨by omega, a⟩, b.symm⟩, c⟩, d⟩
  simp only [if_neg h6]
  by_cases h7 : t.kind = 7
  · simp only [if_pos h7]
    by_cases h0 : t.names.length = 0
    · rw [names_none _ h0, Bool.eq_iff_iff]; simp only [Bool.and_eq_true, decide_eq_true_eq]
      constructor
      · rintro ⟨⟨⟨e, a⟩, b⟩, d⟩; exact ⟨⟨a, trivial⟩, ⟨d, by omega⟩, h0⟩
      · rintro ⟨⟨a, c⟩, ⟨d, b⟩, e⟩; exact ⟨⟨⟨by omega, a⟩, h0⟩, d⟩
    · rw [Bool.eq_iff_iff]; simp [h0]
  simp only [if_neg h7]
  by_cases h8 : t.kind = 8
  · simp only [if_pos h8]
    by_cases h0 : t.names.length = 0
    · rw [names_none _ h0, Bool.eq_iff_iff]; simp only [Bool.and_eq_true, Bool.or_eq_true, decide_eq_true_eq]
      constructor
      · rintro ⟨⟨a, b⟩, ⟨⟨c, d⟩, e⟩, f⟩; exact ⟨⟨by omega, trivial⟩, ⟨⟨⟨⟨a, h0⟩, c⟩, d⟩, f⟩, e.symm⟩
      · rintro ⟨-, ⟨⟨⟨⟨a, b⟩, c⟩, d⟩, f⟩, e⟩; exact ⟨⟨a, h0⟩, ⟨⟨c, d⟩, e.symm⟩, f⟩
    · rw [Bool.eq_iff_iff]; simp [h0]
  simp only [if_neg h8]
  by_cases h9 : t.kind = 9
  · simp only [if_pos h9]
    by_cases h0 : t.names.length = 0
    · rw [names_none _ h0, Bool.eq_iff_iff]; simp only [Bool.and_eq_true, decide_eq_true_eq]
      constructor
      · rintro ⟨⟨a, b⟩, ⟨⟨⟨c, d⟩, e⟩, f⟩, g⟩; exact ⟨⟨by omega, trivial⟩, ⟨⟨⟨⟨⟨⟨a, h0⟩, c⟩, f⟩, g⟩, d⟩, e⟩⟩
      · rintro ⟨-, ⟨⟨⟨⟨⟨a, b⟩, c⟩, f⟩, g⟩, d⟩, e⟩; exact ⟨⟨a, h0⟩, ⟨⟨⟨c, d⟩, e⟩, f⟩, g⟩
    · rw [Bool.eq_iff_iff]; simp [h0]
  · simp only [if_neg h9]; simp

theorem nameAt_of0 {l : List ByteArray} {i : Nat} {s : ByteArray} (h : l[i]? = some s) : nameAt l i = s := by
  unfold nameAt; rw [List.getD_eq_getElem?_getD, h]; rfl

set_option maxRecDepth 100000 in
set_option maxHeartbeats 4000000 in
theorem unnamed_any (t : Ty) (v : Value) (w : World) (hv : TyV w v t) :
    Calls Tryz.prog 184 #[v] w fun e w' => e = .returned (.bool (noMore t)) ∧ Below w.heap.size w w' := by
  obtain ⟨l, rfl, hT⟩ := hv
  obtain ⟨An, cn, As, cs, rfl, zp, zm, za, hzn, hz, hN, -⟩ := hT.parts
  clear hT hN
  by_cases e1 : t.pkg.size = 0
  · obtain ⟨x1, y1⟩ := empty_facts _ e1
    rcases hid_or (t.major == 0) with e2 | e2
    · have d2 := e2.out
      have R : noMore t = false := by
        unfold noMore emptyB
        simp [d2]
      rw [R]
      clear R
      as_aux_lemma =>
      go_enter Tryz.func184, Tryz.ntmps184
      go_wp2_with fail
      go_ret
      exact ⟨rfl, below_new (Below.refl _ _) _⟩
    · have d2 := e2.out
      by_cases e3 : t.mod.size = 0
      · obtain ⟨x3, y3⟩ := empty_facts _ e3
        by_cases e4 : t.name.size = 0
        · obtain ⟨x4, y4⟩ := empty_facts _ e4
          have R : noMore t = true := by
            unfold noMore emptyB
            simp [e1, d2, e3, e4]
          rw [R]
          clear R
          as_aux_lemma =>
          go_enter Tryz.func184, Tryz.ntmps184
          go_wp2_with fail
          go_ret
          exact ⟨rfl, below_new (Below.refl _ _) _⟩
        · obtain ⟨x4, y4⟩ := full_facts _ e4
          have R : noMore t = false := by
            unfold noMore emptyB
            simp [e4]
          rw [R]
          clear R
          as_aux_lemma =>
          go_enter Tryz.func184, Tryz.ntmps184
          go_wp2_with fail
          go_ret
          exact ⟨rfl, below_new (Below.refl _ _) _⟩
      · obtain ⟨x3, y3⟩ := full_facts _ e3
        have R : noMore t = false := by
          unfold noMore emptyB
          simp [e3]
        rw [R]
        clear R
        as_aux_lemma =>
        go_enter Tryz.func184, Tryz.ntmps184
        go_wp2_with fail
        go_ret
        exact ⟨rfl, below_new (Below.refl _ _) _⟩
  · obtain ⟨x1, y1⟩ := full_facts _ e1
    have R : noMore t = false := by
      unfold noMore emptyB
      simp [e1]
    rw [R]
    clear R
    as_aux_lemma =>
    go_enter Tryz.func184, Tryz.ntmps184
    go_wp2_with fail
    go_ret
    exact ⟨rfl, below_new (Below.refl _ _) _⟩

set_option maxRecDepth 100000 in
set_option maxHeartbeats 4000000 in
theorem mayLocal_any (t : Ty) (v : Value) (w : World) (hv : TyV w v t) :
    Calls Tryz.prog 186 #[v] w fun e w' => e = .returned (.bool (localOk t)) ∧ Below w.heap.size w w' := by
  obtain ⟨l, rfl, hT⟩ := hv
  obtain ⟨An, cn, As, cs, rfl, zp, zm, za, hzn, hz, hN, -⟩ := hT.parts
  clear hT hN
  by_cases e1 : t.pkg.size = 0
  · obtain ⟨x1, y1⟩ := empty_facts _ e1
    rcases hid_or (t.major == 0) with e2 | e2
    · have d2 := e2.out
      have R : Hid (localOk t = false) := Lib.hid (by
        unfold localOk emptyB
        simp [d2])
      rw [R.out]
      clear R
      as_aux_lemma =>
      go_enter Tryz.func186, Tryz.ntmps186
      go_wp2_with fail
      go_ret
      exact ⟨rfl, below_new (Below.refl _ _) _⟩
    · have d2 := e2.out
      by_cases e3 : t.mod.size = 0
      · obtain ⟨x3, y3⟩ := empty_facts _ e3
        rcases hid_or (greatB t.name.data.toList) with g1 | g1
        · skip
          have R : Hid (localOk t = false) := Lib.hid (by
            unfold localOk emptyB
            simp [e1, d2, e3, g1.out])
          rw [R.out]
          clear R
          as_aux_lemma =>
          go_enter Tryz.func186, Tryz.ntmps186
          go_wp2_with fail
          refine (great_any _ _ za).mono ?_; rintro e w2 ⟨rfl, rfl⟩; rw [g1.out]
          go_wp2_with fail
          go_ret
          exact ⟨rfl, below_new (Below.refl _ _) _⟩
        · skip
          have R : Hid (localOk t = true) := Lib.hid (by
            unfold localOk emptyB
            simp [e1, d2, e3, g1.out])
          rw [R.out]
          clear R
          as_aux_lemma =>
          go_enter Tryz.func186, Tryz.ntmps186
          go_wp2_with fail
          refine (great_any _ _ za).mono ?_; rintro e w2 ⟨rfl, rfl⟩; rw [g1.out]
          go_wp2_with fail
          go_ret
          exact ⟨rfl, below_new (Below.refl _ _) _⟩
      · obtain ⟨x3, y3⟩ := full_facts _ e3
        rcases hid_or (smallB t.mod.data.toList) with s1 | s1
        · skip
          have R : Hid (localOk t = false) := Lib.hid (by
            unfold localOk emptyB
            simp [e3, s1.out])
          rw [R.out]
          clear R
          as_aux_lemma =>
          go_enter Tryz.func186, Tryz.ntmps186
          go_wp2_with fail
          refine (small_any _ _ zm).mono ?_; rintro e w1 ⟨rfl, rfl⟩; rw [s1.out]
          go_wp2_with fail
          go_ret
          exact ⟨rfl, below_new (Below.refl _ _) _⟩
        · skip
          rcases hid_or (greatB t.name.data.toList) with g1 | g1
          · skip
            have R : Hid (localOk t = false) := Lib.hid (by
              unfold localOk emptyB
              simp [e1, d2, e3, s1.out, g1.out])
            rw [R.out]
            clear R
            as_aux_lemma =>
            go_enter Tryz.func186, Tryz.ntmps186
            go_wp2_with fail
            refine (small_any _ _ zm).mono ?_; rintro e w1 ⟨rfl, rfl⟩; rw [s1.out]
            go_wp2_with fail
            refine (great_any _ _ za).mono ?_; rintro e w2 ⟨rfl, rfl⟩; rw [g1.out]
            go_wp2_with fail
            go_ret
            exact ⟨rfl, below_new (Below.refl _ _) _⟩
          · skip
            have R : Hid (localOk t = true) := Lib.hid (by
              unfold localOk emptyB
              simp [e1, d2, e3, s1.out, g1.out])
            rw [R.out]
            clear R
            as_aux_lemma =>
            go_enter Tryz.func186, Tryz.ntmps186
            go_wp2_with fail
            refine (small_any _ _ zm).mono ?_; rintro e w1 ⟨rfl, rfl⟩; rw [s1.out]
            go_wp2_with fail
            refine (great_any _ _ za).mono ?_; rintro e w2 ⟨rfl, rfl⟩; rw [g1.out]
            go_wp2_with fail
            go_ret
            exact ⟨rfl, below_new (Below.refl _ _) _⟩
  · obtain ⟨x1, y1⟩ := full_facts _ e1
    have R : Hid (localOk t = false) := Lib.hid (by
      unfold localOk emptyB
      simp [e1])
    rw [R.out]
    clear R
    as_aux_lemma =>
    go_enter Tryz.func186, Tryz.ntmps186
    go_wp2_with fail
    go_ret
    exact ⟨rfl, below_new (Below.refl _ _) _⟩

set_option maxRecDepth 100000 in
set_option maxHeartbeats 4000000 in
theorem mayOpen_any (t : Ty) (v : Value) (w : World) (hv : TyV w v t) :
    Calls Tryz.prog 187 #[v] w fun e w' => e = .returned (.bool (openOk t)) ∧ Below w.heap.size w w' := by
  obtain ⟨l, rfl, hT⟩ := hv
  obtain ⟨An, cn, As, cs, rfl, zp, zm, za, hzn, hz, hN, -⟩ := hT.parts
  clear hT hN
  rcases hid_or (smallB t.pkg.data.toList) with s1 | s1
  · skip
    have R : Hid (openOk t = false) := Lib.hid (by
      unfold openOk
      simp [s1.out])
    rw [R.out]
    clear R
    as_aux_lemma =>
    go_enter Tryz.func187, Tryz.ntmps187
    go_wp2_with fail
    refine (small_any _ _ zp).mono ?_; rintro e w1 ⟨rfl, rfl⟩; rw [s1.out]
    go_wp2_with fail
    go_ret
    exact ⟨rfl, below_new (Below.refl _ _) _⟩
  · by_cases l1 : 1 ≤ t.major
    · by_cases l2 : t.major ≤ 999999999
      · rcases hid_or (smallB t.mod.data.toList) with s2 | s2
        · skip
          have R : Hid (openOk t = false) := Lib.hid (by
            unfold openOk
            simp [s2.out])
          rw [R.out]
          clear R
          as_aux_lemma =>
          go_enter Tryz.func187, Tryz.ntmps187
          go_wp2_with fail
          refine (small_any _ _ zp).mono ?_; rintro e w1 ⟨rfl, rfl⟩; rw [s1.out]
          go_wp2_with fail
          refine (small_any _ _ zm).mono ?_; rintro e w2 ⟨rfl, rfl⟩; rw [s2.out]
          go_wp2_with fail
          go_ret
          exact ⟨rfl, below_new (Below.refl _ _) _⟩
        · rcases hid_or (greatB t.name.data.toList) with g1 | g1
          · skip
            have R : Hid (openOk t = false) := Lib.hid (by
              unfold openOk
              simp [g1.out])
            rw [R.out]
            clear R
            as_aux_lemma =>
            go_enter Tryz.func187, Tryz.ntmps187
            go_wp2_with fail
            refine (small_any _ _ zp).mono ?_; rintro e w1 ⟨rfl, rfl⟩; rw [s1.out]
            go_wp2_with fail
            refine (small_any _ _ zm).mono ?_; rintro e w2 ⟨rfl, rfl⟩; rw [s2.out]
            go_wp2_with fail
            refine (great_any _ _ za).mono ?_; rintro e w3 ⟨rfl, rfl⟩; rw [g1.out]
            go_wp2_with fail
            go_ret
            exact ⟨rfl, below_new (Below.refl _ _) _⟩
          · skip
            have R : Hid (openOk t = true) := Lib.hid (by
              unfold openOk
              simp [s1.out, l1, l2, s2.out, g1.out])
            rw [R.out]
            clear R
            as_aux_lemma =>
            go_enter Tryz.func187, Tryz.ntmps187
            go_wp2_with fail
            refine (small_any _ _ zp).mono ?_; rintro e w1 ⟨rfl, rfl⟩; rw [s1.out]
            go_wp2_with fail
            refine (small_any _ _ zm).mono ?_; rintro e w2 ⟨rfl, rfl⟩; rw [s2.out]
            go_wp2_with fail
            refine (great_any _ _ za).mono ?_; rintro e w3 ⟨rfl, rfl⟩; rw [g1.out]
            go_wp2_with fail
            go_ret
            exact ⟨rfl, below_new (Below.refl _ _) _⟩
      · skip
        have R : Hid (openOk t = false) := Lib.hid (by
          unfold openOk
          simp [l2])
        rw [R.out]
        clear R
        as_aux_lemma =>
        go_enter Tryz.func187, Tryz.ntmps187
        go_wp2_with fail
        refine (small_any _ _ zp).mono ?_; rintro e w1 ⟨rfl, rfl⟩; rw [s1.out]
        go_wp2_with fail
        go_ret
        exact ⟨rfl, below_new (Below.refl _ _) _⟩
    · skip
      have R : Hid (openOk t = false) := Lib.hid (by
        unfold openOk
        simp [l1])
      rw [R.out]
      clear R
      as_aux_lemma =>
      go_enter Tryz.func187, Tryz.ntmps187
      go_wp2_with fail
      refine (small_any _ _ zp).mono ?_; rintro e w1 ⟨rfl, rfl⟩; rw [s1.out]
      go_wp2_with fail
      go_ret
      exact ⟨rfl, below_new (Below.refl _ _) _⟩

set_option maxRecDepth 100000 in
set_option maxHeartbeats 4000000 in
theorem rising_small (A : Option Addr) (c n : Nat) (names : List ByteArray) (w : World) (hn : names.length = n) (hz : n ≤ 9223372036854775807) (hN : NamesAt w A names) :
    Calls Tryz.prog 185 #[.slice A n c, .func (.func 34) #[] #[]] w fun e w' => e = .returned (.bool (risingB smallB names)) ∧ w = w' := by
  have HN := Lib.hid hN
  have HQ := Lib.hid hn
  clear hN hn
  go_enter Tryz.func185, Tryz.ntmps185
  go_wp2_with fail
  go_loop [9] (fun i => ∃ k : Nat, k ≤ n ∧ i = .int .i64 k ∧ Hid (∀ j, j < k → badFor smallB names j = false)) (fun i => n - (intOf i).toNat)
  case atStart => exact ⟨0, by omega, rfl, Lib.hid (fun j h => by omega)⟩
  case round =>
    obtain ⟨k, hk, rfl, HP⟩ := hrel
    by_cases hlt : k < n
    · obtain ⟨s, hs⟩ : ∃ s, names[k]? = some s := ⟨_, List.getElem?_eq_getElem (by rw [HQ.out]; exact hlt)⟩
      obtain ⟨g, o, rfl, hgo, hcs, hzs⟩ := HN.out k s hs
      have hna := nameAt_of0 hs
      rcases hid_or (smallB s.data.toList) with h1 | h1
      · have R : Hid (risingB smallB names = false) := Lib.hid (rising_no (i := k) (by rw [HQ.out]; exact hlt) (by unfold badFor; rw [hna, h1.out]; rfl))
        clear hna hs
        go_wp2_with fail
        refine (small_any _ _ hzs).mono ?_; rintro e w1 ⟨rfl, rfl⟩; rw [h1.out]
        go_wp2_with fail
        go_ret
        exact ⟨ret_bool R.out, rfl⟩
      · rcases Nat.eq_zero_or_pos k with hk0 | hk0
        · have hp : ¬ (0 : Int) < k := by omega
          have hb : Hid (badFor smallB names k = false) := Lib.hid (by unfold badFor; rw [hna, h1.out, show decide (0 < k) = false by simp; omega]; rfl)
          clear hna hs hk0
          go_wp2_with fail
          refine (small_any _ _ hzs).mono ?_; rintro e w1 ⟨rfl, rfl⟩; rw [h1.out]
          go_wp2_with fail
          go_round
          case rel => exact ⟨k + 1, by omega, by go_num, Lib.hid (fun j hj => by
            rcases Nat.lt_or_ge j k with a | a
            · exact HP.out j a
            · rw [show j = k by omega]; exact hb.out)⟩
          case measure => simp [intOf]; omega
        · obtain ⟨p, hps⟩ : ∃ p, names[k - 1]? = some p := ⟨_, List.getElem?_eq_getElem (by rw [HQ.out]; omega)⟩
          obtain ⟨g2, o2, eg, hg2, hc2, -⟩ := HN.out (k - 1) p hps
          obtain ⟨rfl, rfl⟩ : g = g2 ∧ o = o2 := by simpa using eg
          have hna2 := nameAt_of0 hps
          have hp : (0 : Int) < k := by omega
          have hp1 : 1 ≤ (k : Int) := by omega
          rcases hid_or (!Op.bytesLess p.toList s.toList) with hL | hL
          · have hl := hL.out
            have hb : Hid (badFor smallB names k = false) := Lib.hid (by unfold badFor; rw [hna, hna2, h1.out, leS_eq, hl]; simp)
            clear hna hna2 eg hg2 hps hk0 hs
            go_wp2_with fail
            refine (small_any _ _ hzs).mono ?_; rintro e w1 ⟨rfl, rfl⟩; rw [h1.out]
            go_wp2_with fail
            go_round
            case rel => exact ⟨k + 1, by omega, by go_num, Lib.hid (fun j hj => by
              rcases Nat.lt_or_ge j k with a | a
              · exact HP.out j a
              · rw [show j = k by omega]; exact hb.out)⟩
            case measure => simp [intOf]; omega
          · have hl := hL.out
            have R : Hid (risingB smallB names = false) := Lib.hid (rising_no (i := k) (by rw [HQ.out]; exact hlt) (by unfold badFor; rw [hna, hna2, h1.out, leS_eq, hl, show decide (0 < k) = true by simp; omega]; rfl))
            clear hna hna2 eg hg2 hps hk0 hs
            go_wp2_with fail
            refine (small_any _ _ hzs).mono ?_; rintro e w1 ⟨rfl, rfl⟩; rw [h1.out]
            go_wp2_with fail
            go_ret
            exact ⟨ret_bool R.out, rfl⟩
    · have R : Hid (risingB smallB names = true) := Lib.hid ((rising_iff _ _).2 (fun i hi => HP.out i (by rw [HQ.out] at hi; omega)))
      go_wp2_with fail
      go_ret
      exact ⟨ret_bool R.out, rfl⟩

set_option maxRecDepth 100000 in
set_option maxHeartbeats 4000000 in
theorem rising_great (A : Option Addr) (c n : Nat) (names : List ByteArray) (w : World) (hn : names.length = n) (hz : n ≤ 9223372036854775807) (hN : NamesAt w A names) :
    Calls Tryz.prog 185 #[.slice A n c, .func (.func 82) #[] #[]] w fun e w' => e = .returned (.bool (risingB greatB names)) ∧ w = w' := by
  have HN := Lib.hid hN
  have HQ := Lib.hid hn
  clear hN hn
  go_enter Tryz.func185, Tryz.ntmps185
  go_wp2_with fail
  go_loop [9] (fun i => ∃ k : Nat, k ≤ n ∧ i = .int .i64 k ∧ Hid (∀ j, j < k → badFor greatB names j = false)) (fun i => n - (intOf i).toNat)
  case atStart => exact ⟨0, by omega, rfl, Lib.hid (fun j h => by omega)⟩
  case round =>
    obtain ⟨k, hk, rfl, HP⟩ := hrel
    by_cases hlt : k < n
    · obtain ⟨s, hs⟩ : ∃ s, names[k]? = some s := ⟨_, List.getElem?_eq_getElem (by rw [HQ.out]; exact hlt)⟩
      obtain ⟨g, o, rfl, hgo, hcs, hzs⟩ := HN.out k s hs
      have hna := nameAt_of0 hs
      rcases hid_or (greatB s.data.toList) with h1 | h1
      · have R : Hid (risingB greatB names = false) := Lib.hid (rising_no (i := k) (by rw [HQ.out]; exact hlt) (by unfold badFor; rw [hna, h1.out]; rfl))
        clear hna hs
        go_wp2_with fail
        refine (great_any _ _ hzs).mono ?_; rintro e w1 ⟨rfl, rfl⟩; rw [h1.out]
        go_wp2_with fail
        go_ret
        exact ⟨ret_bool R.out, rfl⟩
      · rcases Nat.eq_zero_or_pos k with hk0 | hk0
        · have hp : ¬ (0 : Int) < k := by omega
          have hb : Hid (badFor greatB names k = false) := Lib.hid (by unfold badFor; rw [hna, h1.out, show decide (0 < k) = false by simp; omega]; rfl)
          clear hna hs hk0
          go_wp2_with fail
          refine (great_any _ _ hzs).mono ?_; rintro e w1 ⟨rfl, rfl⟩; rw [h1.out]
          go_wp2_with fail
          go_round
          case rel => exact ⟨k + 1, by omega, by go_num, Lib.hid (fun j hj => by
            rcases Nat.lt_or_ge j k with a | a
            · exact HP.out j a
            · rw [show j = k by omega]; exact hb.out)⟩
          case measure => simp [intOf]; omega
        · obtain ⟨p, hps⟩ : ∃ p, names[k - 1]? = some p := ⟨_, List.getElem?_eq_getElem (by rw [HQ.out]; omega)⟩
          obtain ⟨g2, o2, eg, hg2, hc2, -⟩ := HN.out (k - 1) p hps
          obtain ⟨rfl, rfl⟩ : g = g2 ∧ o = o2 := by simpa using eg
          have hna2 := nameAt_of0 hps
          have hp : (0 : Int) < k := by omega
          have hp1 : 1 ≤ (k : Int) := by omega
          rcases hid_or (!Op.bytesLess p.toList s.toList) with hL | hL
          · have hl := hL.out
            have hb : Hid (badFor greatB names k = false) := Lib.hid (by unfold badFor; rw [hna, hna2, h1.out, leS_eq, hl]; simp)
            clear hna hna2 eg hg2 hps hk0 hs
            go_wp2_with fail
            refine (great_any _ _ hzs).mono ?_; rintro e w1 ⟨rfl, rfl⟩; rw [h1.out]
            go_wp2_with fail
            go_round
            case rel => exact ⟨k + 1, by omega, by go_num, Lib.hid (fun j hj => by
              rcases Nat.lt_or_ge j k with a | a
              · exact HP.out j a
              · rw [show j = k by omega]; exact hb.out)⟩
            case measure => simp [intOf]; omega
          · have hl := hL.out
            have R : Hid (risingB greatB names = false) := Lib.hid (rising_no (i := k) (by rw [HQ.out]; exact hlt) (by unfold badFor; rw [hna, hna2, h1.out, leS_eq, hl, show decide (0 < k) = true by simp; omega]; rfl))
            clear hna hna2 eg hg2 hps hk0 hs
            go_wp2_with fail
            refine (great_any _ _ hzs).mono ?_; rintro e w1 ⟨rfl, rfl⟩; rw [h1.out]
            go_wp2_with fail
            go_ret
            exact ⟨ret_bool R.out, rfl⟩
    · have R : Hid (risingB greatB names = true) := Lib.hid ((rising_iff _ _).2 (fun i hi => HP.out i (by rw [HQ.out] at hi; omega)))
      go_wp2_with fail
      go_ret
      exact ⟨ret_bool R.out, rfl⟩

end Go.Proofs.YtpfoclpgcbjjoaaGreatDoor
