/-
  Walks of the reference's row and Print: the texts of types that may be.
-/
import Derived.Test.YtnnppdlhmcobcaaDoorTyA
import Derived.Test.YtnnppdlhmcobcaaDoorTyX
import Derived.Deep.QuietTactic
import Derived.BigQuiet
import Derived.Lib.QuietBelow
namespace Go.Proofs.YtnnppdlhmcobcaaDoor
open Go.RowKit
open Go.Sort
open M

def tB (t : Ty) : ByteArray := ⟨(textT t).toArray⟩
def rB (L : List (List UInt8)) (ns : List ByteArray) (k : Nat) : ByteArray := ⟨(rowOf L ns k).toArray⟩
theorem tB_size (t : Ty) : (tB t).size = (textT t).length := by rw [← len_size]; simp [tB]
theorem rB_size (L : List (List UInt8)) (ns : List ByteArray) (k : Nat) : (rB L ns k).size = (rowOf L ns k).length := by rw [← len_size]; simp [rB]
theorem bytes_ext' {a b : ByteArray} (h : a.data.toList = b.data.toList) : a = b := by
  cases a; cases b; simp at h; simpa using h
/-- A row one type longer, whether it is the first one, whether there are names. -/
theorem rB_00 {l : List Ty} {k : Nat} {s : Ty} (hs : l[k]? = some s) (hk : ¬ 0 < k) {ns : List ByteArray} (hn : ¬ 0 < ns.length) : rB (textsT l) ns k ++ tB s = rB (textsT l) ns (k + 1) :=
  bytes_ext' (by simp [rB, tB, rowOf, hk, hn]; rw [← List.getD_eq_getElem?_getD, textsT_at l k s hs])
theorem rB_10 {l : List Ty} {k : Nat} {s : Ty} (hs : l[k]? = some s) (hk : 0 < k) {ns : List ByteArray} (hn : ¬ 0 < ns.length) : rB (textsT l) ns k ++ ⟨#[44, 32]⟩ ++ tB s = rB (textsT l) ns (k + 1) :=
  bytes_ext' (by simp [rB, tB, rowOf, hk, hn]; rw [← List.getD_eq_getElem?_getD, textsT_at l k s hs])
theorem rB_01 {l : List Ty} {k : Nat} {s : Ty} (hs : l[k]? = some s) (hk : ¬ 0 < k) {ns : List ByteArray} (hn : 0 < ns.length) {q : ByteArray} (hq : nameAt ns k = q) : rB (textsT l) ns k ++ q ++ ⟨#[58, 32]⟩ ++ tB s = rB (textsT l) ns (k + 1) :=
  bytes_ext' (by simp [rB, tB, rowOf, hk, hn, hq]; rw [← List.getD_eq_getElem?_getD, textsT_at l k s hs])
theorem rB_11 {l : List Ty} {k : Nat} {s : Ty} (hs : l[k]? = some s) (hk : 0 < k) {ns : List ByteArray} (hn : 0 < ns.length) {q : ByteArray} (hq : nameAt ns k = q) : rB (textsT l) ns k ++ ⟨#[44, 32]⟩ ++ q ++ ⟨#[58, 32]⟩ ++ tB s = rB (textsT l) ns (k + 1) :=
  bytes_ext' (by simp [rB, tB, rowOf, hk, hn, hq]; rw [← List.getD_eq_getElem?_getD, textsT_at l k s hs])

theorem nameAt_of' {l : List ByteArray} {i : Nat} {s : ByteArray} (h : l[i]? = some s) : nameAt l i = s := by
  unfold nameAt; rw [List.getD_eq_getElem?_getD, h]; rfl

set_option maxRecDepth 100000 in
set_option maxHeartbeats 4000000 in
theorem row_any (A : Option Addr) (c : Nat) (ss : List Ty) (An : Option Addr) (cn : Nat) (ns : List ByteArray) (r : Nat) (w : World) (hr : r ≤ ss.length) (hl : ss.length ≤ 9223372036854775807) (hln : ns.length ≤ 9223372036854775807)
    (hS : SubsAt w A ss) (hN : NamesAt w An ns) (hnr : 0 < ns.length → r ≤ ns.length) (hbr : ∀ k, k ≤ r → (rowOf (textsT ss) ns k).length ≤ 2000000) (hbs : ∀ s, s ∈ ss → (textT s).length ≤ 2000000) (hbn : ∀ i, i < ns.length → (nameAt ns i).size ≤ 20)
    (IH : ∀ s, s ∈ ss → ∀ (v : Value) (w : World), TyV w v s → Calls Tryd.prog 15 #[v] w fun e w' => e = .returned (.string (tB s)) ∧ Below w.heap.size w w') :
    Calls Tryd.prog 26 #[.slice A ss.length c, .slice An ns.length cn, .int .i64 r] w fun e w' => e = .returned (.string (rB (textsT ss) ns r)) ∧ Below w.heap.size w w' := by
  have HS := Lib.hid hS
  have HN := Lib.hid hN
  have HBR := Lib.hid hbr
  have HBS := Lib.hid hbs
  have HBN := Lib.hid hbn
  have HIH := Lib.hid IH
  clear hS hN hbr hbs hbn IH
  generalize hq1 : ss.length = n at hr hl
  have HL := Lib.hid hq1
  generalize hq2 : ns.length = m at hnr hln
  have HM := Lib.hid hq2
  clear hq1 hq2
  go_enter Tryd.func26, Tryd.ntmps26
  go_wp2_with fail
  go_loopw [7, 8] (fun o i wr => ∃ k : Nat, k ≤ r ∧ i = .int .i64 k ∧ o = .string (rB (textsT ss) ns k) ∧ Below w.heap.size w wr) (fun _ i _ => r - (intOf i).toNat)
  case atStart => exact ⟨0, by omega, rfl, rfl, Below.refl _ _⟩
  case round =>
    obtain ⟨k, hk, rfl, rfl, hb⟩ := hrel
    obtain ⟨wo, rfl⟩ : ∃ wo : World, wo = wr := ⟨_, rfl⟩
    by_cases hlt : k < r
    · obtain ⟨s, hs⟩ : ∃ s, ss[k]? = some s := ⟨_, List.getElem?_eq_getElem (by rw [HL.out]; omega)⟩
      obtain ⟨g, o, v0, v1, v2, v3, v4, v5, v6, rfl, -, h0, h1, h2, h3, h4, h5, h6, hs7⟩ := HS.out.below hb k s hs
      have IHs := Lib.hid (HIH.out s (List.mem_of_getElem? hs) (.agg #[v0, v1, v2, v3, v4, v5, v6]) wo ⟨_, rfl, hs7⟩)
      have bk := rB_size (textsT ss) ns k
      have bk2 := HBR.out k (by omega)
      have bs := HBS.out s (List.mem_of_getElem? hs)
      have bt := tB_size s
      clear hs7
      by_cases hm : 0 < m
      · obtain ⟨q, hq⟩ : ∃ q, ns[k]? = some q := ⟨_, List.getElem?_eq_getElem (by rw [HM.out]; have := hnr hm; omega)⟩
        obtain ⟨gn, on, rfl, -, hcn, -⟩ := HN.out.below hb k q hq
        have hqs : q.size ≤ 20 := by
          have := HBN.out k (by rw [HM.out]; have := hnr hm; omega)
          rwa [nameAt_of' hq] at this
        have hm' : (0 : Int) < m := by omega
        have hml : 0 < ns.length := by rw [HM.out]; exact hm
        rcases Nat.eq_zero_or_pos k with hp | hp
        · have hp' : ¬ (0 : Int) < k := by omega
          have HJ : Hid (rB (textsT ss) ns k ++ q ++ ⟨#[58, 32]⟩ ++ tB s = rB (textsT ss) ns (k + 1)) := Lib.hid (rB_01 hs (by omega) (by omega) (nameAt_of' hq))
          have n1 : ¬ ((rB (textsT ss) ns k).size + q.size > 9223372036854775807) := by omega
          have n2 : ¬ ((rB (textsT ss) ns k).size + q.size + 2 > 9223372036854775807) := by omega
          have n3 : ¬ ((rB (textsT ss) ns k).size + q.size + 2 + (tB s).size > 9223372036854775807) := by omega
          clear hs bs bt bk bk2 hp hml
          go_wp2_with fail
          refine IHs.out.mono ?_; rintro e w2 ⟨rfl, hb2⟩
          have hb3 := below_over hb hb2
          clear hb hb2 h0 h1 h2 h3 h4 h5 h6
          go_wp2_with fail
          rw [HJ.out]
          go_roundw
          case rel => exact ⟨k + 1, by omega, by go_num, rfl, hb3⟩
          case measure => simp [intOf]; omega
        · have hp' : (0 : Int) < k := by omega
          have HJ : Hid (rB (textsT ss) ns k ++ ⟨#[44, 32]⟩ ++ q ++ ⟨#[58, 32]⟩ ++ tB s = rB (textsT ss) ns (k + 1)) := Lib.hid (rB_11 hs (by omega) (by omega) (nameAt_of' hq))
          have n1 : ¬ ((rB (textsT ss) ns k).size + 2 > 9223372036854775807) := by omega
          have n2 : ¬ ((rB (textsT ss) ns k).size + 2 + q.size > 9223372036854775807) := by omega
          have n3 : ¬ ((rB (textsT ss) ns k).size + 2 + q.size + 2 > 9223372036854775807) := by omega
          have n4 : ¬ ((rB (textsT ss) ns k).size + 2 + q.size + 2 + (tB s).size > 9223372036854775807) := by omega
          clear hs bs bt bk bk2 hp hml
          go_wp2_with fail
          refine IHs.out.mono ?_; rintro e w2 ⟨rfl, hb2⟩
          have hb3 := below_over hb hb2
          clear hb hb2 h0 h1 h2 h3 h4 h5 h6
          go_wp2_with fail
          rw [HJ.out]
          go_roundw
          case rel => exact ⟨k + 1, by omega, by go_num, rfl, hb3⟩
          case measure => simp [intOf]; omega
      · have hm' : ¬ (0 : Int) < m := by omega
        have hml : ¬ 0 < ns.length := by rw [HM.out]; exact hm
        rcases Nat.eq_zero_or_pos k with hp | hp
        · have hp' : ¬ (0 : Int) < k := by omega
          have HJ : Hid (rB (textsT ss) ns k ++ tB s = rB (textsT ss) ns (k + 1)) := Lib.hid (rB_00 hs (by omega) (by omega))
          have n1 : ¬ ((rB (textsT ss) ns k).size + (tB s).size > 9223372036854775807) := by omega
          clear hs bs bt bk bk2 hp hml
          go_wp2_with fail
          refine IHs.out.mono ?_; rintro e w2 ⟨rfl, hb2⟩
          have hb3 := below_over hb hb2
          clear hb hb2 h0 h1 h2 h3 h4 h5 h6
          go_wp2_with fail
          rw [HJ.out]
          go_roundw
          case rel => exact ⟨k + 1, by omega, by go_num, rfl, hb3⟩
          case measure => simp [intOf]; omega
        · have hp' : (0 : Int) < k := by omega
          have HJ : Hid (rB (textsT ss) ns k ++ ⟨#[44, 32]⟩ ++ tB s = rB (textsT ss) ns (k + 1)) := Lib.hid (rB_10 hs (by omega) (by omega))
          have n1 : ¬ ((rB (textsT ss) ns k).size + 2 > 9223372036854775807) := by omega
          have n2 : ¬ ((rB (textsT ss) ns k).size + 2 + (tB s).size > 9223372036854775807) := by omega
          clear hs bs bt bk bk2 hp hml
          go_wp2_with fail
          refine IHs.out.mono ?_; rintro e w2 ⟨rfl, hb2⟩
          have hb3 := below_over hb hb2
          clear hb hb2 h0 h1 h2 h3 h4 h5 h6
          go_wp2_with fail
          rw [HJ.out]
          go_roundw
          case rel => exact ⟨k + 1, by omega, by go_num, rfl, hb3⟩
          case measure => simp [intOf]; omega
    · obtain rfl : k = r := by omega
      go_wp2_with fail
      go_ret
      exact ⟨rfl, hb⟩

end Go.Proofs.YtnnppdlhmcobcaaDoor
