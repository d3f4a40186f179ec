/-
  Plain mathematics for layer 3, second part: texts of one byte, pieces of a text, a line's end, the signs, as the library's own functions tell them.
-/
import Derived.Test.YthlpiiakpneiiaaDoorLxM
import Derived.Lib.IndexAny
import Derived.Lib.IndexLaws
import Derived.Lib.IndexBytes
import Derived.Lib.Strings
import GoSem.Op.String
namespace Go.Proofs.YthlpiiakpneiiaaDoor.M
open Go

theorem list_one {l : List UInt8} (h : l.length = 1) : ∃ c, l = [c] := by
  match l, h with
  | [c], _ => exact ⟨c, rfl⟩
theorem arr_one {s : ByteArray} (h : s.size = 1) : ∃ c : UInt8, s = ⟨#[c]⟩ := by
  obtain ⟨c, hc⟩ := list_one (l := s.data.toList) (by simpa using h)
  refine ⟨c, ?_⟩
  cases s with
  | mk d => cases d with
    | mk l => simp at hc; subst hc; rfl
theorem bt_one (c : UInt8) : bt [c] 0 = (c.toNat : Int) := rfl

theorem key_one (c : UInt8) : keyB [c] = false := by
  unfold keyB keys
  simp
theorem word_one (c : UInt8) : wordB [c] = false := by
  unfold wordB words
  simp
theorem small_one {s : ByteArray} (h : s.size = 1) : smallB s.data.toList = lowC (bt s.data.toList 0) := by
  obtain ⟨c, rfl⟩ := arr_one h
  simp [smallB, key_one, spell, bt]
theorem great_one {s : ByteArray} (h : s.size = 1) : greatB s.data.toList = upC (bt s.data.toList 0) := by
  obtain ⟨c, rfl⟩ := arr_one h
  simp [greatB, word_one, spell, bt]

/-- One byte of a text, cut out. -/
theorem piece_size (s : ByteArray) (k : Nat) (h : k < s.size) : (s.extract k (k + 1)).size = 1 := by
  simp
  omega
theorem piece_bt (s : ByteArray) (k : Nat) : bt (s.extract k (k + 1)).data.toList 0 = bt s.data.toList k := by
  unfold bt
  simp only [List.getD_eq_getElem?_getD, ByteArray.data_extract, Array.toList_extract, List.extract]
  rw [List.getElem?_take_of_lt (by omega), List.getElem?_drop]
  simp
theorem tail_list (s : ByteArray) (k : Nat) : (s.extract k s.size).data.toList = s.data.toList.drop k := Lib.extract_to_end s k
theorem tail_size (s : ByteArray) (k : Nat) : (s.extract k s.size).size = s.size - k := by
  simp

theorem line_iff (c : UInt8) : lineC (c.toNat : Int) = !(c == 10) := by
  unfold lineC
  congr 1
  rw [Bool.eq_iff_iff]
  simp [← UInt8.toNat_inj]
  omega
theorem bt_get (l : List UInt8) (j : Nat) (c : UInt8) (h : l[j]? = some c) : bt l j = (c.toNat : Int) := by
  unfold bt; rw [List.getD_eq_getElem?_getD, h]; rfl
theorem line_none (l : List UInt8) (k : Nat) (hk : k ≤ l.length) (h : Lib.indexByte (l.drop k) 10 = -1) : stop lineC l k = l.length := by
  refine stop_eq _ _ _ _ hk (Nat.le_refl _) (fun j h1 h2 => ?_) (.inl rfl)
  have := Lib.indexByte_none h (j - k)
  rw [List.getElem?_drop, show k + (j - k) = j by omega, List.getElem?_eq_getElem h2] at this
  rw [bt_get l j _ (List.getElem?_eq_getElem h2), line_iff]
  simpa using this
theorem line_some (l : List UInt8) (k o : Nat) (h : Lib.indexByte (l.drop k) 10 = o) : stop lineC l k = k + o ∧ k + o < l.length := by
  obtain ⟨h1, h2⟩ := Lib.indexByte_some h
  rw [List.getElem?_drop] at h1
  have hlt : k + o < l.length := by
    rcases Nat.lt_or_ge (k + o) l.length with a | a
    · exact a
    · rw [List.getElem?_eq_none a] at h1; cases h1
  refine ⟨stop_eq _ _ _ _ (by omega) (by omega) (fun j h3 h4 => ?_) (.inr ?_), hlt⟩
  · have := h2 (j - k) (by omega)
    rw [List.getElem?_drop, show k + (j - k) = j by omega, List.getElem?_eq_getElem (by omega)] at this
    rw [bt_get l j _ (List.getElem?_eq_getElem (by omega)), line_iff]
    simpa using this
  · rw [bt_get l _ _ h1, line_iff]; rfl
theorem index_cases (l : List UInt8) (c : UInt8) : Lib.indexByte l c = -1 ∨ ∃ o : Nat, Lib.indexByte l c = o := by
  have := Lib.indexByte_ge l c
  rcases Int.lt_or_le (Lib.indexByte l c) 0 with a | a
  · left; omega
  · right; exact ⟨(Lib.indexByte l c).toNat, by omega⟩

theorem pre_two (a b : UInt8) (hb : b ≠ 0) (ha : a ≠ 0) (l : List UInt8) : Lib.hasPrefix l [a, b] = (bt l 0 == (a.toNat : Int) && bt l 1 == (b.toNat : Int)) := by
  unfold Lib.hasPrefix bt
  have e : ∀ x y : UInt8, (x == y) = ((y.toNat : Int) == (x.toNat : Int)) := fun x y => by
    rw [Bool.eq_iff_iff]; simp [← UInt8.toNat_inj]; omega
  match l with
  | [] => simp [List.isPrefixOf]; intro h; exact absurd (UInt8.toNat_inj.1 (by simpa using h.symm)) ha
  | [x] => simp [List.isPrefixOf]; intro _ h; exact absurd (UInt8.toNat_inj.1 (by simpa using h.symm)) hb
  | x :: y :: r => simp [List.isPrefixOf, e a x, e b y]
theorem sign_iff (c : UInt8) : ([123, 125, 40, 41, 91, 93, 60, 62, 44, 58, 46, 61] : List UInt8).contains c = signC (c.toNat : Int) := by
  unfold signC signs
  rw [Bool.eq_iff_iff]
  simp [← UInt8.toNat_inj]
  omega

end Go.Proofs.YthlpiiakpneiiaaDoor.M
