/-
  Several texts in one.
-/
import Derived.Test.YteecgiebimdbhaaGreatDoorA0
import Derived.Lib.IndexBytes
import Derived.Lib.IndexAny
import Derived.Lib.IndexLaws
import Derived.Lib.Strings
import GoSem.Op.String
import Derived.WalkKit
import Derived.Below
import Derived.Deep.Draws
import Derived.Lib.Hide
import Derived.Lib.AppendIntMem
import Derived.Lib.ItoaLen
import Derived.Deep.RegionHeld3
import Derived.Deep.RegionWith
import Derived.IntWalk
import Derived.Laws.BitsLemmas
import Derived.Test.YteecgiebimdbhaaGreatDoorChecked
set_option maxHeartbeats 1000000
namespace Go.Proofs.YteecgiebimdbhaaGreatDoor.M
def keys : List (List UInt8) := [[97, 115], [97, 108, 105, 97, 115], [100, 101, 112], [104, 105, 100, 100, 101, 110], [105, 109, 112, 111, 114, 116], [105, 115], [109, 111, 100, 117, 108, 101], [111, 112, 97, 113, 117, 101], [112, 97, 99, 107, 97, 103, 101], [117, 115, 101], [118, 97, 108], [118, 101, 114, 115, 105, 111, 110]]
def words : List (List UInt8) := [[73, 110, 116], [84, 101, 120, 116], [66, 111, 111, 108], [76, 105, 115, 116]]
def keyB (l : List UInt8) : Bool := keys.contains l
def wordB (l : List UInt8) : Bool := words.contains l
def lowC (n : Int) : Bool := decide (97 <= n) && decide (n <= 122)
def upC (n : Int) : Bool := decide (65 <= n) && decide (n <= 90)
def digC (n : Int) : Bool := decide (48 <= n) && decide (n <= 57)
def lowDigC (n : Int) : Bool := lowC n || digC n
def anyC (n : Int) : Bool := lowC n || upC n || digC n
def bt (l : List UInt8) (j : Nat) : Int := ((l.getD j 0).toNat : Int)
def spell (f g : Int -> Bool) (l : List UInt8) : Bool := decide (0 < l.length) && decide (l.length <= 20) && f (bt l 0) && l.tail.all (fun c => g (c.toNat : Int))
def smallB (l : List UInt8) : Bool := spell lowC lowDigC l && !keyB l
def greatB (l : List UInt8) : Bool := spell upC anyC l && !wordB l
def letters (g : Int -> Bool) (l : List UInt8) : Bool := decide (0 < l.length) && decide (l.length <= 20) && l.all (fun c => g (c.toNat : Int))
theorem bt_eq (s : ByteArray) (k : Nat) (h : k < s.size) : (s[k].toNat : Int) = bt s.data.toList k := by
  unfold bt
  rw [List.getD_eq_getElem?_getD, List.getElem?_eq_getElem (by simpa using h)];rfl
theorem all_iff (g : Int -> Bool) (l : List UInt8) : l.all (fun c => g (c.toNat : Int)) = true ↔ ∀ j, j < l.length -> g (bt l j) = true := by
  rw [List.all_eq_true];constructor
  · intro h j hj
    have := h l[j] (List.getElem_mem hj)
    unfold bt
    rw [List.getD_eq_getElem?_getD, List.getElem?_eq_getElem hj];exact this
  · intro h c hc
    obtain ⟨j, hj, rfl⟩ := List.getElem_of_mem hc;have := h j hj
    unfold bt at this
    rw [List.getD_eq_getElem?_getD, List.getElem?_eq_getElem hj] at this;exact this
theorem bt_tail (l : List UInt8) (j : Nat) : bt l.tail j = bt l (j + 1) := by
  unfold bt
  cases l <;> simp
theorem spell_iff (f g : Int -> Bool) (l : List UInt8) : spell f g l = true ↔ 0 < l.length /\ l.length <= 20 /\ f (bt l 0) = true /\ ∀ j, 1 <= j -> j < l.length -> g (bt l j) = true := by
  unfold spell
  simp only [Bool.and_eq_true, decide_eq_true_eq, all_iff];constructor
  · rintro ⟨⟨⟨h0, h1⟩, h2⟩, h3⟩
    refine ⟨h0, h1, h2, fun j hj hl => ?_⟩;have := h3 (j - 1) (by simp; omega)
    rwa [bt_tail, show j - 1 + 1 = j by omega] at this
  · rintro ⟨h0, h1, h2, h3⟩
    refine ⟨⟨⟨h0, h1⟩, h2⟩, fun j hj => ?_⟩;rw [bt_tail];exact h3 (j + 1) (by omega) (by simp at hj; omega)
theorem letters_iff (g : Int -> Bool) (l : List UInt8) : letters g l = true ↔ 0 < l.length /\ l.length <= 20 /\ ∀ j, j < l.length -> g (bt l j) = true := by
  unfold letters
  simp only [Bool.and_eq_true, decide_eq_true_eq, all_iff, and_assoc]
theorem len_size (s : ByteArray) : s.data.toList.length = s.size := by simp
theorem spell_empty (f g : Int -> Bool) (s : ByteArray) (h : s.size = 0) : spell f g s.data.toList = false := by
  rw [Bool.eq_false_iff, ne_eq, spell_iff, len_size]; omega
theorem spell_long (f g : Int -> Bool) (s : ByteArray) (h : 20 < s.size) : spell f g s.data.toList = false := by
  rw [Bool.eq_false_iff, ne_eq, spell_iff, len_size]; omega
theorem spell_first (f g : Int -> Bool) (s : ByteArray) (h : f (bt s.data.toList 0) = false) : spell f g s.data.toList = false := by
  rw [Bool.eq_false_iff, ne_eq, spell_iff]; rintro ⟨-, -, a, -⟩; rw [h] at a; cases a
theorem spell_later (f g : Int -> Bool) (s : ByteArray) (k : Nat) (h1 : 1 <= k) (h2 : k < s.size) (h : g (bt s.data.toList k) = false) : spell f g s.data.toList = false := by
  rw [Bool.eq_false_iff, ne_eq, spell_iff, len_size]; rintro ⟨-, -, -, a⟩; rw [a k h1 h2] at h; cases h
theorem spell_all (f g : Int -> Bool) (s : ByteArray) (h0 : 0 < s.size) (h1 : s.size <= 20) (h2 : f (bt s.data.toList 0) = true) (h : ∀ j, 1 <= j -> j < s.size -> g (bt s.data.toList j) = true) : spell f g s.data.toList = true := by
  rw [spell_iff, len_size]; exact ⟨h0, h1, h2, h⟩
theorem letters_empty (g : Int -> Bool) (s : ByteArray) (h : s.size = 0) : letters g s.data.toList = false := by
  rw [Bool.eq_false_iff, ne_eq, letters_iff, len_size]; omega
theorem letters_long (g : Int -> Bool) (s : ByteArray) (h : 20 < s.size) : letters g s.data.toList = false := by
  rw [Bool.eq_false_iff, ne_eq, letters_iff, len_size]; omega
theorem letters_later (g : Int -> Bool) (s : ByteArray) (k : Nat) (h2 : k < s.size) (h : g (bt s.data.toList k) = false) : letters g s.data.toList = false := by
  rw [Bool.eq_false_iff, ne_eq, letters_iff, len_size]; rintro ⟨-, -, a⟩; rw [a k h2] at h; cases h
theorem letters_all (g : Int -> Bool) (s : ByteArray) (h0 : 0 < s.size) (h1 : s.size <= 20) (h : ∀ j, j < s.size -> g (bt s.data.toList j) = true) : letters g s.data.toList = true := by
  rw [letters_iff, len_size]; exact ⟨h0, h1, h⟩
theorem lowDig_low {n : Int} (h : lowDigC n = true) : lowC n = decide (97 <= n) := by
  unfold lowDigC lowC digC at *
  rw [Bool.eq_iff_iff];simp only [Bool.or_eq_true, Bool.and_eq_true, decide_eq_true_eq] at *;omega
theorem small_ref (l : List UInt8) (h : letters lowDigC l = true) : smallB l = (!keyB l && decide (97 <= bt l 0)) := by
  have hs : spell lowC lowDigC l = decide (97 <= bt l 0) := by
    obtain ⟨h0, h1, h2⟩ := (letters_iff _ _).1 h;rw [<- lowDig_low (h2 0 h0)];cases hf : lowC (bt l 0)
    · rw [Bool.eq_false_iff, ne_eq, spell_iff]; rintro ⟨-, -, a, -⟩; rw [hf] at a; cases a
    · rw [spell_iff]; exact ⟨h0, h1, hf, fun j _ hj => h2 j hj⟩
  unfold smallB
  rw [hs, Bool.and_comm]
theorem small_none (l : List UInt8) (h : letters lowDigC l = false) : smallB l = false := by
  have hs : spell lowC lowDigC l = false := by
    rw [Bool.eq_false_iff, ne_eq, spell_iff];rintro ⟨h0, h1, h2, h3⟩;rw [Bool.eq_false_iff, ne_eq, letters_iff] at h;refine h ⟨h0, h1, fun j hj => ?_⟩;rcases j with _ | j
    · unfold lowDigC; rw [h2]; rfl
    · exact h3 (j + 1) (by omega) hj
  unfold smallB
  rw [hs]; rfl
theorem great_ref (l : List UInt8) (h : letters anyC l = true) : spell upC anyC l = (decide (65 <= bt l 0) && decide (bt l 0 <= 90)) := by
  obtain ⟨h0, h1, h2⟩ := (letters_iff _ _).1 h;show _ = upC (bt l 0)
  cases hf : upC (bt l 0)
  · rw [Bool.eq_false_iff, ne_eq, spell_iff]; rintro ⟨-, -, a, -⟩; rw [hf] at a; cases a
  · rw [spell_iff]; exact ⟨h0, h1, hf, fun j _ hj => h2 j hj⟩
theorem great_none (l : List UInt8) (h : letters anyC l = false) : greatB l = false := by
  have hs : spell upC anyC l = false := by
    rw [Bool.eq_false_iff, ne_eq, spell_iff];rintro ⟨h0, h1, h2, h3⟩;rw [Bool.eq_false_iff, ne_eq, letters_iff] at h;refine h ⟨h0, h1, fun j hj => ?_⟩;rcases j with _ | j
    · unfold anyC; rw [h2]; simp
    · exact h3 (j + 1) (by omega) hj
  unfold greatB
  rw [hs]; rfl
end Go.Proofs.YteecgiebimdbhaaGreatDoor.M
namespace Go.Proofs.YteecgiebimdbhaaGreatDoor.M
def blankC (n : Int) : Bool := n == 32 || n == 9 || n == 10
def lineC (n : Int) : Bool := !(n == 10)
def signs : List Int := [123, 125, 40, 41, 91, 93, 60, 62, 44, 58, 46, 61]
def signC (n : Int) : Bool := signs.contains n
def stop (g : Int -> Bool) (l : List UInt8) (i : Nat) : Nat := i + ((l.drop i).takeWhile fun c => g (c.toNat : Int)).length
def twoC (a b : Int) : Bool := (a == 45 && b == 62) || (a == 46 && b == 46)
def item (l : List UInt8) (i : Nat) : Nat × Nat :=
  if blankC (bt l i) = true then (0, i + 1)
  else if bt l i = 35 then (0, stop lineC l (i + 1))
  else if lowC (bt l i) = true then (1, stop anyC l (i + 1))
  else if upC (bt l i) = true then (2, stop anyC l (i + 1))
  else if digC (bt l i) = true then (3, stop digC l (i + 1))
  else if twoC (bt l i) (bt l (i + 1)) = true then (4, i + 2)
  else if signC (bt l i) = true then (4, i + 1)
  else (5, i)
structure Tok where
  kind : Nat
  place : Nat
  text : ByteArray
def finN (s : ByteArray) : Nat -> Nat -> List Tok -> List Tok × Int
  | 0, _, acc => (acc, -1)
  | n + 1, i, acc =>
    if s.size <= i then (acc, -1)
    else if (item s.data.toList i).1 = 5 then ([], (i : Int))
    else if (item s.data.toList i).1 = 0 then finN s n (item s.data.toList i).2 acc
    else finN s n (item s.data.toList i).2 (acc ++ [⟨(item s.data.toList i).1, i, s.extract i (item s.data.toList i).2⟩])
def fin (s : ByteArray) (i : Nat) (acc : List Tok) : List Tok × Int := finN s (s.size - i) i acc
theorem bt_drop (l : List UInt8) (i j : Nat) : bt (l.drop i) j = bt l (i + j) := by
  unfold bt
  simp [List.getD_eq_getElem?_getD]
theorem bt_past (l : List UInt8) (j : Nat) (h : l.length <= j) : bt l j = 0 := by
  unfold bt
  rw [List.getD_eq_getElem?_getD, List.getElem?_eq_none h];rfl
theorem takeWhile_at (g : Int -> Bool) (l : List UInt8) (n : Nat) (hn : n <= l.length) (h : ∀ j, j < n -> g (bt l j) = true) (he : n = l.length \/ g (bt l n) = false) :
    (l.takeWhile fun c => g (c.toNat : Int)).length = n := by
  induction l generalizing n with
  | nil => simp at hn; subst hn; rfl
  | cons c r ih =>
    rcases n with _ | n
    · rcases he with he | he
      · simp at he
      · have : g (c.toNat : Int) = false := he
        simp [this]
    · have h0 : g (c.toNat : Int) = true := h 0 (by omega)
      have e : ∀ j, bt (c :: r) (j + 1) = bt r j := fun j => by unfold bt; simp
      have he' : n = r.length \/ g (bt r n) = false := by
        rw [<- e];rcases he with he | he
        · left; simpa using he
        · right; exact he
      rw [List.takeWhile_cons, if_pos h0, List.length_cons, ih n (by simpa using hn) (fun j hj => by rw [<- e]; exact h (j + 1) (by omega)) he']
theorem stop_eq (g : Int -> Bool) (l : List UInt8) (i k : Nat) (hi : i <= k) (hk : k <= l.length) (h : ∀ j, i <= j -> j < k -> g (bt l j) = true) (he : k = l.length \/ g (bt l k) = false) : stop g l i = k := by
  unfold stop
  rw [takeWhile_at g (l.drop i) (k - i) (by simp; omega) (fun j hj => by rw [bt_drop]; exact h _ (by omega) (by omega)) (by
    rcases he with he | he
    · left; simp; omega
    · right; rw [bt_drop, show i + (k - i) = k by omega]; exact he)]
  omega
theorem stop_ge (g : Int -> Bool) (l : List UInt8) (i : Nat) : i <= stop g l i := by unfold stop; omega
theorem stop_le (g : Int -> Bool) (l : List UInt8) (i : Nat) (h : i <= l.length) : stop g l i <= l.length := by
  unfold stop
  have := (List.takeWhile_sublist (fun c : UInt8 => g (c.toNat : Int)) (l := l.drop i)).length_le
  simp at this;omega
theorem stop_step (g : Int -> Bool) (l : List UInt8) (i : Nat) (h : i < l.length) (hg : g (bt l i) = true) : stop g l i = stop g l (i + 1) := by
  unfold stop
  rw [List.drop_eq_getElem_cons h, List.takeWhile_cons]
  have : g (l[i].toNat : Int) = true := by
    unfold bt at hg
    rwa [List.getD_eq_getElem?_getD, List.getElem?_eq_getElem h] at hg
  rw [if_pos this];simp;omega
theorem stop_drop (g : Int -> Bool) (l : List UInt8) (i j : Nat) : i + stop g (l.drop i) j = stop g l (i + j) := by
  unfold stop
  rw [List.drop_drop];omega
theorem item_drop (l : List UInt8) (i : Nat) : item l i = ((item (l.drop i) 0).1, i + (item (l.drop i) 0).2) := by
  unfold item
  simp only [bt_drop, Nat.add_zero, Nat.zero_add];have e : ∀ g, stop g l (i + 1) = i + stop g (l.drop i) 1 := fun g => (stop_drop g l i 1).symm
  simp only [e]
  (repeat' split) <;> simp
theorem item_gt (l : List UInt8) (i : Nat) (h : (item l i).1 ≠ 5) : i < (item l i).2 := by
  unfold item at *
  have h1 := stop_ge lineC l (i + 1);have h2 := stop_ge anyC l (i + 1);have h3 := stop_ge digC l (i + 1);revert h
  (repeat' split) <;> simp <;> omega
theorem item_le (l : List UInt8) (i : Nat) (hi : i < l.length) : (item l i).2 <= l.length := by
  unfold item
  have h1 := stop_le lineC l (i + 1) (by omega);have h2 := stop_le anyC l (i + 1) (by omega);have h3 := stop_le digC l (i + 1) (by omega)
  (repeat' split) <;> try (simp; omega)
  rename_i h
  have : i + 1 < l.length := by
    rcases Nat.lt_or_ge (i + 1) l.length with a | a
    · exact a
    · rw [bt_past l (i + 1) a] at h
      simp [twoC] at h
  simp; omega
theorem finN_same (s : ByteArray) : ∀ (n m i : Nat) (acc : List Tok), s.size - i <= n -> s.size - i <= m -> finN s n i acc = finN s m i acc
  | 0, 0, _, _, _, _ => rfl
  | 0, m + 1, i, acc, h, _ => by
    have : s.size <= i := by omega
    simp [finN, this]
  | n + 1, 0, i, acc, _, h => by
    have : s.size <= i := by omega
    simp [finN, this]
  | n + 1, m + 1, i, acc, h1, h2 => by
    unfold finN
    by_cases a : s.size <= i
    · simp [a]
    · by_cases b : (item s.data.toList i).1 = 5
      · simp [a, b]
      · have g := item_gt s.data.toList i b
        by_cases c : (item s.data.toList i).1 = 0
        · simp only [a, c, if_false, if_true]
          exact finN_same s n m _ _ (by omega) (by omega)
        · simp only [a, b, c, if_false]
          exact finN_same s n m _ _ (by omega) (by omega)
theorem fin_end (s : ByteArray) (i : Nat) (acc : List Tok) (h : s.size <= i) : fin s i acc = (acc, -1) := by
  unfold fin
  rw [show s.size - i = 0 by omega];rfl
theorem fin_step (s : ByteArray) (i : Nat) (acc : List Tok) (h : i < s.size) :
    fin s i acc = if (item s.data.toList i).1 = 5 then ([], (i : Int)) else if (item s.data.toList i).1 = 0 then fin s (item s.data.toList i).2 acc
      else fin s (item s.data.toList i).2 (acc ++ [⟨(item s.data.toList i).1, i, s.extract i (item s.data.toList i).2⟩]) := by
  have e : s.size - i = (s.size - i - 1) + 1 := by omega
  unfold fin
  rw [e];conv => lhs; unfold finN
  rw [if_neg (by omega)];by_cases b : (item s.data.toList i).1 = 5
  · simp [b]
  · have g := item_gt s.data.toList i b
    by_cases c : (item s.data.toList i).1 = 0
    · simp only [c, if_true]
      rw [if_neg (by omega), if_neg (by omega)];exact finN_same s _ _ _ _ (by omega) (by omega)
    · simp only [b, c, if_false]
      exact finN_same s _ _ _ _ (by omega) (by omega)
theorem fin_skip {s : ByteArray} {i k : Nat} (acc : List Tok) (h : i < s.size) (e : item s.data.toList i = (0, k)) : fin s i acc = fin s k acc := by
  rw [fin_step s i acc h, e]; simp
theorem fin_bad {s : ByteArray} {i k : Nat} (acc : List Tok) (h : i < s.size) (e : item s.data.toList i = (5, k)) : fin s i acc = ([], (i : Int)) := by
  rw [fin_step s i acc h, e]; simp
theorem fin_tok {s : ByteArray} {i k c : Nat} (acc : List Tok) (h : i < s.size) (e : item s.data.toList i = (c, k)) (c0 : c ≠ 0) (c5 : c ≠ 5) : fin s i acc = fin s k (acc ++ [⟨c, i, s.extract i k⟩]) := by
  rw [fin_step s i acc h, e]; simp [c0, c5]
theorem fin_at (s : ByteArray) (n : Nat) : ∀ (i : Nat) (acc : List Tok), s.size - i <= n -> (fin s i acc).2 = -1 \/ ∃ k : Nat, k < s.size /\ fin s i acc = ([], (k : Int)) := by
  induction n with
  | zero => intro i acc h; left; rw [fin_end s i acc (by omega)]
  | succ n ih =>
    intro i acc h;rcases Nat.lt_or_ge i s.size with a | a
    · rw [fin_step s i acc a]
      by_cases b : (item s.data.toList i).1 = 5
      · right; exact ⟨i, a, by simp [b]⟩
      · have g := item_gt s.data.toList i b
        by_cases c : (item s.data.toList i).1 = 0
        · simp only [c, if_true]
          rw [if_neg (by omega)];exact ih _ _ (by omega)
        · simp only [b, c, if_false]
          exact ih _ _ (by omega)
    · left; rw [fin_end s i acc a]
end Go.Proofs.YteecgiebimdbhaaGreatDoor.M
namespace Go.Proofs.YteecgiebimdbhaaGreatDoor.M
open Go
theorem list_one {l : List UInt8} (h : l.length = 1) : ∃ c, l = [c] := by
  match l, h with
  | [c], _ => exact ⟨c, rfl⟩
theorem arr_one {s : ByteArray} (h : s.size = 1) : ∃ c : UInt8, s = ⟨#[c]⟩ := by
  obtain ⟨c, hc⟩ := list_one (l := s.data.toList) (by simpa using h);refine ⟨c, ?_⟩;cases s with
  | mk d => cases d with
    | mk l => simp at hc; subst hc; rfl
theorem bt_one (c : UInt8) : bt [c] 0 = (c.toNat : Int) := rfl
theorem key_one (c : UInt8) : keyB [c] = false := by
  unfold keyB keys
  simp
theorem word_one (c : UInt8) : wordB [c] = false := by
  unfold wordB words
  simp
theorem small_one {s : ByteArray} (h : s.size = 1) : smallB s.data.toList = lowC (bt s.data.toList 0) := by
  obtain ⟨c, rfl⟩ := arr_one h;simp [smallB, key_one, spell, bt]
theorem great_one {s : ByteArray} (h : s.size = 1) : greatB s.data.toList = upC (bt s.data.toList 0) := by
  obtain ⟨c, rfl⟩ := arr_one h;simp [greatB, word_one, spell, bt]
theorem piece_size (s : ByteArray) (k : Nat) (h : k < s.size) : (s.extract k (k + 1)).size = 1 := by
  simp;omega
theorem piece_bt (s : ByteArray) (k : Nat) : bt (s.extract k (k + 1)).data.toList 0 = bt s.data.toList k := by
  unfold bt
  simp only [List.getD_eq_getElem?_getD, ByteArray.data_extract, Array.toList_extract, List.extract];rw [List.getElem?_take_of_lt (by omega), List.getElem?_drop];simp
theorem tail_list (s : ByteArray) (k : Nat) : (s.extract k s.size).data.toList = s.data.toList.drop k := Lib.extract_to_end s k
theorem tail_size (s : ByteArray) (k : Nat) : (s.extract k s.size).size = s.size - k := by
  simp
theorem line_iff (c : UInt8) : lineC (c.toNat : Int) = !(c == 10) := by
  unfold lineC
  congr 1
  rw [Bool.eq_iff_iff];simp [<- UInt8.toNat_inj];omega
theorem bt_get (l : List UInt8) (j : Nat) (c : UInt8) (h : l[j]? = some c) : bt l j = (c.toNat : Int) := by
  unfold bt; rw [List.getD_eq_getElem?_getD, h]; rfl
theorem line_none (l : List UInt8) (k : Nat) (hk : k <= l.length) (h : Lib.indexByte (l.drop k) 10 = -1) : stop lineC l k = l.length := by
  refine stop_eq _ _ _ _ hk (Nat.le_refl _) (fun j h1 h2 => ?_) (.inl rfl);have := Lib.indexByte_none h (j - k)
  rw [List.getElem?_drop, show k + (j - k) = j by omega, List.getElem?_eq_getElem h2] at this;rw [bt_get l j _ (List.getElem?_eq_getElem h2), line_iff];simpa using this
theorem line_some (l : List UInt8) (k o : Nat) (h : Lib.indexByte (l.drop k) 10 = o) : stop lineC l k = k + o /\ k + o < l.length := by
  obtain ⟨h1, h2⟩ := Lib.indexByte_some h;rw [List.getElem?_drop] at h1
  have hlt : k + o < l.length := by
    rcases Nat.lt_or_ge (k + o) l.length with a | a
    · exact a
    · rw [List.getElem?_eq_none a] at h1; cases h1
  refine ⟨stop_eq _ _ _ _ (by omega) (by omega) (fun j h3 h4 => ?_) (.inr ?_), hlt⟩
  · have := h2 (j - k) (by omega)
    rw [List.getElem?_drop, show k + (j - k) = j by omega, List.getElem?_eq_getElem (by omega)] at this;rw [bt_get l j _ (List.getElem?_eq_getElem (by omega)), line_iff];simpa using this
  · rw [bt_get l _ _ h1, line_iff]; rfl
theorem index_cases (l : List UInt8) (c : UInt8) : Lib.indexByte l c = -1 \/ ∃ o : Nat, Lib.indexByte l c = o := by
  have := Lib.indexByte_ge l c
  rcases Int.lt_or_le (Lib.indexByte l c) 0 with a | a
  · left; omega
  · right; exact ⟨(Lib.indexByte l c).toNat, by omega⟩
theorem pre_two (a b : UInt8) (hb : b ≠ 0) (ha : a ≠ 0) (l : List UInt8) : Lib.hasPrefix l [a, b] = (bt l 0 == (a.toNat : Int) && bt l 1 == (b.toNat : Int)) := by
  unfold Lib.hasPrefix bt
  have e : ∀ x y : UInt8, (x == y) = ((y.toNat : Int) == (x.toNat : Int)) := fun x y => by
    rw [Bool.eq_iff_iff]; simp [<- UInt8.toNat_inj]; omega
  match l with
  | [] => simp [List.isPrefixOf]; intro h; exact absurd (UInt8.toNat_inj.1 (by simpa using h.symm)) ha
  | [x] => simp [List.isPrefixOf]; intro _ h; exact absurd (UInt8.toNat_inj.1 (by simpa using h.symm)) hb
  | x :: y :: r => simp [List.isPrefixOf, e a x, e b y]
theorem sign_iff (c : UInt8) : ([123, 125, 40, 41, 91, 93, 60, 62, 44, 58, 46, 61] : List UInt8).contains c = signC (c.toNat : Int) := by
  unfold signC signs
  rw [Bool.eq_iff_iff];simp [<- UInt8.toNat_inj];omega
end Go.Proofs.YteecgiebimdbhaaGreatDoor.M
namespace Go.Proofs.YteecgiebimdbhaaGreatDoor.M
inductive Ty where
  | mk (kind : Int) (pkg : ByteArray) (major : Int) (mod name : ByteArray) (names : List ByteArray) (subs : List Ty)
namespace Ty
def kind : Ty -> Int | mk k _ _ _ _ _ _ => k
def pkg : Ty -> ByteArray | mk _ p _ _ _ _ _ => p
def major : Ty -> Int | mk _ _ m _ _ _ _ => m
def mod : Ty -> ByteArray | mk _ _ _ m _ _ _ => m
def name : Ty -> ByteArray | mk _ _ _ _ n _ _ => n
def names : Ty -> List ByteArray | mk _ _ _ _ _ n _ => n
def subs : Ty -> List Ty | mk _ _ _ _ _ _ s => s
end Ty
mutual
def many : Ty -> Nat
  | .mk _ _ _ _ _ _ subs => 1 + manyL subs
def manyL : List Ty -> Nat
  | [] => 0
  | t :: r => many t + manyL r
end
mutual
def deep : Ty -> Nat
  | .mk _ _ _ _ _ _ subs => deepL subs + 1
def deepL : List Ty -> Nat
  | [] => 0
  | t :: r => max (deep t) (deepL r)
end
mutual
def plainT : Ty -> Bool
  | .mk k _ _ _ _ _ subs => !(k == 8) && plainL subs
def plainL : List Ty -> Bool
  | [] => true
  | t :: r => plainT t && plainL r
end
mutual
def fewT : Ty -> Int -> Int
  | .mk _ _ _ _ _ names subs, most => if most - 1 < 0 \/ 200 < names.length then -1 else fewL subs (most - 1)
def fewL : List Ty -> Int -> Int
  | [], most => most
  | t :: r, most => if 0 <= most then fewL r (fewT t most) else most
end
theorem many_pos (t : Ty) : 1 <= many t := by cases t; simp [many]
mutual
theorem few_bd : ∀ (t : Ty) (most : Int), -1 <= most -> -1 <= fewT t most /\ fewT t most <= max most (-1)
  | .mk k p m d n names subs, most, h => by
    unfold fewT
    split
    · omega
    · rename_i hc
      have := fewL_bd subs (most - 1) (by omega)
      omega
theorem fewL_bd : ∀ (l : List Ty) (most : Int), -1 <= most -> -1 <= fewL l most /\ fewL l most <= most
  | [], most, h => by unfold fewL; omega
  | t :: r, most, h => by
    unfold fewL
    split
    · have a := few_bd t most h
      have b := fewL_bd r (fewT t most) a.1;omega
    · omega
end
theorem fewL_neg (l : List Ty) (most : Int) (h : most < 0) : fewL l most = most := by
  cases l with
  | nil => rfl
  | cons t r => unfold fewL; rw [if_neg (by omega)]
mutual
theorem few_many : ∀ (t : Ty) (most : Int), 0 <= fewT t most -> fewT t most = most - many t
  | .mk k p m d n names subs, most, h => by
    unfold fewT at h ⊢
    split at h
    · omega
    · rename_i hc
      rw [if_neg hc];have := fewL_many subs (most - 1) h
      rw [this]; unfold many; omega
theorem fewL_many : ∀ (l : List Ty) (most : Int), 0 <= fewL l most -> fewL l most = most - manyL l
  | [], most, _ => by unfold fewL manyL; omega
  | t :: r, most, h => by
    unfold fewL at h ⊢
    split at h
    · rename_i hc
      rw [if_pos hc]
      have a : 0 <= fewT t most := by
        rcases Int.lt_or_le (fewT t most) 0 with b | b
        · rw [fewL_neg _ _ b] at h; omega
        · exact b
      have b := few_many t most a;have c := fewL_many r (fewT t most) h;rw [c, b, show manyL (t :: r) = many t + manyL r from rfl]; omega
    · omega
end
theorem manyL_mem : ∀ (l : List Ty) (t : Ty), t ∈ l -> many t <= manyL l
  | a :: r, t, h => by
    unfold manyL
    rcases List.mem_cons.1 h with rfl | h
    · omega
    · have := manyL_mem r t h; omega
theorem manyL_len : ∀ l : List Ty, l.length <= manyL l
  | [] => by simp
  | t :: r => by
    have := many_pos t
    have := manyL_len r
    unfold manyL; simp only [List.length_cons]; omega
theorem manyL_append : ∀ (a b : List Ty), manyL (a ++ b) = manyL a + manyL b
  | [], b => by simp [manyL]
  | t :: r, b => by
    have := manyL_append r b
    simp only [List.cons_append, manyL, this]; omega
theorem manyL_take (l : List Ty) (k : Nat) (t : Ty) (h : l[k]? = some t) : manyL (l.take (k + 1)) = manyL (l.take k) + many t := by
  rw [List.take_add_one, h, manyL_append];simp [manyL]
theorem manyL_take_le (l : List Ty) (k : Nat) : manyL (l.take k) <= manyL l := by
  conv => rhs; rw [<- List.take_append_drop k l, manyL_append]
  omega
end Go.Proofs.YteecgiebimdbhaaGreatDoor.M
namespace Go.Proofs.YteecgiebimdbhaaGreatDoor.M
open Go
def leS (a b : ByteArray) : Bool := Op.bytesLess a.toList b.toList || a.toList == b.toList
def nameAt (l : List ByteArray) (i : Nat) : ByteArray := l.getD i ⟨#[]⟩
def badName (kind : Int) (names : List ByteArray) (i : Nat) : Bool :=
  (kind == 5 && !smallB (nameAt names i).data.toList) || (kind == 6 && !greatB (nameAt names i).data.toList) || (decide (0 < i) && leS (nameAt names i) (nameAt names (i - 1)))
def namesOk (kind : Int) (names : List ByteArray) : Bool := (List.range names.length).all fun i => !badName kind names i
def emptyB (s : ByteArray) : Bool := decide (s.size = 0)
def noMore (t : Ty) : Bool := emptyB t.pkg && (t.major == 0) && emptyB t.mod && emptyB t.name
def shapeOk (t : Ty) : Bool :=
  if t.kind = 1 \/ t.kind = 2 \/ t.kind = 3 then noMore t && decide (t.subs.length = 0) && decide (t.names.length = 0)
  else if t.kind = 4 then noMore t && decide (t.subs.length = 1) && decide (t.names.length = 0)
  else if t.kind = 5 then noMore t && decide (t.subs.length = t.names.length)
  else if t.kind = 6 then noMore t && decide (t.subs.length = t.names.length) && decide (0 < t.subs.length)
  else if t.kind = 7 then noMore t && decide (0 < t.subs.length) && decide (t.names.length = 0)
  else if t.kind = 8 then decide (t.subs.length = 0) && decide (t.names.length = 0) && emptyB t.pkg && (t.major == 0) && greatB t.name.data.toList && (smallB t.mod.data.toList || emptyB t.mod)
  else if t.kind = 9 then decide (t.subs.length = 0) && decide (t.names.length = 0) && smallB t.pkg.data.toList && smallB t.mod.data.toList && greatB t.name.data.toList && decide (1 <= t.major) && decide (t.major <= 999999999)
  else false
def ownOk (t : Ty) : Bool := decide (t.subs.length <= 20) && namesOk t.kind t.names && shapeOk t
mutual
def allOk : Ty -> Bool
  | .mk k p m d n names subs => ownOk (.mk k p m d n names subs) && allOkL subs
def allOkL : List Ty -> Bool
  | [] => true
  | t :: r => allOk t && allOkL r
end
def mayT (t : Ty) : Bool := allOk t && decide (many t <= 500) && decide (deep t <= 32)
theorem allOk_eq (t : Ty) : allOk t = (ownOk t && allOkL t.subs) := by cases t; rfl
theorem allOkL_mem : ∀ (l : List Ty), allOkL l = true ↔ ∀ t ∈ l, allOk t = true
  | [] => by simp [allOkL]
  | t :: r => by simp [allOkL, allOkL_mem r]
theorem namesOk_iff (kind : Int) (names : List ByteArray) : namesOk kind names = true ↔ ∀ i, i < names.length -> badName kind names i = false := by
  unfold namesOk
  simp [List.all_eq_true]
theorem own_long {t : Ty} (h : 20 < t.subs.length) : ownOk t = false := by
  unfold ownOk
  rw [show decide (t.subs.length <= 20) = false by simp; omega]; rfl
theorem own_bad {t : Ty} {i : Nat} (hi : i < t.names.length) (h : badName t.kind t.names i = true) : ownOk t = false := by
  have : namesOk t.kind t.names = false := by
    rw [Bool.eq_false_iff, ne_eq, namesOk_iff];intro a;have := a i hi
    rw [h] at this; cases this
  unfold ownOk
  rw [this]; simp
theorem own_good {t : Ty} (h : t.subs.length <= 20) (hn : ∀ i, i < t.names.length -> badName t.kind t.names i = false) : ownOk t = shapeOk t := by
  unfold ownOk
  rw [(namesOk_iff _ _).2 hn, show decide (t.subs.length <= 20) = true by simpa using h]; simp
end Go.Proofs.YteecgiebimdbhaaGreatDoor.M
namespace Go.Proofs.YteecgiebimdbhaaGreatDoor
open Go.RowKit
theorem bcell {W w1 : World} (hb : Below W.heap.size W w1) : (∀ b o, b < W.heap.size -> w1.cell? ⟨b, o, none⟩ = W.cell? ⟨b, o, none⟩) /\ (∀ b o, b < W.heap.size -> w1.frozen? ⟨b, o, none⟩ = W.frozen? ⟨b, o, none⟩) :=
  ⟨fun b o h => hb.cell (p := ⟨b, o, none⟩) h, fun b o h => hb.frozen (p := ⟨b, o, none⟩) h⟩
theorem hid_or (b : Bool) : Hid (b = false) \/ Hid (b = true) := by cases b; exact .inl rfl; exact .inr rfl
theorem ret_bool {a b : Bool} (h : b = a) : Ending.returned (.bool a) = .returned (.bool b) := by rw [h]
theorem below_over {w W w1 : World} (h : Below w.heap.size w W) (hb : Below W.heap.size W w1) : Below w.heap.size w w1 := h.trans (hb.mono h.size)
theorem below_new {w W : World} (h : Below w.heap.size w W) (o : Obj) : Below w.heap.size w (W.alloc o) := h.alloc h.size o
theorem below_put {w W : World} (h : Below w.heap.size w W) {a : Addr} (ha : w.heap.size <= a.block) (v : Value) : Below w.heap.size w (W.setCell a v) := h.setCell ha v
theorem below_drewN {B : Nat} {a w : World} (h : Below B a w) (n : Nat) : Below B a (w.drewN n) := h.trans ⟨rfl, rfl, rfl, Nat.le_refl _, fun _ _ => rfl⟩
theorem upto_step {P : Nat -> Bool} {b k : Nat} (h : ∀ j, b <= j -> j < k -> P j = true) (hk : P k = true) : ∀ j, b <= j -> j < k + 1 -> P j = true := fun j a c => by
  rcases Nat.lt_or_ge j k with d | d
  · exact h j a d
  · rw [show j = k by omega]; exact hk
def dec (n : Int) : ByteArray := ⟨(Lib.decDigits n.toNat).toArray⟩
theorem dec_size (n : Int) (h0 : 0 <= n) (h1 : n <= 9223372036854775807) : (dec n).size <= 20 := by
  unfold dec
  rw [Lib.size_eq, List.toList_toArray, Lib.decDigits_length];exact Lib.nDigits_le20 _ (by omega)
def byteOf (x : Int) : UInt8 := UInt8.ofNat x.toNat
theorem dec_small (n : Int) (h0 : 0 <= n) (h1 : n < 10) : dec n = ⟨#[byteOf (48 + n)]⟩ := by
  unfold dec byteOf
  rw [show (48 + n).toNat = 48 + n.toNat by omega];rw [Lib.decDigits, dif_pos (by omega)]
theorem dec_big (n : Int) (h1 : 10 <= n) : dec n = dec (n / 10) ++ ⟨#[byteOf (48 + n % 10)]⟩ := by
  unfold dec byteOf
  rw [show (48 + n % 10).toNat = 48 + (n % 10).toNat by omega];rw [Lib.decDigits, dif_neg (by omega), show n.toNat / 10 = (n / 10).toNat by omega, show n.toNat % 10 = (n % 10).toNat by omega];exact (ByteArray.mk_append_mk _ _).symm
theorem conv_one (x : Int) (W : World) (b : Nat) (h : W.cell? ⟨b, 0, none⟩ = some (.int .u8 x)) :
    (convert 62 9 (.slice (some ⟨b, 0, none⟩) 1 1)).run Tryz.prog W = .ok (.string ⟨#[byteOf x]⟩) W :=
  run_convert_bytes_arg W 62 5 Tryz.underlying62 Tryz.underlying5 b 0 1 1 [x] rfl (fun i hi => by
    obtain rfl : i = 0 := by omega
    exact h) 9 Tryz.underlying9
theorem digits_small (n : Int) (w : World) (h0 : 0 <= n) (h1 : n < 10) :
    Calls Tryz.prog 32 #[.int .i64 n] w fun e w' => e = .returned (.string (dec n)) /\ Below w.heap.size w w' := by
  rw [dec_small n h0 h1];have k := conv_one (48 + n);go_enter Tryz.func32, Tryz.ntmps32
  go_wp2
  go_ret;refine ⟨rfl, ?_⟩;repeat (first | exact Below.refl _ _ | refine Below.drew ?_ | refine below_drewN ?_ _ | refine below_new ?_ _ | refine below_put ?_ (by simp; omega) _ | refine below_over ?_ (by assumption))
theorem digits_step (n : Int) (w : World) (h0 : 10 <= n) (h1 : n <= 9223372036854775807)
    (ih : ∀ w : World, Calls Tryz.prog 32 #[.int .i64 (n / 10)] w fun e w' => e = .returned (.string (dec (n / 10))) /\ Below w.heap.size w w') :
    Calls Tryz.prog 32 #[.int .i64 n] w fun e w' => e = .returned (.string (dec n)) /\ Below w.heap.size w w' := by
  have D := hZ (dec_big n h0);have IH := hZ ih; clear ih
  have z := dec_size (n / 10) (by omega) (by omega);have n1 : ¬ ((dec (n / 10)).size + 1 > 9223372036854775807) := by omega
  have hq : IntKind.i64.wrap (n.tdiv 10) = n / 10 := by rw [Int.tdiv_eq_ediv_of_nonneg (by omega)]; exact IntWalk.i64_in _ (by omega)
  have hr : n.tmod 10 = n % 10 := Int.tmod_eq_emod_of_nonneg (by omega);have hs : IntKind.i64.wrap (48 + n % 10) = 48 + n % 10 := IntWalk.i64_in _ (by omega);have hs8 : IntKind.u8.wrap (48 + n % 10) = 48 + n % 10 := IntWalk.u8_in _ (by omega);have m0 : 0 <= n % 10 := by omega
  have m1 : n % 10 < 10 := by omega
  have k := conv_one (48 + n % 10);go_enter Tryz.func32, Tryz.ntmps32
  go_wp2_with fail
  go_region_with (go_at_call 32; refine (IH.out _).mono ?_; rintro e w1 ⟨rfl, hbw⟩; obtain ⟨hcw, hfw⟩ := bcell hbw)
  all_goals
    go_wp2
    go_ret;rw [D.out];refine ⟨rfl, ?_⟩;repeat (first | exact Below.refl _ _ | refine Below.drew ?_ | refine below_drewN ?_ _ | refine below_new ?_ _ | refine below_put ?_ (by simp; omega) _ | refine below_over ?_ (by assumption))
theorem digits_nat : ∀ (m : Nat) (n : Int) (w : World), n.toNat < m -> 0 <= n -> n <= 9223372036854775807 ->
    Calls Tryz.prog 32 #[.int .i64 n] w fun e w' => e = .returned (.string (dec n)) /\ Below w.heap.size w w'
  | 0, n, w, h, _, _ => by omega
  | m + 1, n, w, h, h0, h1 => by
    by_cases hs : n < 10
    · exact digits_small n w h0 hs
    · exact digits_step n w (by omega) h1 (fun w => digits_nat m (n / 10) w (by omega) (by omega) (by omega))
theorem digits_any (n : Int) (w : World) (h0 : 0 <= n) (h1 : n <= 9223372036854775807) :
    Calls Tryz.prog 32 #[.int .i64 n] w fun e w' => e = .returned (.string (dec n)) /\ Below w.heap.size w w' :=
  digits_nat (n.toNat + 1) n w (by omega) h0 h1
end Go.Proofs.YteecgiebimdbhaaGreatDoor
namespace Go.Proofs.YteecgiebimdbhaaGreatDoor.M
def rowOf (L : List (List UInt8)) (ns : List ByteArray) : Nat -> List UInt8
  | 0 => []
  | k + 1 => (if 0 < k then rowOf L ns k ++ [44, 32] else rowOf L ns k) ++ (if 0 < ns.length then (nameAt ns k).data.toList ++ [58, 32] else []) ++ L.getD k []
def kindText (k : Int) (p : ByteArray) (m : Int) (d n : ByteArray) (ns : List ByteArray) (L : List (List UInt8)) : List UInt8 :=
  if k = 1 then [73, 110, 116]
  else if k = 2 then [84, 101, 120, 116]
  else if k = 3 then [66, 111, 111, 108]
  else if k = 4 then [76, 105, 115, 116, 40] ++ L.getD 0 [] ++ [41]
  else if k = 5 then [123] ++ rowOf L ns L.length ++ [125]
  else if k = 6 then [91] ++ rowOf L ns L.length ++ [93]
  else if k = 7 then [40] ++ rowOf L [] (L.length - 1) ++ [41, 32, 45, 62, 32] ++ L.getD (L.length - 1) []
  else if k = 9 then [60] ++ p.data.toList ++ [32] ++ (dec m).data.toList ++ [32] ++ d.data.toList ++ [32] ++ n.data.toList ++ [62]
  else if d.size = 0 then n.data.toList
  else d.data.toList ++ [46] ++ n.data.toList
mutual
def textT : Ty -> List UInt8
  | .mk k p m d n ns ss => kindText k p m d n ns (textsT ss)
def textsT : List Ty -> List (List UInt8)
  | [] => []
  | t :: r => textT t :: textsT r
end
theorem textT_eq (t : Ty) : textT t = kindText t.kind t.pkg t.major t.mod t.name t.names (textsT t.subs) := by cases t; rfl
theorem textsT_len : ∀ l : List Ty, (textsT l).length = l.length
  | [] => rfl
  | t :: r => by simp [textsT, textsT_len r]
theorem textsT_at : ∀ (l : List Ty) (i : Nat) (t : Ty), l[i]? = some t -> (textsT l).getD i [] = textT t
  | [], i, t, h => by simp at h
  | a :: r, 0, t, h => by simp at h; subst h; rfl
  | a :: r, i + 1, t, h => by
    have := textsT_at r i t (by simpa using h)
    simpa [textsT] using this
theorem spell_len {f g : Int -> Bool} {s : ByteArray} (h : spell f g s.data.toList = true) : s.size <= 20 := by
  have := ((spell_iff _ _ _).1 h).2.1
  rwa [len_size] at this
theorem small_len {s : ByteArray} (h : smallB s.data.toList = true) : s.size <= 20 := by
  unfold smallB at h
  simp only [Bool.and_eq_true] at h;exact spell_len h.1
theorem great_len {s : ByteArray} (h : greatB s.data.toList = true) : s.size <= 20 := by
  unfold greatB at h
  simp only [Bool.and_eq_true] at h;exact spell_len h.1
theorem own_names {t : Ty} (h : ownOk t = true) (i : Nat) (hi : i < t.names.length) : (nameAt t.names i).size <= 20 := by
  unfold ownOk at h
  simp only [Bool.and_eq_true] at h;obtain ⟨⟨-, hn⟩, hs⟩ := h;have hb := (namesOk_iff _ _).1 hn i hi;unfold badName at hb
  simp only [Bool.or_eq_false_iff, Bool.and_eq_false_iff, Bool.not_eq_false'] at hb;obtain ⟨⟨h5, h6⟩, -⟩ := hb;by_cases k5 : t.kind = 5
  · rcases h5 with h5 | h5
    · rw [k5] at h5; cases h5
    · exact small_len h5
  by_cases k6 : t.kind = 6
  · rcases h6 with h6 | h6
    · rw [k6] at h6; cases h6
    · exact great_len h6
  exfalso
  unfold shapeOk at hs
  simp only [k5, k6, if_false] at hs;have h0 : t.names.length ≠ 0 := by omega
  (repeat' split at hs) <;> simp_all
theorem row_len (l : List Ty) (ns : List ByteArray) (hl : ∀ s, s ∈ l -> (textT s).length + 24 <= 124 * many s) (hn : ∀ i, i < ns.length -> (nameAt ns i).size <= 20) :
    ∀ k, k <= l.length -> (rowOf (textsT l) ns k).length <= 124 * manyL (l.take k) := by
  intro k;induction k with
  | zero => intro _; simp [rowOf]
  | succ k ih =>
    intro hk;have a := ih (by omega);obtain ⟨s, hs⟩ : ∃ s, l[k]? = some s := ⟨_, List.getElem?_eq_getElem (by omega)⟩;have b := hl s (List.mem_of_getElem? hs)
    have c : (nameAt ns k).size <= 20 := by
      rcases Nat.lt_or_ge k ns.length with h | h
      · exact hn k h
      · unfold nameAt; rw [List.getD_eq_getElem?_getD, List.getElem?_eq_none h]; exact Nat.zero_le _
    have d := len_size (nameAt ns k);rw [manyL_take l k _ hs];unfold rowOf
    rw [textsT_at l k _ hs];split <;> split <;> simp only [List.length_append, List.length_cons, List.length_nil, d] <;> omega
theorem getD_len (l : List Ty) (k : Nat) (hk : k < l.length) (hl : ∀ s, s ∈ l -> (textT s).length + 24 <= 124 * many s) : ((textsT l).getD k []).length + 24 + 124 * manyL (l.take k) <= 124 * manyL l := by
  obtain ⟨s, hs⟩ : ∃ s, l[k]? = some s := ⟨_, List.getElem?_eq_getElem hk⟩;have b := hl s (List.mem_of_getElem? hs);have c := manyL_take l k _ hs;have d := manyL_take_le l (k + 1);rw [textsT_at l k _ hs];omega
theorem own_len (t : Ty) (ho : ownOk t = true) (hl : ∀ s, s ∈ t.subs -> (textT s).length + 24 <= 124 * many s) : (textT t).length + 24 <= 124 * many t := by
  have hN := own_names ho;have hm : many t = 1 + manyL t.subs := by cases t; rfl
  have hr := row_len t.subs t.names hl hN;have hr0 := row_len t.subs [] hl (fun i hi => by simp at hi);have htk : manyL (t.subs.take t.subs.length) = manyL t.subs := by rw [List.take_of_length_le (Nat.le_refl _)]
  have hLl := textsT_len t.subs
  have hs : shapeOk t = true := by
    unfold ownOk at ho
    simp only [Bool.and_eq_true] at ho;exact ho.2
  rw [textT_eq];unfold kindText
  rw [hLl];by_cases k1 : t.kind = 1
  · simp [k1]; omega
  by_cases k2 : t.kind = 2
  · simp [k2]; omega
  by_cases k3 : t.kind = 3
  · simp [k3]; omega
  rw [if_neg k1, if_neg k2, if_neg k3];unfold shapeOk at hs
  rw [if_neg (by omega)] at hs;by_cases k4 : t.kind = 4
  · rw [if_pos k4] at hs ⊢
    simp only [Bool.and_eq_true, decide_eq_true_eq] at hs;have := getD_len t.subs 0 (by omega) hl
    simp only [List.length_append, List.length_cons, List.length_nil];omega
  rw [if_neg k4] at hs ⊢;by_cases k5 : t.kind = 5
  · rw [if_pos k5]
    have := hr t.subs.length (Nat.le_refl _)
    simp only [List.length_append, List.length_cons, List.length_nil];omega
  rw [if_neg k5] at hs ⊢;by_cases k6 : t.kind = 6
  · rw [if_pos k6]
    have := hr t.subs.length (Nat.le_refl _)
    simp only [List.length_append, List.length_cons, List.length_nil];omega
  rw [if_neg k6] at hs ⊢;by_cases k7 : t.kind = 7
  · rw [if_pos k7] at hs ⊢
    simp only [Bool.and_eq_true, decide_eq_true_eq] at hs;have a := hr0 (t.subs.length - 1) (by omega);have b := getD_len t.subs (t.subs.length - 1) (by omega) hl;simp only [List.length_append, List.length_cons, List.length_nil];omega
  rw [if_neg k7] at hs ⊢;by_cases k8 : t.kind = 8
  · rw [if_pos k8] at hs
    simp only [Bool.and_eq_true, Bool.or_eq_true] at hs;have a := great_len hs.1.2
    have b : t.mod.size <= 20 := by
      rcases hs.2 with h | h
      · exact small_len h
      · have : t.mod.size = 0 := by simpa [emptyB] using h
        omega
    have c := len_size t.mod;have d := len_size t.name;rw [if_neg (by omega)];split <;> simp only [List.length_append, List.length_cons, List.length_nil, c, d] <;> omega
  rw [if_neg k8] at hs;by_cases k9 : t.kind = 9
  · rw [if_pos k9] at hs ⊢
    simp only [Bool.and_eq_true, decide_eq_true_eq] at hs;obtain ⟨⟨⟨⟨⟨-, h1⟩, h2⟩, h3⟩, h4⟩, h5⟩ := hs;have a := small_len h1;have b := small_len h2;have c := great_len h3;have d := dec_size t.major (by omega) (by omega);have e1 := len_size t.pkg;have e2 := len_size t.mod;have e3 := len_size t.name;have e4 := len_size (dec t.major);simp only [List.length_append, List.length_cons, List.length_nil, e1, e2, e3, e4];omega
  · rw [if_neg k9] at hs
    cases hs
mutual
theorem text_len : ∀ t : Ty, allOk t = true -> (textT t).length + 24 <= 124 * many t
  | .mk k p m d n ns ss, h => by
    rw [allOk_eq] at h;simp only [Bool.and_eq_true] at h;exact own_len _ h.1 (texts_len ss h.2)
theorem texts_len : ∀ l : List Ty, allOkL l = true -> ∀ s, s ∈ l -> (textT s).length + 24 <= 124 * many s
  | a :: r, h, s, hs => by
    unfold allOkL at h
    simp only [Bool.and_eq_true] at h;rcases List.mem_cons.1 hs with e | hs
    · rw [e]; exact text_len a h.1
    · exact texts_len r h.2 s hs
end
end Go.Proofs.YteecgiebimdbhaaGreatDoor.M
namespace Go.Proofs.YteecgiebimdbhaaGreatDoor.M
mutual
def sameT : Ty -> Ty -> Bool
  | .mk k p m d n ns ss, .mk k' p' m' d' n' ns' ss' => decide (k = k') && decide (p = p') && decide (m = m') && decide (d = d') && decide (n = n') && decide (ns = ns') && sameL ss ss'
def sameL : List Ty -> List Ty -> Bool
  | [], [] => true
  | [], _ :: _ => false
  | _ :: _, [] => false
  | a :: r, b :: q => sameT a b && sameL r q
end
mutual
theorem sameT_iff : ∀ a b : Ty, sameT a b = true ↔ a = b
  | .mk k p m d n ns ss, .mk k' p' m' d' n' ns' ss' => by
    have := sameL_iff ss ss'
    unfold sameT
    simp only [Bool.and_eq_true, decide_eq_true_eq, this, Ty.mk.injEq];simp only [and_assoc]
theorem sameL_iff : ∀ a b : List Ty, sameL a b = true ↔ a = b
  | [], [] => by simp [sameL]
  | [], _ :: _ => by simp [sameL]
  | _ :: _, [] => by simp [sameL]
  | a :: r, b :: q => by
    have h1 := sameT_iff a b;have h2 := sameL_iff r q;unfold sameL
    simp only [Bool.and_eq_true, h1, h2, List.cons.injEq]
end
theorem sameT_no {a b : Ty} (h : a ≠ b) : sameT a b = false := by
  rw [Bool.eq_false_iff, ne_eq, sameT_iff]; exact h
theorem ty_ext {a b : Ty} (h1 : a.kind = b.kind) (h2 : a.pkg = b.pkg) (h3 : a.major = b.major) (h4 : a.mod = b.mod) (h5 : a.name = b.name) (h6 : a.names = b.names) (h7 : a.subs = b.subs) : a = b := by
  cases a; cases b
  simp only [Ty.kind, Ty.pkg, Ty.major, Ty.mod, Ty.name, Ty.names, Ty.subs] at *;subst h1 h2 h3 h4 h5 h6 h7;rfl
theorem bytes_list {a b : ByteArray} : a.data.toList = b.data.toList ↔ a = b := by
  constructor
  · intro h
    cases a; cases b; simp at h; simpa using h
  · rintro rfl; rfl
theorem list_ext' {α : Type} {a b : List α} (hl : a.length = b.length) (h : ∀ (i : Nat) (x y : α), a[i]? = some x -> b[i]? = some y -> x = y) : a = b := by
  apply List.ext_getElem? 
  intro i;rcases Nat.lt_or_ge i a.length with hi | hi
  · rw [List.getElem?_eq_getElem hi, List.getElem?_eq_getElem (by omega)]
    exact congrArg some (h i _ _ (List.getElem?_eq_getElem hi) (List.getElem?_eq_getElem (by omega)))
  · rw [List.getElem?_eq_none hi, List.getElem?_eq_none (by omega)]
end Go.Proofs.YteecgiebimdbhaaGreatDoor.M
namespace Go.Proofs.YteecgiebimdbhaaGreatDoor.M
open Go
def alnum (c : UInt8) : Bool := anyC (c.toNat : Int)
def Word (l : List UInt8) : Prop := ∀ c ∈ l, alnum c = true
def Halt (l : List UInt8) : Prop := ∀ c r, l = c :: r -> alnum c = false
theorem halt_cons {c : UInt8} {r : List UInt8} (h : alnum c = false) : Halt (c :: r) := fun a s e => by
  simp only [List.cons.injEq] at e;rw [<- e.1]; exact h
theorem word_all {g : Int -> Bool} {f : Int -> Bool} {s : ByteArray} (hf : ∀ n, f n = true -> anyC n = true) (hg : ∀ n, g n = true -> anyC n = true) (h : spell f g s.data.toList = true) : Word s.data.toList := by
  intro c hc;obtain ⟨j, hj, rfl⟩ := List.getElem_of_mem hc;obtain ⟨h0, h1, h2, h3⟩ := (spell_iff _ _ _).1 h;have e : bt s.data.toList j = (((s.data.toList)[j]).toNat : Int) := by unfold bt; rw [List.getD_eq_getElem?_getD, List.getElem?_eq_getElem hj]; rfl
  unfold alnum
  rw [<- e];rcases Nat.eq_zero_or_pos j with h' | h'
  · subst h'; exact hf _ h2
  · exact hg _ (h3 j h' hj)
theorem low_any' (n : Int) (h : lowC n = true) : anyC n = true := by unfold anyC; rw [h]; rfl
theorem up_any' (n : Int) (h : upC n = true) : anyC n = true := by unfold anyC; rw [h]; simp
theorem lowDig_any' (n : Int) (h : lowDigC n = true) : anyC n = true := by
  unfold lowDigC at h; unfold anyC
  rcases Bool.or_eq_true _ _ ▸ h with h | h <;> rw [h] <;> simp
theorem small_spell {s : ByteArray} (h : smallB s.data.toList = true) : spell lowC lowDigC s.data.toList = true := by
  unfold smallB at h; simp only [Bool.and_eq_true] at h; exact h.1
theorem great_spell {s : ByteArray} (h : greatB s.data.toList = true) : spell upC anyC s.data.toList = true := by
  unfold greatB at h; simp only [Bool.and_eq_true] at h; exact h.1
theorem small_word {s : ByteArray} (h : smallB s.data.toList = true) : Word s.data.toList := word_all low_any' lowDig_any' (small_spell h)
theorem great_word {s : ByteArray} (h : greatB s.data.toList = true) : Word s.data.toList := word_all up_any' (fun _ h => h) (great_spell h)
theorem spell_ne {f g : Int -> Bool} {l : List UInt8} (h : spell f g l = true) : l ≠ [] := by
  intro e; subst e
  have := ((spell_iff _ _ _).1 h).1
  simp at this
theorem great_not_word {l : List UInt8} (h : greatB l = true) : l ∉ words := by
  unfold greatB wordB at h
  simp only [Bool.and_eq_true, Bool.not_eq_true', List.contains_eq_mem, decide_eq_false_iff_not] at h;exact h.2
theorem small_not_word {l : List UInt8} (h : smallB l = true) : l ∉ words := by
  intro hm
  have h1 : 97 <= bt l 0 := by
    unfold smallB at h
    simp only [Bool.and_eq_true, spell_iff] at h;have := h.1.2.2.1
    unfold lowC at this
    simp only [Bool.and_eq_true, decide_eq_true_eq] at this;exact this.1
  have h2 : ∀ l ∈ words, bt l 0 < 97 := by decide
  have := h2 l hm
  omega
def Stop (l : List UInt8) : Prop := ∀ c r, l = c :: r -> c = 41 \/ c = 44 \/ c = 125 \/ c = 93
theorem Stop.halt {l : List UInt8} (h : Stop l) : Halt l := fun c r e => by
  rcases h c r e with rfl | rfl | rfl | rfl <;> decide
end Go.Proofs.YteecgiebimdbhaaGreatDoor.M
namespace Go.Proofs.YteecgiebimdbhaaGreatDoor.M
open Go
theorem empty_bytes {s : ByteArray} (h : s.size = 0) : s = ⟨#[]⟩ := by
  apply bytes_list.1
  exact List.length_eq_zero_iff.1 (by rw [len_size]; exact h)
theorem empty_is : (⟨#[]⟩ : ByteArray) = ByteArray.empty := rfl
theorem no_more {t : Ty} (h : noMore t = true) : t.pkg = ⟨#[]⟩ /\ t.major = 0 /\ t.mod = ⟨#[]⟩ /\ t.name = ⟨#[]⟩ := by
  unfold noMore emptyB at h
  simp only [Bool.and_eq_true, decide_eq_true_eq, beq_iff_eq] at h;exact ⟨empty_bytes h.1.1.1, h.1.1.2, empty_bytes h.1.2, empty_bytes h.2⟩
theorem forms (t : Ty) (h : ownOk t = true) :
    (∃ k, (k = 1 \/ k = 2 \/ k = 3) /\ t = .mk k ⟨#[]⟩ 0 ⟨#[]⟩ ⟨#[]⟩ [] []) \/ (∃ s, t = .mk 4 ⟨#[]⟩ 0 ⟨#[]⟩ ⟨#[]⟩ [] [s]) \/
    (∃ ns ss, t = .mk 5 ⟨#[]⟩ 0 ⟨#[]⟩ ⟨#[]⟩ ns ss /\ ss.length = ns.length /\ ∀ i, i < ns.length -> smallB (nameAt ns i).data.toList = true) \/
    (∃ ns ss, t = .mk 6 ⟨#[]⟩ 0 ⟨#[]⟩ ⟨#[]⟩ ns ss /\ ss.length = ns.length /\ ∀ i, i < ns.length -> greatB (nameAt ns i).data.toList = true) \/
    (∃ ss, t = .mk 7 ⟨#[]⟩ 0 ⟨#[]⟩ ⟨#[]⟩ [] ss /\ 0 < ss.length) \/
    (∃ d n, t = .mk 8 ⟨#[]⟩ 0 d n [] [] /\ greatB n.data.toList = true /\ (smallB d.data.toList = true \/ d = ⟨#[]⟩)) \/
    (∃ p m d n, t = .mk 9 p m d n [] [] /\ smallB p.data.toList = true /\ smallB d.data.toList = true /\ greatB n.data.toList = true /\ 1 <= m) := by
  unfold ownOk at h
  simp only [Bool.and_eq_true] at h;obtain ⟨⟨-, hn⟩, hs⟩ := h;have hbad := (namesOk_iff _ _).1 hn;unfold shapeOk at hs
  by_cases k1 : t.kind = 1 \/ t.kind = 2 \/ t.kind = 3
  · rw [if_pos k1] at hs
    simp only [Bool.and_eq_true, decide_eq_true_eq] at hs;obtain ⟨e1, e2, e3, e4⟩ := no_more hs.1.1;exact .inl ⟨t.kind, k1, ty_ext rfl e1 e2 e3 e4 (List.length_eq_zero_iff.1 hs.2) (List.length_eq_zero_iff.1 hs.1.2)⟩
  rw [if_neg k1] at hs;by_cases k4 : t.kind = 4
  · rw [if_pos k4] at hs
    simp only [Bool.and_eq_true, decide_eq_true_eq] at hs;obtain ⟨e1, e2, e3, e4⟩ := no_more hs.1.1;obtain ⟨s, es⟩ := List.length_eq_one_iff.1 hs.1.2;exact .inr (.inl ⟨s, ty_ext k4 e1 e2 e3 e4 (List.length_eq_zero_iff.1 hs.2) es⟩)
  rw [if_neg k4] at hs;by_cases k5 : t.kind = 5
  · rw [if_pos k5] at hs
    simp only [Bool.and_eq_true, decide_eq_true_eq] at hs;obtain ⟨e1, e2, e3, e4⟩ := no_more hs.1;refine .inr (.inr (.inl ⟨t.names, t.subs, ty_ext k5 e1 e2 e3 e4 rfl rfl, hs.2, fun i hi => ?_⟩));have := hbad i hi
    unfold badName at this
    rw [k5] at this;simp only [Bool.or_eq_false_iff, Bool.and_eq_false_iff, Bool.not_eq_false'] at this;rcases this.1.1 with a | a
    · simp at a
    · exact a
  rw [if_neg k5] at hs;by_cases k6 : t.kind = 6
  · rw [if_pos k6] at hs
    simp only [Bool.and_eq_true, decide_eq_true_eq] at hs;obtain ⟨e1, e2, e3, e4⟩ := no_more hs.1.1;refine .inr (.inr (.inr (.inl ⟨t.names, t.subs, ty_ext k6 e1 e2 e3 e4 rfl rfl, hs.1.2, fun i hi => ?_⟩)));have := hbad i hi
    unfold badName at this
    rw [k6] at this;simp only [Bool.or_eq_false_iff, Bool.and_eq_false_iff, Bool.not_eq_false'] at this;rcases this.1.2 with a | a
    · simp at a
    · exact a
  rw [if_neg k6] at hs;by_cases k7 : t.kind = 7
  · rw [if_pos k7] at hs
    simp only [Bool.and_eq_true, decide_eq_true_eq] at hs;obtain ⟨e1, e2, e3, e4⟩ := no_more hs.1.1;exact .inr (.inr (.inr (.inr (.inl ⟨t.subs, ty_ext k7 e1 e2 e3 e4 (List.length_eq_zero_iff.1 hs.2) rfl, hs.1.2⟩))))
  rw [if_neg k7] at hs;by_cases k8 : t.kind = 8
  · rw [if_pos k8] at hs
    unfold emptyB at hs
    simp only [Bool.and_eq_true, Bool.or_eq_true, decide_eq_true_eq, beq_iff_eq] at hs;obtain ⟨⟨⟨⟨⟨a, b⟩, c⟩, e⟩, f⟩, g⟩ := hs;exact .inr (.inr (.inr (.inr (.inr (.inl ⟨t.mod, t.name, ty_ext k8 (empty_bytes c) e rfl rfl (List.length_eq_zero_iff.1 b) (List.length_eq_zero_iff.1 a), f, g.imp id empty_bytes⟩)))))
  rw [if_neg k8] at hs;by_cases k9 : t.kind = 9
  · rw [if_pos k9] at hs
    simp only [Bool.and_eq_true, decide_eq_true_eq] at hs;obtain ⟨⟨⟨⟨⟨⟨a, b⟩, c⟩, e⟩, f⟩, g⟩, -⟩ := hs;exact .inr (.inr (.inr (.inr (.inr (.inr ⟨t.pkg, t.major, t.mod, t.name, ty_ext k9 rfl rfl rfl rfl (List.length_eq_zero_iff.1 b) (List.length_eq_zero_iff.1 a), c, e, f, g⟩)))))
  rw [if_neg k9] at hs;cases hs
def tag (w r : List UInt8) : Int :=
  if w = [73, 110, 116] then 1 else if w = [84, 101, 120, 116] then 2 else if w = [66, 111, 111, 108] then 3 else if w = [76, 105, 115, 116] then 4
  else if w = [] then (if r.head? = some 123 then 5 else if r.head? = some 91 then 6 else if r.head? = some 40 then 7 else 9) else 8
theorem tag_name {l r : List UInt8} (h : l ≠ []) (hw : l ∉ words) : tag l r = 8 := by
  have h1 : l ≠ [73, 110, 116] := fun e => hw (by rw [e]; decide)
  have h2 : l ≠ [84, 101, 120, 116] := fun e => hw (by rw [e]; decide)
  have h3 : l ≠ [66, 111, 111, 108] := fun e => hw (by rw [e]; decide)
  have h4 : l ≠ [76, 105, 115, 116] := fun e => hw (by rw [e]; decide)
  unfold tag
  rw [if_neg h1, if_neg h2, if_neg h3, if_neg h4, if_neg h]
theorem split (t : Ty) (h : ownOk t = true) : ∃ w r, textT t = w ++ r /\ Word w /\ ∀ x, Stop x -> Halt (r ++ x) /\ tag w (r ++ x) = t.kind := by
  rcases forms t h with ⟨k, hk, rfl⟩ | ⟨s, rfl⟩ | ⟨ns, ss, rfl, -, -⟩ | ⟨ns, ss, rfl, -, -⟩ | ⟨ss, rfl, -⟩ | ⟨d, n, rfl, hn, hd⟩ | ⟨p, m, d, n, rfl, hp, hd, hn, hm⟩
  · rcases hk with rfl | rfl | rfl
    · exact ⟨[73, 110, 116], [], rfl, by unfold Word; decide, fun x hx => ⟨by simpa using hx.halt, rfl⟩⟩
    · exact ⟨[84, 101, 120, 116], [], rfl, by unfold Word; decide, fun x hx => ⟨by simpa using hx.halt, rfl⟩⟩
    · exact ⟨[66, 111, 111, 108], [], rfl, by unfold Word; decide, fun x hx => ⟨by simpa using hx.halt, rfl⟩⟩
  · exact ⟨[76, 105, 115, 116], [40] ++ textT s ++ [41], by simp [textT, kindText, textsT], by unfold Word; decide, fun x hx => ⟨halt_cons (by decide), rfl⟩⟩
  · exact ⟨[], _, (List.nil_append _).symm, by unfold Word; decide, fun x hx => by simp only [textT, kindText]; exact ⟨halt_cons (by decide), rfl⟩⟩
  · exact ⟨[], _, (List.nil_append _).symm, by unfold Word; decide, fun x hx => by simp only [textT, kindText]; exact ⟨halt_cons (by decide), rfl⟩⟩
  · exact ⟨[], _, (List.nil_append _).symm, by unfold Word; decide, fun x hx => by simp only [textT, kindText]; exact ⟨halt_cons (by decide), rfl⟩⟩
  · rcases hd with hd | rfl
    · have hne := spell_ne (small_spell hd)
      have hz : d.size ≠ 0 := fun e => hne (List.length_eq_zero_iff.1 (by rw [len_size]; exact e))
      exact ⟨d.data.toList, [46] ++ n.data.toList, by simp [textT, kindText, hz], small_word hd, fun x hx => ⟨halt_cons (by decide), tag_name hne (small_not_word hd)⟩⟩
    · exact ⟨n.data.toList, [], by simp [textT, kindText, empty_is], great_word hn, fun x hx => ⟨by simpa using hx.halt, tag_name (spell_ne (great_spell hn)) (great_not_word hn)⟩⟩
  · exact ⟨[], _, (List.nil_append _).symm, by unfold Word; decide, fun x hx => by simp only [textT, kindText]; exact ⟨halt_cons (by decide), rfl⟩⟩
end Go.Proofs.YteecgiebimdbhaaGreatDoor.M
namespace Go.Proofs.YteecgiebimdbhaaGreatDoor.M
open Go
abbrev Tk := Nat × List UInt8
inductive Lexes : List UInt8 -> List Tk -> Prop
  | nil : Lexes [] []
  | blank {c : UInt8} {r : List UInt8} {ts : List Tk} : blankC (c.toNat : Int) = true -> Lexes r ts -> Lexes (c :: r) ts
  | word {k : Nat} {w r : List UInt8} {ts : List Tk} : ((k = 1 /\ lowC (bt w 0) = true) \/ (k = 2 /\ upC (bt w 0) = true)) -> w ≠ [] -> Word w -> Halt r -> Lexes r ts -> Lexes (w ++ r) ((k, w) :: ts)
  | num {w r : List UInt8} {ts : List Tk} : w ≠ [] -> (∀ c ∈ w, digC (c.toNat : Int) = true) -> Halt r -> Lexes r ts -> Lexes (w ++ r) ((3, w) :: ts)
  | two {a b : UInt8} {r : List UInt8} {ts : List Tk} : twoC (a.toNat : Int) (b.toNat : Int) = true -> Lexes r ts -> Lexes (a :: b :: r) ((4, [a, b]) :: ts)
  | sign {c : UInt8} {r : List UInt8} {ts : List Tk} : signC (c.toNat : Int) = true -> twoC (c.toNat : Int) (bt r 0) = false -> Lexes r ts -> Lexes (c :: r) ((4, [c]) :: ts)
theorem item_blank {c : UInt8} {r : List UInt8} (h : blankC (c.toNat : Int) = true) : item ([c] ++ r) 0 = (0, [c].length) := by
  unfold item
  rw [if_pos (by exact h)]; rfl
end Go.Proofs.YteecgiebimdbhaaGreatDoor.M
