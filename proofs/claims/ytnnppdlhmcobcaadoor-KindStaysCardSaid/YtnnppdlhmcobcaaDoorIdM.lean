/-
  Plain mathematics for layer 2: keys, the types' words, how a name is spelled, as functions on lists of bytes. Nothing of any program.
-/
import Derived.Lib.IndexBytes
namespace Go.Proofs.YtnnppdlhmcobcaaDoor.M

def keys : List (List UInt8) := [[97, 115], [97, 108, 105, 97, 115], [100, 101, 112], [104, 105, 100, 100, 101, 110], [105, 109, 112, 111, 114, 116], [105, 115], [109, 111, 100, 117, 108, 101], [111, 112, 97, 113, 117, 101], [112, 97, 99, 107, 97, 103, 101], [117, 115, 101], [118, 97, 108], [118, 101, 114, 115, 105, 111, 110]]
def words : List (List UInt8) := [[73, 110, 116], [84, 101, 120, 116], [66, 111, 111, 108], [76, 105, 115, 116]]
def keyB (l : List UInt8) : Bool := keys.contains l
def wordB (l : List UInt8) : Bool := words.contains l

def lowC (n : Int) : Bool := decide (97 ≤ n) && decide (n ≤ 122)
def upC (n : Int) : Bool := decide (65 ≤ n) && decide (n ≤ 90)
def digC (n : Int) : Bool := decide (48 ≤ n) && decide (n ≤ 57)
def lowDigC (n : Int) : Bool := lowC n || digC n
def anyC (n : Int) : Bool := lowC n || upC n || digC n

/-- The byte at a place, as an int. -/
def bt (l : List UInt8) (j : Nat) : Int := ((l.getD j 0).toNat : Int)
/-- One to twenty bytes, the first one of the first kind, all behind it of the second. -/
def spell (f g : Int → Bool) (l : List UInt8) : Bool := decide (0 < l.length) && decide (l.length ≤ 20) && f (bt l 0) && l.tail.all (fun c => g (c.toNat : Int))
def smallB (l : List UInt8) : Bool := spell lowC lowDigC l && !keyB l
def greatB (l : List UInt8) : Bool := spell upC anyC l && !wordB l
/-- One to twenty bytes, all of one kind. -/
def letters (g : Int → Bool) (l : List UInt8) : Bool := decide (0 < l.length) && decide (l.length ≤ 20) && l.all (fun c => g (c.toNat : Int))

theorem bt_lt (l : List UInt8) (j : Nat) : 0 ≤ bt l j ∧ bt l j ≤ 255 := by
  unfold bt
  have := (l.getD j 0).toNat_lt
  omega
theorem bt_eq (s : ByteArray) (k : Nat) (h : k < s.size) : (s[k].toNat : Int) = bt s.data.toList k := by
  unfold bt
  rw [List.getD_eq_getElem?_getD, List.getElem?_eq_getElem (by simpa using h)]
  rfl

theorem all_iff (g : Int → Bool) (l : List UInt8) : l.all (fun c => g (c.toNat : Int)) = true ↔ ∀ j, j < l.length → g (bt l j) = true := by
  rw [List.all_eq_true]
  constructor
  · intro h j hj
    have := h l[j] (List.getElem_mem hj)
    unfold bt
    rw [List.getD_eq_getElem?_getD, List.getElem?_eq_getElem hj]
    exact this
  · intro h c hc
    obtain ⟨j, hj, rfl⟩ := List.getElem_of_mem hc
    have := h j hj
    unfold bt at this
    rw [List.getD_eq_getElem?_getD, List.getElem?_eq_getElem hj] at this
    exact this
theorem bt_tail (l : List UInt8) (j : Nat) : bt l.tail j = bt l (j + 1) := by
  unfold bt
  cases l <;> simp

theorem spell_iff (f g : Int → Bool) (l : List UInt8) : spell f g l = true ↔ 0 < l.length ∧ l.length ≤ 20 ∧ f (bt l 0) = true ∧ ∀ j, 1 ≤ j → j < l.length → g (bt l j) = true := by
  unfold spell
  simp only [Bool.and_eq_true, decide_eq_true_eq, all_iff]
  constructor
  · rintro ⟨⟨⟨h0, h1⟩, h2⟩, h3⟩
    refine ⟨h0, h1, h2, fun j hj hl => ?_⟩
    have := h3 (j - 1) (by simp; omega)
    rwa [bt_tail, show j - 1 + 1 = j by omega] at this
  · rintro ⟨h0, h1, h2, h3⟩
    refine ⟨⟨⟨h0, h1⟩, h2⟩, fun j hj => ?_⟩
    rw [bt_tail]
    exact h3 (j + 1) (by omega) (by simp at hj; omega)
theorem letters_iff (g : Int → Bool) (l : List UInt8) : letters g l = true ↔ 0 < l.length ∧ l.length ≤ 20 ∧ ∀ j, j < l.length → g (bt l j) = true := by
  unfold letters
  simp only [Bool.and_eq_true, decide_eq_true_eq, all_iff, and_assoc]

theorem len_size (s : ByteArray) : s.data.toList.length = s.size := by simp

theorem spell_empty (f g : Int → Bool) (s : ByteArray) (h : s.size = 0) : spell f g s.data.toList = false := by
  rw [Bool.eq_false_iff, ne_eq, spell_iff, len_size]; omega
theorem spell_long (f g : Int → Bool) (s : ByteArray) (h : 20 < s.size) : spell f g s.data.toList = false := by
  rw [Bool.eq_false_iff, ne_eq, spell_iff, len_size]; omega
theorem spell_first (f g : Int → Bool) (s : ByteArray) (h : f (bt s.data.toList 0) = false) : spell f g s.data.toList = false := by
  rw [Bool.eq_false_iff, ne_eq, spell_iff]; rintro ⟨-, -, a, -⟩; rw [h] at a; cases a
theorem spell_later (f g : Int → Bool) (s : ByteArray) (k : Nat) (h1 : 1 ≤ k) (h2 : k < s.size) (h : g (bt s.data.toList k) = false) : spell f g s.data.toList = false := by
  rw [Bool.eq_false_iff, ne_eq, spell_iff, len_size]; rintro ⟨-, -, -, a⟩; rw [a k h1 h2] at h; cases h
theorem spell_all (f g : Int → Bool) (s : ByteArray) (h0 : 0 < s.size) (h1 : s.size ≤ 20) (h2 : f (bt s.data.toList 0) = true) (h : ∀ j, 1 ≤ j → j < s.size → g (bt s.data.toList j) = true) : spell f g s.data.toList = true := by
  rw [spell_iff, len_size]; exact ⟨h0, h1, h2, h⟩
theorem letters_empty (g : Int → Bool) (s : ByteArray) (h : s.size = 0) : letters g s.data.toList = false := by
  rw [Bool.eq_false_iff, ne_eq, letters_iff, len_size]; omega
theorem letters_long (g : Int → Bool) (s : ByteArray) (h : 20 < s.size) : letters g s.data.toList = false := by
  rw [Bool.eq_false_iff, ne_eq, letters_iff, len_size]; omega
theorem letters_later (g : Int → Bool) (s : ByteArray) (k : Nat) (h2 : k < s.size) (h : g (bt s.data.toList k) = false) : letters g s.data.toList = false := by
  rw [Bool.eq_false_iff, ne_eq, letters_iff, len_size]; rintro ⟨-, -, a⟩; rw [a k h2] at h; cases h
theorem letters_all (g : Int → Bool) (s : ByteArray) (h0 : 0 < s.size) (h1 : s.size ≤ 20) (h : ∀ j, j < s.size → g (bt s.data.toList j) = true) : letters g s.data.toList = true := by
  rw [letters_iff, len_size]; exact ⟨h0, h1, h⟩

theorem lowDig_low {n : Int} (h : lowDigC n = true) : lowC n = decide (97 ≤ n) := by
  unfold lowDigC lowC digC at *
  rw [Bool.eq_iff_iff]
  simp only [Bool.or_eq_true, Bool.and_eq_true, decide_eq_true_eq] at *
  omega
/-- The reference's small name: letters, no key, the first one no digit. -/
theorem small_ref (l : List UInt8) (h : letters lowDigC l = true) : smallB l = (!keyB l && decide (97 ≤ bt l 0)) := by
  have hs : spell lowC lowDigC l = decide (97 ≤ bt l 0) := by
    obtain ⟨h0, h1, h2⟩ := (letters_iff _ _).1 h
    rw [← lowDig_low (h2 0 h0)]
    cases hf : lowC (bt l 0)
    · rw [Bool.eq_false_iff, ne_eq, spell_iff]; rintro ⟨-, -, a, -⟩; rw [hf] at a; cases a
    · rw [spell_iff]; exact ⟨h0, h1, hf, fun j _ hj => h2 j hj⟩
  unfold smallB
  rw [hs, Bool.and_comm]
theorem small_none (l : List UInt8) (h : letters lowDigC l = false) : smallB l = false := by
  have hs : spell lowC lowDigC l = false := by
    rw [Bool.eq_false_iff, ne_eq, spell_iff]
    rintro ⟨h0, h1, h2, h3⟩
    rw [Bool.eq_false_iff, ne_eq, letters_iff] at h
    refine h ⟨h0, h1, fun j hj => ?_⟩
    rcases j with _ | j
    · unfold lowDigC; rw [h2]; rfl
    · exact h3 (j + 1) (by omega) hj
  unfold smallB
  rw [hs]; rfl
theorem great_ref (l : List UInt8) (h : letters anyC l = true) : spell upC anyC l = (decide (65 ≤ bt l 0) && decide (bt l 0 ≤ 90)) := by
  obtain ⟨h0, h1, h2⟩ := (letters_iff _ _).1 h
  show _ = upC (bt l 0)
  cases hf : upC (bt l 0)
  · rw [Bool.eq_false_iff, ne_eq, spell_iff]; rintro ⟨-, -, a, -⟩; rw [hf] at a; cases a
  · rw [spell_iff]; exact ⟨h0, h1, hf, fun j _ hj => h2 j hj⟩
theorem great_none (l : List UInt8) (h : letters anyC l = false) : greatB l = false := by
  have hs : spell upC anyC l = false := by
    rw [Bool.eq_false_iff, ne_eq, spell_iff]
    rintro ⟨h0, h1, h2, h3⟩
    rw [Bool.eq_false_iff, ne_eq, letters_iff] at h
    refine h ⟨h0, h1, fun j hj => ?_⟩
    rcases j with _ | j
    · unfold anyC; rw [h2]; simp
    · exact h3 (j + 1) (by omega) hj
  unfold greatB
  rw [hs]; rfl

theorem key_low : ∀ l ∈ keys, 97 ≤ bt l 0 := by decide
theorem key_not_great {l : List UInt8} (h : keyB l = true) : greatB l = false := by
  have hm : l ∈ keys := by simpa [keyB] using h
  have h1 := key_low l hm
  have hs : spell upC anyC l = false := by
    rw [Bool.eq_false_iff, ne_eq, spell_iff]
    rintro ⟨-, -, a, -⟩
    unfold upC at a
    simp only [Bool.and_eq_true, decide_eq_true_eq] at a
    omega
  unfold greatB
  rw [hs]; rfl
theorem key_not_small {l : List UInt8} (h : keyB l = true) : smallB l = false := by
  unfold smallB; rw [h]; simp
theorem small_not_great {l : List UInt8} (h : smallB l = true) : greatB l = false := by
  unfold smallB at h
  simp only [Bool.and_eq_true, spell_iff] at h
  obtain ⟨⟨-, -, a, -⟩, -⟩ := h
  have hs : spell upC anyC l = false := by
    rw [Bool.eq_false_iff, ne_eq, spell_iff]
    rintro ⟨-, -, b, -⟩
    unfold upC at b
    unfold lowC at a
    simp only [Bool.and_eq_true, decide_eq_true_eq] at a b
    omega
  unfold greatB
  rw [hs]; rfl

theorem bt_snoc (l : List UInt8) (c : UInt8) (j : Nat) : bt (l ++ [c]) j = if j < l.length then bt l j else if j = l.length then (c.toNat : Int) else 0 := by
  unfold bt
  simp only [List.getD_eq_getElem?_getD]
  by_cases h : j < l.length
  · rw [if_pos h, List.getElem?_append_left h]
  · rw [if_neg h, List.getElem?_append_right (by omega)]
    by_cases e : j = l.length
    · subst e; simp
    · rw [if_neg e, List.getElem?_eq_none (by simp; omega)]; rfl
theorem spell_more (f g : Int → Bool) (l : List UInt8) (c : UInt8) (h : spell f g l = true) (hl : l.length < 20) (hg : g (c.toNat : Int) = true) : spell f g (l ++ [c]) = true := by
  rw [spell_iff] at *
  obtain ⟨h0, h1, h2, h3⟩ := h
  refine ⟨by simp, by simp; omega, by rw [bt_snoc, if_pos h0]; exact h2, fun j hj hlt => ?_⟩
  rw [bt_snoc]
  simp only [List.length_append, List.length_singleton] at hlt
  by_cases e : j < l.length
  · rw [if_pos e]; exact h3 j hj e
  · rw [if_neg e, if_pos (by omega)]; exact hg
theorem small_more (l : List UInt8) (c : UInt8) (h : smallB l = true) (hl : l.length < 20) (h1 : 97 ≤ (c.toNat : Int)) (h2 : (c.toNat : Int) ≤ 122) : smallB (l ++ [c]) = !keyB (l ++ [c]) := by
  unfold smallB at h ⊢
  simp only [Bool.and_eq_true] at h
  rw [spell_more _ _ l c h.1 hl (by simp [lowDigC, lowC, h1, h2]), Bool.true_and]
theorem great_more (l : List UInt8) (c : UInt8) (h : greatB l = true) (hl : l.length < 20) (h1 : 97 ≤ (c.toNat : Int)) (h2 : (c.toNat : Int) ≤ 122) : greatB (l ++ [c]) = !wordB (l ++ [c]) := by
  unfold greatB at h ⊢
  simp only [Bool.and_eq_true] at h
  rw [spell_more _ _ l c h.1 hl (by simp [anyC, lowC, h1, h2]), Bool.true_and]

end Go.Proofs.YtnnppdlhmcobcaaDoor.M
