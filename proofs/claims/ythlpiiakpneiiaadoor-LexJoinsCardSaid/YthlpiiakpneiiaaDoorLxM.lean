/-
  Plain mathematics for layer 3: what stands at a place of a text (a blank, a remark, a word, a number, a sign, or nothing), and what all of it comes to. Nothing of any program.
-/
import Derived.Test.YthlpiiakpneiiaaDoorIdM
namespace Go.Proofs.YthlpiiakpneiiaaDoor.M

def blankC (n : Int) : Bool := n == 32 || n == 9 || n == 10
def lineC (n : Int) : Bool := !(n == 10)
def signs : List Int := [123, 125, 40, 41, 91, 93, 60, 62, 44, 58, 46, 61]
def signC (n : Int) : Bool := signs.contains n

/-- The first place from i on, of which the byte is not of that kind. -/
def stop (g : Int → Bool) (l : List UInt8) (i : Nat) : Nat := i + ((l.drop i).takeWhile fun c => g (c.toNat : Int)).length

/-- Do the two bytes at a place make a sign of two? -/
def twoC (a b : Int) : Bool := (a == 45 && b == 62) || (a == 46 && b == 46)

/-- What stands at a place, by its first byte: its kind (0: passed by; 1 to 4: a token's; 5: nothing), and the place behind it. -/
def item (l : List UInt8) (i : Nat) : Nat × Nat :=
  if blankC (bt l i) = true then (0, i + 1)
  else if bt l i = 35 then (0, stop lineC l (i + 1))
  else if lowC (bt l i) = true then (1, stop anyC l (i + 1))
  else if upC (bt l i) = true then (2, stop anyC l (i + 1))
  else if digC (bt l i) = true then (3, stop digC l (i + 1))
  else if twoC (bt l i) (bt l (i + 1)) = true then (4, i + 2)
  else if signC (bt l i) = true then (4, i + 1)
  else (5, i)

structure Tok where
  kind : Nat
  place : Nat
  text : ByteArray

/-- What all from a place on comes to, with the tokens ahead of it; -1: nothing is at fault. -/
def finN (s : ByteArray) : Nat → Nat → List Tok → List Tok × Int
  | 0, _, acc => (acc, -1)
  | n + 1, i, acc =>
    if s.size ≤ i then (acc, -1)
    else if (item s.data.toList i).1 = 5 then ([], (i : Int))
    else if (item s.data.toList i).1 = 0 then finN s n (item s.data.toList i).2 acc
    else finN s n (item s.data.toList i).2 (acc ++ [⟨(item s.data.toList i).1, i, s.extract i (item s.data.toList i).2⟩])
def fin (s : ByteArray) (i : Nat) (acc : List Tok) : List Tok × Int := finN s (s.size - i) i acc

theorem bt_drop (l : List UInt8) (i j : Nat) : bt (l.drop i) j = bt l (i + j) := by
  unfold bt
  simp [List.getD_eq_getElem?_getD]
theorem bt_past (l : List UInt8) (j : Nat) (h : l.length ≤ j) : bt l j = 0 := by
  unfold bt
  rw [List.getD_eq_getElem?_getD, List.getElem?_eq_none h]
  rfl

theorem takeWhile_at (g : Int → Bool) (l : List UInt8) (n : Nat) (hn : n ≤ l.length) (h : ∀ j, j < n → g (bt l j) = true) (he : n = l.length ∨ g (bt l n) = false) :
    (l.takeWhile fun c => g (c.toNat : Int)).length = n := by
  induction l generalizing n with
  | nil => simp at hn; subst hn; rfl
  | cons c r ih =>
    rcases n with _ | n
    · rcases he with he | he
      · simp at he
      · have : g (c.toNat : Int) = false := he
        simp [this]
    · have h0 : g (c.toNat : Int) = true := h 0 (by omega)
      have e : ∀ j, bt (c :: r) (j + 1) = bt r j := fun j => by unfold bt; simp
      have he' : n = r.length ∨ g (bt r n) = false := by
        rw [← e]
        rcases he with he | he
        · left; simpa using he
        · right; exact he
      rw [List.takeWhile_cons, if_pos h0, List.length_cons, ih n (by simpa using hn) (fun j hj => by rw [← e]; exact h (j + 1) (by omega)) he']
theorem stop_eq (g : Int → Bool) (l : List UInt8) (i k : Nat) (hi : i ≤ k) (hk : k ≤ l.length) (h : ∀ j, i ≤ j → j < k → g (bt l j) = true) (he : k = l.length ∨ g (bt l k) = false) : stop g l i = k := by
  unfold stop
  rw [takeWhile_at g (l.drop i) (k - i) (by simp; omega) (fun j hj => by rw [bt_drop]; exact h _ (by omega) (by omega)) (by
    rcases he with he | he
    · left; simp; omega
    · right; rw [bt_drop, show i + (k - i) = k by omega]; exact he)]
  omega
theorem stop_ge (g : Int → Bool) (l : List UInt8) (i : Nat) : i ≤ stop g l i := by unfold stop; omega
theorem stop_le (g : Int → Bool) (l : List UInt8) (i : Nat) (h : i ≤ l.length) : stop g l i ≤ l.length := by
  unfold stop
  have := (List.takeWhile_sublist (fun c : UInt8 => g (c.toNat : Int)) (l := l.drop i)).length_le
  simp at this
  omega
theorem stop_step (g : Int → Bool) (l : List UInt8) (i : Nat) (h : i < l.length) (hg : g (bt l i) = true) : stop g l i = stop g l (i + 1) := by
  unfold stop
  rw [List.drop_eq_getElem_cons h, List.takeWhile_cons]
  have : g (l[i].toNat : Int) = true := by
    unfold bt at hg
    rwa [List.getD_eq_getElem?_getD, List.getElem?_eq_getElem h] at hg
  rw [if_pos this]
  simp
  omega
theorem stop_drop (g : Int → Bool) (l : List UInt8) (i j : Nat) : i + stop g (l.drop i) j = stop g l (i + j) := by
  unfold stop
  rw [List.drop_drop]
  omega

/-- What stands at a place, seen from there. -/
theorem item_drop (l : List UInt8) (i : Nat) : item l i = ((item (l.drop i) 0).1, i + (item (l.drop i) 0).2) := by
  unfold item
  simp only [bt_drop, Nat.add_zero, Nat.zero_add]
  have e : ∀ g, stop g l (i + 1) = i + stop g (l.drop i) 1 := fun g => (stop_drop g l i 1).symm
  simp only [e]
  (repeat' split) <;> simp

theorem item_gt (l : List UInt8) (i : Nat) (h : (item l i).1 ≠ 5) : i < (item l i).2 := by
  unfold item at *
  have h1 := stop_ge lineC l (i + 1)
  have h2 := stop_ge anyC l (i + 1)
  have h3 := stop_ge digC l (i + 1)
  revert h
  (repeat' split) <;> simp <;> omega
theorem item_le (l : List UInt8) (i : Nat) (hi : i < l.length) : (item l i).2 ≤ l.length := by
  unfold item
  have h1 := stop_le lineC l (i + 1) (by omega)
  have h2 := stop_le anyC l (i + 1) (by omega)
  have h3 := stop_le digC l (i + 1) (by omega)
  (repeat' split) <;> try (simp; omega)
  rename_i h
  have : i + 1 < l.length := by
    rcases Nat.lt_or_ge (i + 1) l.length with a | a
    · exact a
    · rw [bt_past l (i + 1) a] at h
      simp [twoC] at h
  simp; omega
theorem item_kind (l : List UInt8) (i : Nat) : (item l i).1 ≤ 5 := by
  unfold item
  (repeat' split) <;> simp

theorem finN_same (s : ByteArray) : ∀ (n m i : Nat) (acc : List Tok), s.size - i ≤ n → s.size - i ≤ m → finN s n i acc = finN s m i acc
  | 0, 0, _, _, _, _ => rfl
  | 0, m + 1, i, acc, h, _ => by
    have : s.size ≤ i := by omega
    simp [finN, this]
  | n + 1, 0, i, acc, _, h => by
    have : s.size ≤ i := by omega
    simp [finN, this]
  | n + 1, m + 1, i, acc, h1, h2 => by
    unfold finN
    by_cases a : s.size ≤ i
    · simp [a]
    · by_cases b : (item s.data.toList i).1 = 5
      · simp [a, b]
      · have g := item_gt s.data.toList i b
        by_cases c : (item s.data.toList i).1 = 0
        · simp only [a, c, if_false, if_true]
          exact finN_same s n m _ _ (by omega) (by omega)
        · simp only [a, b, c, if_false]
          exact finN_same s n m _ _ (by omega) (by omega)
theorem fin_end (s : ByteArray) (i : Nat) (acc : List Tok) (h : s.size ≤ i) : fin s i acc = (acc, -1) := by
  unfold fin
  rw [show s.size - i = 0 by omega]
  rfl
theorem fin_step (s : ByteArray) (i : Nat) (acc : List Tok) (h : i < s.size) :
    fin s i acc = if (item s.data.toList i).1 = 5 then ([], (i : Int)) else if (item s.data.toList i).1 = 0 then fin s (item s.data.toList i).2 acc
      else fin s (item s.data.toList i).2 (acc ++ [⟨(item s.data.toList i).1, i, s.extract i (item s.data.toList i).2⟩]) := by
  have e : s.size - i = (s.size - i - 1) + 1 := by omega
  unfold fin
  rw [e]
  conv => lhs; unfold finN
  rw [if_neg (by omega)]
  by_cases b : (item s.data.toList i).1 = 5
  · simp [b]
  · have g := item_gt s.data.toList i b
    by_cases c : (item s.data.toList i).1 = 0
    · simp only [c, if_true]
      rw [if_neg (by omega), if_neg (by omega)]
      exact finN_same s _ _ _ _ (by omega) (by omega)
    · simp only [b, c, if_false]
      exact finN_same s _ _ _ _ (by omega) (by omega)
theorem fin_skip {s : ByteArray} {i k : Nat} (acc : List Tok) (h : i < s.size) (e : item s.data.toList i = (0, k)) : fin s i acc = fin s k acc := by
  rw [fin_step s i acc h, e]; simp
theorem fin_bad {s : ByteArray} {i k : Nat} (acc : List Tok) (h : i < s.size) (e : item s.data.toList i = (5, k)) : fin s i acc = ([], (i : Int)) := by
  rw [fin_step s i acc h, e]; simp
theorem fin_tok {s : ByteArray} {i k c : Nat} (acc : List Tok) (h : i < s.size) (e : item s.data.toList i = (c, k)) (c0 : c ≠ 0) (c5 : c ≠ 5) : fin s i acc = fin s k (acc ++ [⟨c, i, s.extract i k⟩]) := by
  rw [fin_step s i acc h, e]; simp [c0, c5]
theorem fin_at (s : ByteArray) (n : Nat) : ∀ (i : Nat) (acc : List Tok), s.size - i ≤ n → (fin s i acc).2 = -1 ∨ ∃ k : Nat, k < s.size ∧ fin s i acc = ([], (k : Int)) := by
  induction n with
  | zero => intro i acc h; left; rw [fin_end s i acc (by omega)]
  | succ n ih =>
    intro i acc h
    rcases Nat.lt_or_ge i s.size with a | a
    · rw [fin_step s i acc a]
      by_cases b : (item s.data.toList i).1 = 5
      · right; exact ⟨i, a, by simp [b]⟩
      · have g := item_gt s.data.toList i b
        by_cases c : (item s.data.toList i).1 = 0
        · simp only [c, if_true]
          rw [if_neg (by omega)]
          exact ih _ _ (by omega)
        · simp only [b, c, if_false]
          exact ih _ _ (by omega)
    · left; rw [fin_end s i acc a]

end Go.Proofs.YthlpiiakpneiiaaDoor.M
