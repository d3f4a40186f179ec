/-
  Plain mathematics for layer 4: types that may be, and are unlike, have unlike texts.
-/
import Derived.Test.YtnnppdlhmcobcaaDoorTyX
import Derived.Test.YtnnppdlhmcobcaaDoorTyP
namespace Go.Proofs.YtnnppdlhmcobcaaDoor.M
open Go

theorem ddJ_small {u : Nat} (h : u < 10) : Lib.decDigits u = [UInt8.ofNat (48 + u)] := by rw [Lib.decDigits, dif_pos h]
theorem ddJ_big {u : Nat} (h : 10 ≤ u) : Lib.decDigits u = Lib.decDigits (u / 10) ++ [UInt8.ofNat (48 + u % 10)] := by rw [Lib.decDigits, dif_neg (by omega)]
def valJ (l : List UInt8) : Nat := l.foldl (fun a c => 10 * a + (c.toNat - 48)) 0
theorem valJ_dd : ∀ (n u : Nat), u < n → valJ (Lib.decDigits u) = u
  | 0, u, h => by omega
  | n + 1, u, h => by
    rcases Nat.lt_or_ge u 10 with h10 | h10
    · rw [ddJ_small h10]
      have e : (UInt8.ofNat (48 + u)).toNat = 48 + u := by rw [UInt8.toNat_ofNat']; omega
      simp [valJ]; omega
    · rw [ddJ_big h10]
      have ih := valJ_dd n (u / 10) (by omega)
      have e : (UInt8.ofNat (48 + u % 10)).toNat = 48 + u % 10 := by rw [UInt8.toNat_ofNat']; omega
      unfold valJ at ih ⊢
      rw [List.foldl_append, ih]
      simp only [List.foldl_cons, List.foldl_nil, e]
      omega
theorem ddJ_mem : ∀ (n u : Nat), u < n → ∀ c ∈ Lib.decDigits u, 48 ≤ c.toNat ∧ c.toNat ≤ 57
  | 0, u, h => by omega
  | n + 1, u, h => by
    intro c hc
    rcases Nat.lt_or_ge u 10 with h10 | h10
    · rw [ddJ_small h10] at hc
      obtain rfl := List.mem_singleton.1 hc
      rw [UInt8.toNat_ofNat']; omega
    · rw [ddJ_big h10] at hc
      rcases List.mem_append.1 hc with hc | hc
      · exact ddJ_mem n (u / 10) (by omega) c hc
      · obtain rfl := List.mem_singleton.1 hc
        rw [UInt8.toNat_ofNat']; omega
theorem dec_inj {m m' : Int} (h0 : 0 ≤ m) (h1 : 0 ≤ m') (h : (dec m).data.toList = (dec m').data.toList) : m = m' := by
  have a := valJ_dd _ m.toNat (Nat.lt_succ_self _)
  have b := valJ_dd _ m'.toNat (Nat.lt_succ_self _)
  have e : Lib.decDigits m.toNat = Lib.decDigits m'.toNat := by simpa [dec] using h
  rw [e, b] at a
  omega

/-- A letter or a digit. -/
def alnum (c : UInt8) : Bool := anyC (c.toNat : Int)
def Word (l : List UInt8) : Prop := ∀ c ∈ l, alnum c = true
/-- Nothing, or what is no letter and no digit first. -/
def Halt (l : List UInt8) : Prop := ∀ c r, l = c :: r → alnum c = false
theorem munch : ∀ {u v x y : List UInt8}, Word u → Word v → Halt x → Halt y → u ++ x = v ++ y → u = v ∧ x = y
  | [], [], x, y, _, _, _, _, h => ⟨rfl, h⟩
  | [], c :: v, x, y, _, hv, hx, _, h => by
    have := hx c (v ++ y) h
    rw [hv c (by simp)] at this; cases this
  | c :: u, [], x, y, hu, _, _, hy, h => by
    have := hy c (u ++ x) h.symm
    rw [hu c (by simp)] at this; cases this
  | c :: u, d :: v, x, y, hu, hv, hx, hy, h => by
    simp only [List.cons_append, List.cons.injEq] at h
    obtain ⟨rfl, h⟩ := h
    obtain ⟨e, h'⟩ := munch (fun a ha => hu a (by simp [ha])) (fun a ha => hv a (by simp [ha])) hx hy h
    exact ⟨by rw [e], h'⟩
theorem halt_cons {c : UInt8} {r : List UInt8} (h : alnum c = false) : Halt (c :: r) := fun a s e => by
  simp only [List.cons.injEq] at e
  rw [← e.1]; exact h

theorem word_all {g : Int → Bool} {f : Int → Bool} {s : ByteArray} (hf : ∀ n, f n = true → anyC n = true) (hg : ∀ n, g n = true → anyC n = true) (h : spell f g s.data.toList = true) : Word s.data.toList := by
  intro c hc
  obtain ⟨j, hj, rfl⟩ := List.getElem_of_mem hc
  obtain ⟨h0, h1, h2, h3⟩ := (spell_iff _ _ _).1 h
  have e : bt s.data.toList j = (((s.data.toList)[j]).toNat : Int) := by unfold bt; rw [List.getD_eq_getElem?_getD, List.getElem?_eq_getElem hj]; rfl
  unfold alnum
  rw [← e]
  rcases Nat.eq_zero_or_pos j with h' | h'
  · subst h'; exact hf _ h2
  · exact hg _ (h3 j h' hj)
theorem low_any' (n : Int) (h : lowC n = true) : anyC n = true := by unfold anyC; rw [h]; rfl
theorem up_any' (n : Int) (h : upC n = true) : anyC n = true := by unfold anyC; rw [h]; simp
theorem lowDig_any' (n : Int) (h : lowDigC n = true) : anyC n = true := by
  unfold lowDigC at h; unfold anyC
  rcases Bool.or_eq_true _ _ ▸ h with h | h <;> rw [h] <;> simp
theorem small_spell {s : ByteArray} (h : smallB s.data.toList = true) : spell lowC lowDigC s.data.toList = true := by
  unfold smallB at h; simp only [Bool.and_eq_true] at h; exact h.1
theorem great_spell {s : ByteArray} (h : greatB s.data.toList = true) : spell upC anyC s.data.toList = true := by
  unfold greatB at h; simp only [Bool.and_eq_true] at h; exact h.1
theorem small_word {s : ByteArray} (h : smallB s.data.toList = true) : Word s.data.toList := word_all low_any' lowDig_any' (small_spell h)
theorem great_word {s : ByteArray} (h : greatB s.data.toList = true) : Word s.data.toList := word_all up_any' (fun _ h => h) (great_spell h)
theorem dec_word (m : Int) : Word (dec m).data.toList := by
  intro c hc
  have hc' : c ∈ Lib.decDigits m.toNat := by simpa [dec] using hc
  have := ddJ_mem _ m.toNat (Nat.lt_succ_self _) c hc'
  unfold alnum anyC digC
  have h1 : (48 : Int) ≤ (c.toNat : Int) := by omega
  have h2 : (c.toNat : Int) ≤ 57 := by omega
  simp [h1, h2]
theorem spell_ne {f g : Int → Bool} {l : List UInt8} (h : spell f g l = true) : l ≠ [] := by
  intro e; subst e
  have := ((spell_iff _ _ _).1 h).1
  simp at this
theorem great_not_word {l : List UInt8} (h : greatB l = true) : l ∉ words := by
  unfold greatB wordB at h
  simp only [Bool.and_eq_true, Bool.not_eq_true', List.contains_eq_mem, decide_eq_false_iff_not] at h
  exact h.2
theorem small_not_word {l : List UInt8} (h : smallB l = true) : l ∉ words := by
  intro hm
  have h1 : 97 ≤ bt l 0 := by
    unfold smallB at h
    simp only [Bool.and_eq_true, spell_iff] at h
    have := h.1.2.2.1
    unfold lowC at this
    simp only [Bool.and_eq_true, decide_eq_true_eq] at this
    exact this.1
  have h2 : ∀ l ∈ words, bt l 0 < 97 := by decide
  have := h2 l hm
  omega

/-- What may stand behind a type: nothing, or one of these signs. -/
def Stop (l : List UInt8) : Prop := ∀ c r, l = c :: r → c = 41 ∨ c = 44 ∨ c = 125 ∨ c = 93
theorem Stop.halt {l : List UInt8} (h : Stop l) : Halt l := fun c r e => by
  rcases h c r e with rfl | rfl | rfl | rfl <;> decide
theorem stop_cons {c : UInt8} {r : List UInt8} (h : c = 41 ∨ c = 44 ∨ c = 125 ∨ c = 93) : Stop (c :: r) := fun a s e => by
  simp only [List.cons.injEq] at e
  rw [← e.1]; exact h

/-- A row's parts, a comma and a space between. -/
def tlC : List (List UInt8) → List UInt8
  | [] => []
  | x :: r => [44, 32] ++ x ++ tlC r
def joinC : List (List UInt8) → List UInt8
  | [] => []
  | x :: r => x ++ tlC r
theorem tlC_snoc : ∀ (l : List (List UInt8)) (x : List UInt8), tlC (l ++ [x]) = tlC l ++ [44, 32] ++ x
  | [], x => by simp [tlC]
  | a :: r, x => by simp [tlC, tlC_snoc r x]
theorem joinC_snoc (l : List (List UInt8)) (x : List UInt8) (h : l ≠ []) : joinC (l ++ [x]) = joinC l ++ [44, 32] ++ x := by
  cases l with
  | nil => exact absurd rfl h
  | cons a r => simp [joinC, tlC_snoc]
def itemAt (L : List (List UInt8)) (ns : List ByteArray) (i : Nat) : List UInt8 := (if 0 < ns.length then (nameAt ns i).data.toList ++ [58, 32] else []) ++ L.getD i []
theorem row_join (L : List (List UInt8)) (ns : List ByteArray) : ∀ k, rowOf L ns k = joinC ((List.range k).map (itemAt L ns))
  | 0 => rfl
  | k + 1 => by
    have ih := row_join L ns k
    rw [List.range_succ, List.map_append]
    show (if 0 < k then rowOf L ns k ++ [44, 32] else rowOf L ns k) ++ (if 0 < ns.length then (nameAt ns k).data.toList ++ [58, 32] else []) ++ L.getD k [] = _
    rcases Nat.eq_zero_or_pos k with h | h
    · subst h
      rw [if_neg (Nat.lt_irrefl 0)]
      simp [rowOf, joinC, tlC, itemAt]
    · rw [if_pos h, List.map_cons, List.map_nil, joinC_snoc _ _ (by intro e; have := congrArg List.length e; simp at this; omega), ← ih]
      simp [itemAt]

/-- A part: a name (or none), and a type. -/
def partT (nm : Bool) (p : ByteArray × Ty) : List UInt8 := (if nm then p.1.data.toList ++ [58, 32] else []) ++ textT p.2
/-- What is shown of a type by induction: what stands ahead of a stop is told apart. -/
def Told (s : Ty) : Prop := (∀ q x y, allOk q = true → Stop x → Stop y → textT s ++ x = textT q ++ y → s = q ∧ x = y)
theorem tl_inj (nm : Bool) (z : UInt8) (hz : z = 41 ∨ z = 125 ∨ z = 93) : ∀ (P P' : List (ByteArray × Ty)) (x y : List UInt8), (∀ p ∈ P, Told p.2) → (∀ p ∈ P', allOk p.2 = true) → (∀ p ∈ P, Word p.1.data.toList) → (∀ p ∈ P', Word p.1.data.toList) →
    tlC (P.map (partT nm)) ++ z :: x = tlC (P'.map (partT nm)) ++ z :: y → P.map (·.2) = P'.map (·.2) ∧ (nm = true → P.map (·.1) = P'.map (·.1)) ∧ x = y
  | [], [], x, y, _, _, _, _, h => by simp [tlC] at h; exact ⟨rfl, fun _ => rfl, h⟩
  | [], p :: P', x, y, _, _, _, _, h => by simp [tlC] at h; rcases hz with rfl | rfl | rfl <;> simp at h
  | p :: P, [], x, y, _, _, _, _, h => by simp [tlC] at h; rcases hz with rfl | rfl | rfl <;> simp at h
  | p :: P, q :: P', x, y, h1, h2, h3, h4, h => by
    have hs : ∀ (R : List (ByteArray × Ty)) (w : List UInt8), Stop (tlC (R.map (partT nm)) ++ z :: w) := by
      intro R w
      cases R with
      | nil => exact stop_cons (by rcases hz with h | h | h <;> simp [h])
      | cons a R => exact stop_cons (by simp)
    simp only [List.map_cons, tlC, List.append_assoc, List.cons_append, List.nil_append, List.cons.injEq, true_and] at h
    have hn : (nm = true → p.1 = q.1) ∧ textT p.2 ++ (tlC (P.map (partT nm)) ++ z :: x) = textT q.2 ++ (tlC (P'.map (partT nm)) ++ z :: y) := by
      cases nm with
      | false => exact ⟨fun e => absurd e Bool.false_ne_true, by simpa [partT] using h⟩
      | true =>
        simp only [partT, if_true, List.append_assoc] at h
        obtain ⟨a, b⟩ := munch (h3 p (by simp)) (h4 q (by simp)) (halt_cons (by decide)) (halt_cons (by decide)) h
        exact ⟨fun _ => bytes_list.1 a, by simpa using b⟩
    obtain ⟨e, h'⟩ := h1 p (by simp) q.2 _ _ (h2 q (by simp)) (hs P x) (hs P' y) hn.2
    obtain ⟨i1, i2, i3⟩ := tl_inj nm z hz P P' x y (fun a ha => h1 a (by simp [ha])) (fun a ha => h2 a (by simp [ha])) (fun a ha => h3 a (by simp [ha])) (fun a ha => h4 a (by simp [ha])) h'
    exact ⟨by rw [List.map_cons, List.map_cons, e, i1], fun hh => by rw [List.map_cons, List.map_cons, hn.1 hh, i2 hh], i3⟩

/-- No part begins as what closes a row. -/
def Opens (l : List UInt8) : Prop := ∀ c r, l = c :: r → c ≠ 41 ∧ c ≠ 44 ∧ c ≠ 125 ∧ c ≠ 93
theorem join_inj (nm : Bool) (z : UInt8) (hz : z = 41 ∨ z = 125 ∨ z = 93) (P P' : List (ByteArray × Ty)) (x y : List UInt8) (h1 : ∀ p ∈ P, Told p.2) (h2 : ∀ p ∈ P', allOk p.2 = true) (h3 : ∀ p ∈ P, Word p.1.data.toList) (h4 : ∀ p ∈ P', Word p.1.data.toList)
    (o1 : ∀ p ∈ P, ∃ c r, partT nm p = c :: r ∧ c ≠ z) (o2 : ∀ p ∈ P', ∃ c r, partT nm p = c :: r ∧ c ≠ z)
    (h : joinC (P.map (partT nm)) ++ z :: x = joinC (P'.map (partT nm)) ++ z :: y) : P.map (·.2) = P'.map (·.2) ∧ (nm = true → P.map (·.1) = P'.map (·.1)) ∧ x = y := by
  cases P with
  | nil =>
    cases P' with
    | nil => simp [joinC] at h; exact ⟨rfl, fun _ => rfl, h⟩
    | cons q P' =>
      obtain ⟨c, r, e, hc⟩ := o2 q (by simp)
      simp [joinC, e] at h
      exact absurd h.1.symm hc
  | cons p P =>
    cases P' with
    | nil =>
      obtain ⟨c, r, e, hc⟩ := o1 p (by simp)
      simp [joinC, e] at h
      exact absurd h.1 hc
    | cons q P' =>
      refine tl_inj nm z hz (p :: P) (q :: P') x y h1 h2 h3 h4 ?_
      simp only [List.map_cons, tlC, List.append_assoc, List.cons_append, List.nil_append, List.cons.injEq, true_and]
      simpa [joinC] using h

end Go.Proofs.YtnnppdlhmcobcaaDoor.M
