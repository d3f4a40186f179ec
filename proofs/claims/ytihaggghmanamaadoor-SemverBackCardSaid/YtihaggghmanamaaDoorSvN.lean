/-
  Plain mathematics for layer 1: a version's text is read as the version, and what is read as a version is its text; the reference's way through a text. Nothing of any program.
-/
import Derived.Test.YtihaggghmanamaaDoorSvM
namespace Go.Proofs.YtihaggghmanamaaDoor.M
open Go.Lib (decDigits)

theorem dd_small {u : Nat} (h : u < 10) : decDigits u = [UInt8.ofNat (48 + u)] := by rw [decDigits, dif_pos h]
theorem dd_big {u : Nat} (h : 10 ≤ u) : decDigits u = decDigits (u / 10) ++ [UInt8.ofNat (48 + u % 10)] := by rw [decDigits, dif_neg (by omega)]
theorem ofNat_toNat {n : Nat} (h : n < 256) : (UInt8.ofNat n).toNat = n := by simp; omega

theorem dd_ne : ∀ (u : Nat), decDigits u ≠ [] := by
  intro u
  by_cases h : u < 10
  · rw [dd_small h]; simp
  · rw [dd_big (by omega)]; simp

theorem dd_mem : ∀ (n u : Nat), u < n → ∀ c ∈ decDigits u, 48 ≤ c.toNat ∧ c.toNat ≤ 57
  | 0, _, h => by omega
  | n + 1, u, h => by
    intro c hc
    by_cases hs : u < 10
    · rw [dd_small hs] at hc
      simp only [List.mem_singleton] at hc
      rw [hc, ofNat_toNat (by omega)]; omega
    · rw [dd_big (by omega)] at hc
      rcases List.mem_append.1 hc with hc | hc
      · exact dd_mem n (u / 10) (by omega) c hc
      · simp only [List.mem_singleton] at hc
        rw [hc, ofNat_toNat (by omega)]; omega

theorem dd_go : ∀ (n u : Nat), u < n → u ≤ 999999999 → partGo 0 (decDigits u) = some (u : Int)
  | 0, _, h, _ => by omega
  | n + 1, u, h, hb => by
    by_cases hs : u < 10
    · rw [dd_small hs]
      have e := ofNat_toNat (n := 48 + u) (by omega)
      simp only [partGo, e]
      rw [if_pos (by omega), if_pos (by omega)]
      congr 1; omega
    · rw [dd_big (by omega)]
      have e := ofNat_toNat (n := 48 + u % 10) (by omega)
      rw [partGo_snoc _ _ _ _ (dd_go n (u / 10) (by omega) (by omega)), e, if_pos (by omega), if_pos (by omega)]
      congr 1; omega

theorem dd_head : ∀ (n u : Nat), u < n → 1 ≤ u → (decDigits u).head? ≠ some 48
  | 0, _, h, _ => by omega
  | n + 1, u, h, h1 => by
    by_cases hs : u < 10
    · rw [dd_small hs]
      intro e
      have e' := congrArg UInt8.toNat (Option.some.inj e)
      rw [ofNat_toNat (by omega)] at e'
      have : (48 : UInt8).toNat = 48 := rfl
      omega
    · rw [dd_big (by omega)]
      have ih := dd_head n (u / 10) (by omega) (by omega)
      have hne := dd_ne (u / 10)
      cases hd : decDigits (u / 10) with
      | nil => exact absurd hd hne
      | cons a t => rw [hd] at ih; simpa using ih

theorem part_dd (u : Nat) (hb : u ≤ 999999999) : partOf (decDigits u) = some (u : Int) := by
  rw [p_go (dd_ne u), dd_go (u + 1) u (by omega) hb]
  intro e
  by_cases h1 : 1 ≤ u
  · exact dd_head (u + 1) u (by omega) h1 e.1
  · obtain rfl : u = 0 := by omega
    exact e.2 (by rw [dd_small (by omega)]; rfl)

/-- What is read as a number is its digits. -/
theorem dd_of_part : ∀ (n : Nat) (l : List UInt8) (m : Int), l.length = n → partOf l = some m → 0 ≤ m ∧ l = decDigits m.toNat
  | 0, l, m, hl, h => by
    have : l = [] := List.length_eq_zero_iff.1 hl
    subst this; simp [partOf] at h
  | n + 1, l, m, hl, h => by
    have hne : l ≠ [] := by intro e; rw [e] at hl; simp at hl
    have hz : ¬ (l.head? = some 48 ∧ l ≠ [48]) := by intro e; simp only [partOf, if_neg hne, if_pos e] at h; cases h
    rw [p_go hne hz] at h
    have hm := partGo_bd l 0 m (by omega) (by omega) h
    refine ⟨hm.1, ?_⟩
    obtain ⟨l', c, rfl⟩ : ∃ l' c, l = l' ++ [c] := ⟨l.dropLast, l.getLast hne, (List.dropLast_concat_getLast hne).symm⟩
    rw [partGo_append] at h
    cases hg : partGo 0 l' with
    | none => rw [hg] at h; cases h
    | some m' =>
      rw [hg] at h
      have hm' := partGo_bd l' 0 m' (by omega) (by omega) hg
      simp only [Option.bind_some, partGo] at h
      split at h
      · rename_i hd
        split at h
        · rename_i hb
          have hmm : m = m' * 10 + ((c.toNat : Int) - 48) := (Option.some.inj h).symm
          have hc : c = UInt8.ofNat (48 + (c.toNat - 48)) := by
            apply UInt8.toNat_inj.1; rw [ofNat_toNat (by omega)]; omega
          by_cases hl' : l' = []
          · subst hl'
            simp only [partGo] at hg
            obtain rfl : m' = 0 := (Option.some.inj hg).symm
            rw [dd_small (by omega), List.nil_append, show m.toNat = c.toNat - 48 by omega, ← hc]
          · have hz' : ¬ (l'.head? = some 48) := by
              intro e
              refine hz ⟨?_, ?_⟩
              · cases l' with
                | nil => exact absurd rfl hl'
                | cons a t => simpa using e
              · intro e2
                cases l' with
                | nil => exact absurd rfl hl'
                | cons a t => simp at e2
            have hp : partOf l' = some m' := by rw [p_go hl' (fun e => hz' e.1)]; exact hg
            have ih := (dd_of_part n l' m' (by simpa using hl) hp).2
            have h1 : 1 ≤ m' := by
              rcases Int.lt_or_le 0 m' with h0 | h0
              · exact h0
              · obtain rfl : m' = 0 := by omega
                exfalso; apply hz'; rw [ih, show (0 : Int).toNat = 0 from rfl, dd_small (by omega)]; rfl
            rw [dd_big (by omega), show m.toNat / 10 = m'.toNat by omega, ← ih, show m.toNat % 10 = c.toNat - 48 by omega, ← hc]
        · cases h
      · cases h

/-- A text parted at its first point. -/
def sp : List UInt8 → List UInt8 × List UInt8 × Bool
  | [] => ([], [], false)
  | c :: l => if c = 46 then ([], l, true) else (c :: (sp l).1, (sp l).2.1, (sp l).2.2)

theorem cut_sp : ∀ (l : List UInt8), Lib.cut l [46] = sp l
  | [] => rfl
  | c :: l => by
    have ih := cut_sp l
    have hge := Lib.indexByte_ge l 46
    unfold Lib.cut at ih ⊢
    rw [Lib.index_one] at ih ⊢
    unfold sp Lib.indexByte
    by_cases hc : c = 46
    · subst hc; simp
    · have hb : (c == 46) = false := by simpa using hc
      rw [hb, if_neg hc, ← ih]
      by_cases hi : Lib.indexByte l 46 = -1
      · simp [hi]
      · have h1 : (Lib.indexByte l 46 == -1) = false := by simpa using hi
        simp only [h1, Bool.false_eq_true, if_false]
        rw [if_pos (by omega), if_pos (by omega)]
        rw [show (Lib.indexByte l 46 + 1).toNat = (Lib.indexByte l 46).toNat + 1 by omega]
        simp [List.take_succ_cons]

theorem sp_hit : ∀ (p q : List UInt8), (∀ c ∈ p, c ≠ 46) → sp (p ++ 46 :: q) = (p, q, true)
  | [], q, _ => by simp [sp]
  | c :: p, q, h => by
    have hc : c ≠ 46 := h c (by simp)
    simp only [List.cons_append, sp, if_neg hc, sp_hit p q (fun d hd => h d (by simp [hd]))]
theorem sp_miss : ∀ (p : List UInt8), (∀ c ∈ p, c ≠ 46) → sp p = (p, [], false)
  | [], _ => rfl
  | c :: p, h => by
    have hc : c ≠ 46 := h c (by simp)
    simp only [sp, if_neg hc, sp_miss p (fun d hd => h d (by simp [hd]))]
theorem sp_cases : ∀ (l : List UInt8), (sp l).2.1 = [] ∧ (sp l).1 = l ∨ l = (sp l).1 ++ 46 :: (sp l).2.1
  | [] => .inl ⟨rfl, rfl⟩
  | c :: l => by
    by_cases hc : c = 46
    · subst hc; right; simp [sp]
    · simp only [sp, if_neg hc]
      rcases sp_cases l with ⟨h1, h2⟩ | h
      · left; exact ⟨h1, by rw [h2]⟩
      · right; rw [List.cons_append, ← h]

/-- A version's text, as a list. -/
def vt (a b c : Int) : List UInt8 := decDigits a.toNat ++ 46 :: (decDigits b.toNat ++ 46 :: decDigits c.toNat)

theorem dd_dot (u : Nat) : ∀ c ∈ decDigits u, c ≠ 46 := fun c hc e => by
  have := dd_mem (u + 1) u (by omega) c hc
  rw [e] at this
  have h : (46 : UInt8).toNat = 46 := rfl
  omega

theorem t_vt (a b c : Int) : t1 (vt a b c) = decDigits a.toNat ∧ t2 (vt a b c) = decDigits b.toNat ∧ t3 (vt a b c) = decDigits c.toNat := by
  unfold t1 t2 t3 vt
  rw [cut_sp, sp_hit _ _ (dd_dot _), cut_sp, sp_hit _ _ (dd_dot _)]
  exact ⟨rfl, rfl, rfl⟩

theorem p_dd (a : Int) (h0 : 0 ≤ a) (h1 : a ≤ 999999999) : pV (decDigits a.toNat) = a ∧ pB (decDigits a.toNat) = true := by
  have := p_of_some (part_dd a.toNat (by omega))
  rw [this.1, this.2]; exact ⟨by omega, rfl⟩

theorem pB_some {l : List UInt8} (h : pB l = true) : 0 ≤ pV l ∧ l = decDigits (pV l).toNat ∧ l ≠ [] := by
  unfold pB at h
  obtain ⟨m, hm⟩ := Option.isSome_iff_exists.1 h
  have e : pV l = m := (p_of_some hm).1
  rw [e]
  obtain ⟨h0, h1⟩ := dd_of_part l.length l m rfl hm
  exact ⟨h0, h1, fun hn => by rw [hn] at h1; exact dd_ne _ h1.symm⟩

/-- What is read as a version is its text. -/
theorem vt_of (l : List UInt8) (h1 : pB (t1 l) = true) (h2 : pB (t2 l) = true) (h3 : pB (t3 l) = true) : l = vt (pV (t1 l)) (pV (t2 l)) (pV (t3 l)) := by
  obtain ⟨_, e1, n1⟩ := pB_some h1
  obtain ⟨_, e2, n2⟩ := pB_some h2
  obtain ⟨_, e3, n3⟩ := pB_some h3
  unfold vt
  rw [← e1, ← e2, ← e3]
  unfold t1 t2 t3 at *
  rw [cut_sp, cut_sp] at *
  rcases sp_cases l with ⟨h, _⟩ | h
  · rw [h] at n2; exact absurd rfl n2
  · rcases sp_cases (sp l).2.1 with ⟨g, _⟩ | g
    · exact absurd g n3
    · rw [← g]; exact h

/-- The number that is being read. -/
def cur (k : Nat) (x y z : Int) : Int := if k = 0 then x else if k = 1 then y else z
/-- The reference's way through a text. -/
def refLoop : Nat → Int → Int → Int → List UInt8 → Option (Int × Int × Int)
  | _, x, y, z, [] => some (x, y, z)
  | k, x, y, z, c :: l =>
    if (c.toNat : Int) = 46 then (if k < 2 then refLoop (k + 1) x y z l else none)
    else if 48 ≤ (c.toNat : Int) ∧ (c.toNat : Int) ≤ 57 ∧ cur k x y z ≤ 99999999 then
      (if k = 0 then refLoop k (10 * x + ((c.toNat : Int) - 48)) y z l else if k = 1 then refLoop k x (10 * y + ((c.toNat : Int) - 48)) z l else refLoop k x y (10 * z + ((c.toNat : Int) - 48)) l)
    else none

theorem ref_digits : ∀ (ds r : List UInt8) (k : Nat) (x y z m : Int), partGo (cur k x y z) ds = some m → (∀ c ∈ ds, 48 ≤ c.toNat ∧ c.toNat ≤ 57) →
    refLoop k x y z (ds ++ r) = if k = 0 then refLoop k m y z r else if k = 1 then refLoop k x m z r else refLoop k x y m r
  | [], r, k, x, y, z, m, h, _ => by
    simp only [partGo, cur] at h
    obtain rfl := Option.some.inj h
    simp only [List.nil_append]
    by_cases h0 : k = 0
    · simp [h0]
    · by_cases h1 : k = 1
      · simp [h1]
      · simp [h0, h1]
  | c :: ds, r, k, x, y, z, m, h, hd => by
    have hc := hd c (by simp)
    simp only [partGo] at h
    rw [if_pos (by omega)] at h
    split at h
    · rename_i hb
      have hds := fun d hm => hd d (List.mem_cons_of_mem _ hm)
      simp only [List.cons_append, refLoop]
      rw [if_neg (by omega), if_pos (by omega)]
      by_cases h0 : k = 0
      · subst h0
        simp only [if_true]
        have := ref_digits ds r 0 (10 * x + ((c.toNat : Int) - 48)) y z m (by simp only [cur, if_true] at h ⊢; rw [← h]; congr 1; omega) hds
        simpa using this
      · by_cases h1 : k = 1
        · subst h1
          have := ref_digits ds r 1 x (10 * y + ((c.toNat : Int) - 48)) z m (by simp [cur] at h ⊢; rw [← h]; congr 1; omega) hds
          simpa using this
        · simp only [if_neg h0, if_neg h1]
          have := ref_digits ds r k x y (10 * z + ((c.toNat : Int) - 48)) m (by simp only [cur, if_neg h0, if_neg h1] at h ⊢; rw [← h]; congr 1; omega) hds
          simpa [h0, h1] using this
    · cases h

theorem ref_vt (a b c : Int) (ha : 0 ≤ a ∧ a ≤ 999999999) (hb : 0 ≤ b ∧ b ≤ 999999999) (hc : 0 ≤ c ∧ c ≤ 999999999) : refLoop 0 0 0 0 (vt a b c) = some (a, b, c) := by
  have da := dd_go (a.toNat + 1) a.toNat (by omega) (by omega)
  have db := dd_go (b.toNat + 1) b.toNat (by omega) (by omega)
  have dc := dd_go (c.toNat + 1) c.toNat (by omega) (by omega)
  rw [show (a.toNat : Int) = a by omega] at da
  rw [show (b.toNat : Int) = b by omega] at db
  rw [show (c.toNat : Int) = c by omega] at dc
  unfold vt
  have ma := dd_mem (a.toNat + 1) a.toNat (by omega)
  have mb := dd_mem (b.toNat + 1) b.toNat (by omega)
  have mc := dd_mem (c.toNat + 1) c.toNat (by omega)
  have e46 : ((46 : UInt8).toNat : Int) = 46 := rfl
  rw [ref_digits _ _ 0 0 0 0 a da ma]
  simp only [if_true, refLoop, e46]
  rw [if_pos (by omega), ref_digits _ _ 1 a 0 0 b db mb]
  simp only [refLoop, e46, if_true]
  have e := ref_digits (decDigits c.toNat) [] 2 a b 0 c dc mc
  simp only [List.append_nil] at e
  simp [e, refLoop]

theorem dd_pow : ∀ (n u : Nat), u < n → 1 ≤ u → 10 ^ (Lib.nDigits u - 1) ≤ u
| 0, _, h, _ => by omega
| n + 1, u, h, h1 => by
  by_cases hs : u < 10
  · rw [Lib.nDigits_small hs]; simpa using h1
  · have ih := dd_pow n (u / 10) (by omega) (by omega)
    have hp := Lib.nDigits_pos (u / 10)
    rw [Lib.nDigits_big hs, show Lib.nDigits (u / 10) + 1 - 1 = (Lib.nDigits (u / 10) - 1) + 1 by omega, Nat.pow_succ]
    omega

theorem dd_len (u : Nat) (h : u ≤ 999999999) : (decDigits u).length ≤ 9 := by
  rw [Lib.decDigits_length]
  by_cases h0 : u = 0
  · subst h0; rw [Lib.nDigits_small (by omega)]; omega
  · rcases Nat.lt_or_ge (Lib.nDigits u) 10 with hl | hl
    · omega
    · exfalso
      have : 10 ^ (Lib.nDigits u - 1) ≤ u := dd_pow (u + 1) u (by omega) (by omega)
      have h2 : 10 ^ 9 ≤ 10 ^ (Lib.nDigits u - 1) := Nat.pow_le_pow_right (by omega) (by omega)
      omega

theorem vt_len (a b c : Int) (ha : a ≤ 999999999) (hb : b ≤ 999999999) (hc : c ≤ 999999999) : (vt a b c).length ≤ 29 := by
  unfold vt
  have := dd_len a.toNat (by omega)
  have := dd_len b.toNat (by omega)
  have := dd_len c.toNat (by omega)
  simp only [List.length_append, List.length_cons]
  omega

/-- One byte further along the reference's way. -/
theorem ref_snoc_none (l : List UInt8) (j : Nat) (k : Nat) (x y z : Int) (c : UInt8) (hj : l[j]? = some c) (h : refLoop 0 0 0 0 l = refLoop k x y z (l.drop j)) :
    refLoop 0 0 0 0 l = refLoop k x y z (c :: l.drop (j + 1)) := by
  rw [h]
  congr 1
  obtain ⟨hlt, e⟩ := List.getElem?_eq_some_iff.1 hj
  rw [List.drop_eq_getElem_cons hlt, e]

end Go.Proofs.YtihaggghmanamaaDoor.M
