/-
  Several texts in one: The last step of a law's row, over any program: a call that answers true and leaves all old memory as it was meets 'every argument reads as it read'. Nothing of this program is in it. · Plain mathematics for layer 4: types that may be, and are unlike, have unlike texts. · Plain mathematics for layer 4: types that may be, and are unlike, have unlike texts: the induction. · Plain mathematics for layer 6: what tokens a text has, told a piece at a time.
-/
import Derived.Below
import Derived.Carry
import Derived.ChangeSame
import Derived.WideKeyArgs
import Derived.ProofKit
import Derived.Test.YtpfoclpgcbjjoaaGreatDoorJ21
import Derived.Test.YtpfoclpgcbjjoaaGreatDoorJ17
import Derived.Test.YtpfoclpgcbjjoaaGreatDoorJ13
/- The last step of a law's row, over any program: a call that answers true and leaves all old memory as it was meets 'every argument reads as it read'. Nothing of this program is in it. -/
namespace Go.Proofs.YtpfoclpgcbjjoaaGreatDoor
open Go Go.RowKit Go.WideShapes Go.ChangeShapes
section
variable {H : Type} {enc : TypeId × Value → H} {P : Program}

theorem post_of_below {f : Func} {s : ChangeSpec} {apart fresh handsOn again : Bool} {W W' : World} {args : Array Value} {v : Value} {ds gs : List (DataW H)} {before pa pv : List MemPlace}
    (hW : DataW.Whole enc P f.params.toList s.vars apart W args.toList ds gs before)
    (hres : ∀ (b : Nat) (sp : Nat → Bool) (hd : Bool), DataW.TrodAll enc P W' b sp hd f.resultTypes.toList (v.resultList f.resultTypes.size) (s.fn H (ds ++ gs)).results [])
    (hargs : ∀ sp : Nat → Bool, (∀ p ∈ before, sp p.block = true) → DataW.TrodAll enc P W' 0 sp true f.params.toList args.toList (s.fn H (ds ++ gs)).args pa)
    (hvars : ∀ sp : Nat → Bool, (∀ p ∈ before, sp p.block = true) → DataW.TrodVars enc P W' sp s.vars (s.fn H (ds ++ gs)).vars pv)
    (hps : before = pa ++ pv) (hb : Below W.heap.size W W')
    (hok : ∀ (j : Nat) (t : TypeId) (r : Value), f.resultTypes[j]? = some t → (v.resultList f.resultTypes.size)[j]? = some r → Value.okWide P W' .any 0 t r) :
    s.post enc P f apart fresh handsOn again W args v W' := by
  have hlt : ∀ p ∈ before, p.block < W.heap.size := fun p hp => hW.lt p hp
  have hold : ∀ p ∈ before, (fun b => decide (b < W.heap.size)) p.block = true := fun p hp => by simpa using hlt p hp
  refine ⟨ds, gs, before, [], pa, pv, hW, hres _ _ _, hargs _ hold, hvars _ hold, World.keptBut_mono (fun p hp => ⟨hp, ?_⟩) (hb.frame (· ∈ before)), fun _ => ?_⟩
  · rw [hps, List.mem_append] at hp
    exact Or.inr hp
  · obtain ⟨_, _, _, _, _, hz, hn⟩ := hW
    refine ⟨hok, _, _, ([] ++ pa) ++ pv, ⟨[] ++ pa, pv, trodAll_append (hargs _ (fun _ _ => rfl)) (hres _ _ _), hvars _ (fun _ _ => rfl), rfl, ?_, ?_⟩, ?_⟩
    · intro b off hp
      have hin : MemPlace.cell b off ∈ before := by rw [hps]; simpa using hp
      rw [hb.frozen (hlt _ hin)]
      exact hz b off hin
    · intro ha
      have := hn ha
      rw [hps] at this
      simpa using this
    · intro p hp _
      rw [hps]
      simpa using hp

/-- Arguments that were only read read as they did. -/
theorem trodAll_stays (hl : laidOutB P = true) {W W' : World} {sp : Nat → Bool} (hb : Below W.heap.size W W') :
    ∀ (ts : List TypeId) (vs : List Value) (ds : List (DataW H)) (ps : List MemPlace), (∀ t ∈ ts, P.readableRec t = true ∧ t < P.types.size) →
      DataW.TrodAll enc P W 0 (fun _ => true) true ts vs ds ps → (∀ x ∈ ps, x.block < W.heap.size) → (∀ x ∈ ps, sp x.block = true) → DataW.TrodAll enc P W' 0 sp true ts vs ds ps
  | [], vs, ds, ps, _, h, _, _ => by
    obtain ⟨rfl, rfl, rfl⟩ := trodAll_nil h
    exact trodAll_mk0
  | t :: ts, vs, ds, ps, ht, h, hlt, hs => by
    obtain ⟨v, vs', d, ds', p, q, rfl, rfl, rfl, h0, h1⟩ := trodAll_cons h
    obtain ⟨hr, hrow⟩ := ht t (by simp)
    exact ⟨p, q, WideElems.Trod_stays hl hr hrow h0 (fun x hx => hb.same (hlt x (by simp [hx]))) (fun x hx => hs x (by simp [hx])),
      trodAll_stays hl hb ts vs' ds' q (fun u hu => ht u (by simp [hu])) h1 (fun x hx => hlt x (by simp [hx])) (fun x hx => hs x (by simp [hx])), rfl⟩

/-- The last step of a law: it answered true, and old memory stands. -/
theorem law_post {f : Func} {s : ChangeSpec} {apart fresh handsOn again : Bool} {W W' : World} {args : Array Value} {ds gs : List (DataW H)} {before : List MemPlace} {tb : TypeId}
    (hl : laidOutB P = true) (hro : f.params.toList.all (fun t => P.readableRec t && decide (t < P.types.size)) = true) (hres : f.resultTypes = #[tb]) (hbool : P.underlying tb = some .bool) (hvars : s.vars = [])
    (hW : DataW.Whole enc P f.params.toList s.vars apart W args.toList ds gs before) (hb : Below W.heap.size W W')
    (hs : s.fn H (ds ++ gs) = { results := [.lit (.bool true)], args := ds }) :
    s.post enc P f apart fresh handsOn again W args (.bool true) W' := by
  have hW' := hW
  obtain ⟨p, q, hA, hV, hpq, _, _⟩ := hW
  rw [hvars] at hV
  obtain ⟨rfl, rfl⟩ := trodVars_none hV
  rw [List.append_nil] at hpq
  subst hpq
  have hlt : ∀ x ∈ before, x.block < W.heap.size := fun x hx => hW'.lt x hx
  have hro' : ∀ t ∈ f.params.toList, P.readableRec t = true ∧ t < P.types.size := fun t ht => by
    have := List.all_eq_true.1 hro t ht
    simpa using this
  refine post_of_below (pa := before) (pv := []) hW' ?_ ?_ ?_ (by simp) hb ?_
  · intro b sp hd
    rw [hs, hres]
    exact trodAll_mk1 (shut_bool hbool true)
  · intro sp hsp
    rw [hs]
    exact trodAll_stays hl hb _ _ _ _ hro' hA hlt hsp
  · intro sp _
    rw [hs, hvars]
    exact rfl
  · exact ok_one hres rfl (okWide_bool_mk hbool true)
end
end Go.Proofs.YtpfoclpgcbjjoaaGreatDoor

/- Plain mathematics for layer 4: types that may be, and are unlike, have unlike texts. -/
namespace Go.Proofs.YtpfoclpgcbjjoaaGreatDoor.M
open Go

theorem ddJ_small {u : Nat} (h : u < 10) : Lib.decDigits u = [UInt8.ofNat (48 + u)] := by rw [Lib.decDigits, dif_pos h]
theorem ddJ_big {u : Nat} (h : 10 ≤ u) : Lib.decDigits u = Lib.decDigits (u / 10) ++ [UInt8.ofNat (48 + u % 10)] := by rw [Lib.decDigits, dif_neg (by omega)]
def valJ (l : List UInt8) : Nat := l.foldl (fun a c => 10 * a + (c.toNat - 48)) 0
theorem valJ_dd : ∀ (n u : Nat), u < n → valJ (Lib.decDigits u) = u
  | 0, u, h => by omega
  | n + 1, u, h => by
    rcases Nat.lt_or_ge u 10 with h10 | h10
    · rw [ddJ_small h10]
      have e : (UInt8.ofNat (48 + u)).toNat = 48 + u := by rw [UInt8.toNat_ofNat']; omega
      simp [valJ]; omega
    · rw [ddJ_big h10]
      have ih := valJ_dd n (u / 10) (by omega)
      have e : (UInt8.ofNat (48 + u % 10)).toNat = 48 + u % 10 := by rw [UInt8.toNat_ofNat']; omega
      unfold valJ at ih ⊢
      rw [List.foldl_append, ih]
      simp only [List.foldl_cons, List.foldl_nil, e]
      omega
theorem ddJ_mem : ∀ (n u : Nat), u < n → ∀ c ∈ Lib.decDigits u, 48 ≤ c.toNat ∧ c.toNat ≤ 57
  | 0, u, h => by omega
  | n + 1, u, h => by
    intro c hc
    rcases Nat.lt_or_ge u 10 with h10 | h10
    · rw [ddJ_small h10] at hc
      obtain rfl := List.mem_singleton.1 hc
      rw [UInt8.toNat_ofNat']; omega
    · rw [ddJ_big h10] at hc
      rcases List.mem_append.1 hc with hc | hc
      · exact ddJ_mem n (u / 10) (by omega) c hc
      · obtain rfl := List.mem_singleton.1 hc
        rw [UInt8.toNat_ofNat']; omega
theorem dec_inj {m m' : Int} (h0 : 0 ≤ m) (h1 : 0 ≤ m') (h : (dec m).data.toList = (dec m').data.toList) : m = m' := by
  have a := valJ_dd _ m.toNat (Nat.lt_succ_self _)
  have b := valJ_dd _ m'.toNat (Nat.lt_succ_self _)
  have e : Lib.decDigits m.toNat = Lib.decDigits m'.toNat := by simpa [dec] using h
  rw [e, b] at a
  omega

/-- A letter or a digit. -/
def alnum (c : UInt8) : Bool := anyC (c.toNat : Int)
def Word (l : List UInt8) : Prop := ∀ c ∈ l, alnum c = true
/-- Nothing, or what is no letter and no digit first. -/
def Halt (l : List UInt8) : Prop := ∀ c r, l = c :: r → alnum c = false
theorem munch : ∀ {u v x y : List UInt8}, Word u → Word v → Halt x → Halt y → u ++ x = v ++ y → u = v ∧ x = y
  | [], [], x, y, _, _, _, _, h => ⟨rfl, h⟩
  | [], c :: v, x, y, _, hv, hx, _, h => by
    have := hx c (v ++ y) h
    rw [hv c (by simp)] at this; cases this
  | c :: u, [], x, y, hu, _, _, hy, h => by
    have := hy c (u ++ x) h.symm
    rw [hu c (by simp)] at this; cases this
  | c :: u, d :: v, x, y, hu, hv, hx, hy, h => by
    simp only [List.cons_append, List.cons.injEq] at h
    obtain ⟨rfl, h⟩ := h
    obtain ⟨e, h'⟩ := munch (fun a ha => hu a (by simp [ha])) (fun a ha => hv a (by simp [ha])) hx hy h
    exact ⟨by rw [e], h'⟩
theorem halt_cons {c : UInt8} {r : List UInt8} (h : alnum c = false) : Halt (c :: r) := fun a s e => by
  simp only [List.cons.injEq] at e
  rw [← e.1]; exact h

theorem word_all {g : Int → Bool} {f : Int → Bool} {s : ByteArray} (hf : ∀ n, f n = true → anyC n = true) (hg : ∀ n, g n = true → anyC n = true) (h : spell f g s.data.toList = true) : Word s.data.toList := by
  intro c hc
  obtain ⟨j, hj, rfl⟩ := List.getElem_of_mem hc
  obtain ⟨h0, h1, h2, h3⟩ := (spell_iff _ _ _).1 h
  have e : bt s.data.toList j = (((s.data.toList)[j]).toNat : Int) := by unfold bt; rw [List.getD_eq_getElem?_getD, List.getElem?_eq_getElem hj]; rfl
  unfold alnum
  rw [← e]
  rcases Nat.eq_zero_or_pos j with h' | h'
  · subst h'; exact hf _ h2
  · exact hg _ (h3 j h' hj)
theorem low_any' (n : Int) (h : lowC n = true) : anyC n = true := by unfold anyC; rw [h]; rfl
theorem up_any' (n : Int) (h : upC n = true) : anyC n = true := by unfold anyC; rw [h]; simp
theorem lowDig_any' (n : Int) (h : lowDigC n = true) : anyC n = true := by
  unfold lowDigC at h; unfold anyC
  rcases Bool.or_eq_true _ _ ▸ h with h | h <;> rw [h] <;> simp
theorem small_spell {s : ByteArray} (h : smallB s.data.toList = true) : spell lowC lowDigC s.data.toList = true := by
  unfold smallB at h; simp only [Bool.and_eq_true] at h; exact h.1
theorem great_spell {s : ByteArray} (h : greatB s.data.toList = true) : spell upC anyC s.data.toList = true := by
  unfold greatB at h; simp only [Bool.and_eq_true] at h; exact h.1
theorem small_word {s : ByteArray} (h : smallB s.data.toList = true) : Word s.data.toList := word_all low_any' lowDig_any' (small_spell h)
theorem great_word {s : ByteArray} (h : greatB s.data.toList = true) : Word s.data.toList := word_all up_any' (fun _ h => h) (great_spell h)
theorem dec_word (m : Int) : Word (dec m).data.toList := by
  intro c hc
  have hc' : c ∈ Lib.decDigits m.toNat := by simpa [dec] using hc
  have := ddJ_mem _ m.toNat (Nat.lt_succ_self _) c hc'
  unfold alnum anyC digC
  have h1 : (48 : Int) ≤ (c.toNat : Int) := by omega
  have h2 : (c.toNat : Int) ≤ 57 := by omega
  simp [h1, h2]
theorem spell_ne {f g : Int → Bool} {l : List UInt8} (h : spell f g l = true) : l ≠ [] := by
  intro e; subst e
  have := ((spell_iff _ _ _).1 h).1
  simp at this
theorem great_not_word {l : List UInt8} (h : greatB l = true) : l ∉ words := by
  unfold greatB wordB at h
  simp only [Bool.and_eq_true, Bool.not_eq_true', List.contains_eq_mem, decide_eq_false_iff_not] at h
  exact h.2
theorem small_not_word {l : List UInt8} (h : smallB l = true) : l ∉ words := by
  intro hm
  have h1 : 97 ≤ bt l 0 := by
    unfold smallB at h
    simp only [Bool.and_eq_true, spell_iff] at h
    have := h.1.2.2.1
    unfold lowC at this
    simp only [Bool.and_eq_true, decide_eq_true_eq] at this
    exact this.1
  have h2 : ∀ l ∈ words, bt l 0 < 97 := by decide
  have := h2 l hm
  omega

/-- What may stand behind a type: nothing, or one of these signs. -/
def Stop (l : List UInt8) : Prop := ∀ c r, l = c :: r → c = 41 ∨ c = 44 ∨ c = 125 ∨ c = 93
theorem Stop.halt {l : List UInt8} (h : Stop l) : Halt l := fun c r e => by
  rcases h c r e with rfl | rfl | rfl | rfl <;> decide
theorem stop_cons {c : UInt8} {r : List UInt8} (h : c = 41 ∨ c = 44 ∨ c = 125 ∨ c = 93) : Stop (c :: r) := fun a s e => by
  simp only [List.cons.injEq] at e
  rw [← e.1]; exact h

/-- A row's parts, a comma and a space between. -/
def tlC : List (List UInt8) → List UInt8
  | [] => []
  | x :: r => [44, 32] ++ x ++ tlC r
def joinC : List (List UInt8) → List UInt8
  | [] => []
  | x :: r => x ++ tlC r
theorem tlC_snoc : ∀ (l : List (List UInt8)) (x : List UInt8), tlC (l ++ [x]) = tlC l ++ [44, 32] ++ x
  | [], x => by simp [tlC]
  | a :: r, x => by simp [tlC, tlC_snoc r x]
theorem joinC_snoc (l : List (List UInt8)) (x : List UInt8) (h : l ≠ []) : joinC (l ++ [x]) = joinC l ++ [44, 32] ++ x := by
  cases l with
  | nil => exact absurd rfl h
  | cons a r => simp [joinC, tlC_snoc]
def itemAt (L : List (List UInt8)) (ns : List ByteArray) (i : Nat) : List UInt8 := (if 0 < ns.length then (nameAt ns i).data.toList ++ [58, 32] else []) ++ L.getD i []
theorem row_join (L : List (List UInt8)) (ns : List ByteArray) : ∀ k, rowOf L ns k = joinC ((List.range k).map (itemAt L ns))
  | 0 => rfl
  | k + 1 => by
    have ih := row_join L ns k
    rw [List.range_succ, List.map_append]
    show (if 0 < k then rowOf L ns k ++ [44, 32] else rowOf L ns k) ++ (if 0 < ns.length then (nameAt ns k).data.toList ++ [58, 32] else []) ++ L.getD k [] = _
    rcases Nat.eq_zero_or_pos k with h | h
    · subst h
      rw [if_neg (Nat.lt_irrefl 0)]
      simp [rowOf, joinC, tlC, itemAt]
    · rw [if_pos h, List.map_cons, List.map_nil, joinC_snoc _ _ (by intro e; have := congrArg List.length e; simp at this; omega), ← ih]
      simp [itemAt]

/-- A part: a name (or none), and a type. -/
def partT (nm : Bool) (p : ByteArray × Ty) : List UInt8 := (if nm then p.1.data.toList ++ [58, 32] else []) ++ textT p.2
/-- What is shown of a type by induction: what stands ahead of a stop is told apart. -/
def Told (s : Ty) : Prop := (∀ q x y, allOk q = true → Stop x → Stop y → textT s ++ x = textT q ++ y → s = q ∧ x = y)
theorem tl_inj (nm : Bool) (z : UInt8) (hz : z = 41 ∨ z = 125 ∨ z = 93) : ∀ (P P' : List (ByteArray × Ty)) (x y : List UInt8), (∀ p ∈ P, Told p.2) → (∀ p ∈ P', allOk p.2 = true) → (∀ p ∈ P, Word p.1.data.toList) → (∀ p ∈ P', Word p.1.data.toList) →
    tlC (P.map (partT nm)) ++ z :: x = tlC (P'.map (partT nm)) ++ z :: y → P.map (·.2) = P'.map (·.2) ∧ (nm = true → P.map (·.1) = P'.map (·.1)) ∧ x = y
  | [], [], x, y, _, _, _, _, h => by simp [tlC] at h; exact ⟨rfl, fun _ => rfl, h⟩
  | [], p :: P', x, y, _, _, _, _, h => by simp [tlC] at h; rcases hz with rfl | rfl | rfl <;> simp at h
  | p :: P, [], x, y, _, _, _, _, h => by simp [tlC] at h; rcases hz with rfl | rfl | rfl <;> simp at h
  | p :: P, q :: P', x, y, h1, h2, h3, h4, h => by
    have hs : ∀ (R : List (ByteArray × Ty)) (w : List UInt8), Stop (tlC (R.map (partT nm)) ++ z :: w) := by
      intro R w
      cases R with
      | nil => exact stop_cons (by rcases hz with h | h | h <;> simp [h])
      | cons a R => exact stop_cons (by simp)
    simp only [List.map_cons, tlC, List.append_assoc, List.cons_append, List.nil_append, List.cons.injEq, true_and] at h
    have hn : (nm = true → p.1 = q.1) ∧ textT p.2 ++ (tlC (P.map (partT nm)) ++ z :: x) = textT q.2 ++ (tlC (P'.map (partT nm)) ++ z :: y) := by
      cases nm with
      | false => exact ⟨fun e => absurd e Bool.false_ne_true, by simpa [partT] using h⟩
      | true =>
        simp only [partT, if_true, List.append_assoc] at h
        obtain ⟨a, b⟩ := munch (h3 p (by simp)) (h4 q (by simp)) (halt_cons (by decide)) (halt_cons (by decide)) h
        exact ⟨fun _ => bytes_list.1 a, by simpa using b⟩
    obtain ⟨e, h'⟩ := h1 p (by simp) q.2 _ _ (h2 q (by simp)) (hs P x) (hs P' y) hn.2
    obtain ⟨i1, i2, i3⟩ := tl_inj nm z hz P P' x y (fun a ha => h1 a (by simp [ha])) (fun a ha => h2 a (by simp [ha])) (fun a ha => h3 a (by simp [ha])) (fun a ha => h4 a (by simp [ha])) h'
    exact ⟨by rw [List.map_cons, List.map_cons, e, i1], fun hh => by rw [List.map_cons, List.map_cons, hn.1 hh, i2 hh], i3⟩

/-- No part begins as what closes a row. -/
def Opens (l : List UInt8) : Prop := ∀ c r, l = c :: r → c ≠ 41 ∧ c ≠ 44 ∧ c ≠ 125 ∧ c ≠ 93
theorem join_inj (nm : Bool) (z : UInt8) (hz : z = 41 ∨ z = 125 ∨ z = 93) (P P' : List (ByteArray × Ty)) (x y : List UInt8) (h1 : ∀ p ∈ P, Told p.2) (h2 : ∀ p ∈ P', allOk p.2 = true) (h3 : ∀ p ∈ P, Word p.1.data.toList) (h4 : ∀ p ∈ P', Word p.1.data.toList)
    (o1 : ∀ p ∈ P, ∃ c r, partT nm p = c :: r ∧ c ≠ z) (o2 : ∀ p ∈ P', ∃ c r, partT nm p = c :: r ∧ c ≠ z)
    (h : joinC (P.map (partT nm)) ++ z :: x = joinC (P'.map (partT nm)) ++ z :: y) : P.map (·.2) = P'.map (·.2) ∧ (nm = true → P.map (·.1) = P'.map (·.1)) ∧ x = y := by
  cases P with
  | nil =>
    cases P' with
    | nil => simp [joinC] at h; exact ⟨rfl, fun _ => rfl, h⟩
    | cons q P' =>
      obtain ⟨c, r, e, hc⟩ := o2 q (by simp)
      simp [joinC, e] at h
      exact absurd h.1.symm hc
  | cons p P =>
    cases P' with
    | nil =>
      obtain ⟨c, r, e, hc⟩ := o1 p (by simp)
      simp [joinC, e] at h
      exact absurd h.1 hc
    | cons q P' =>
      refine tl_inj nm z hz (p :: P) (q :: P') x y h1 h2 h3 h4 ?_
      simp only [List.map_cons, tlC, List.append_assoc, List.cons_append, List.nil_append, List.cons.injEq, true_and]
      simpa [joinC] using h

end Go.Proofs.YtpfoclpgcbjjoaaGreatDoor.M

/- Plain mathematics for layer 4: types that may be, and are unlike, have unlike texts: the induction. -/
namespace Go.Proofs.YtpfoclpgcbjjoaaGreatDoor.M
open Go

theorem empty_bytes {s : ByteArray} (h : s.size = 0) : s = ⟨#[]⟩ := by
  apply bytes_list.1
  exact List.length_eq_zero_iff.1 (by rw [len_size]; exact h)
theorem empty_is : (⟨#[]⟩ : ByteArray) = ByteArray.empty := rfl
theorem no_more {t : Ty} (h : noMore t = true) : t.pkg = ⟨#[]⟩ ∧ t.major = 0 ∧ t.mod = ⟨#[]⟩ ∧ t.name = ⟨#[]⟩ := by
  unfold noMore emptyB at h
  simp only [Bool.and_eq_true, decide_eq_true_eq, beq_iff_eq] at h
  exact ⟨empty_bytes h.1.1.1, h.1.1.2, empty_bytes h.1.2, empty_bytes h.2⟩

/-- The shapes of types whose own fields may be. -/
theorem forms (t : Ty) (h : ownOk t = true) :
    (∃ k, (k = 1 ∨ k = 2 ∨ k = 3) ∧ t = .mk k ⟨#[]⟩ 0 ⟨#[]⟩ ⟨#[]⟩ [] []) ∨ (∃ s, t = .mk 4 ⟨#[]⟩ 0 ⟨#[]⟩ ⟨#[]⟩ [] [s]) ∨
    (∃ ns ss, t = .mk 5 ⟨#[]⟩ 0 ⟨#[]⟩ ⟨#[]⟩ ns ss ∧ ss.length = ns.length ∧ ∀ i, i < ns.length → smallB (nameAt ns i).data.toList = true) ∨
    (∃ ns ss, t = .mk 6 ⟨#[]⟩ 0 ⟨#[]⟩ ⟨#[]⟩ ns ss ∧ ss.length = ns.length ∧ ∀ i, i < ns.length → greatB (nameAt ns i).data.toList = true) ∨
    (∃ ss, t = .mk 7 ⟨#[]⟩ 0 ⟨#[]⟩ ⟨#[]⟩ [] ss ∧ 0 < ss.length) ∨
    (∃ d n, t = .mk 8 ⟨#[]⟩ 0 d n [] [] ∧ greatB n.data.toList = true ∧ (smallB d.data.toList = true ∨ d = ⟨#[]⟩)) ∨
    (∃ p m d n, t = .mk 9 p m d n [] [] ∧ smallB p.data.toList = true ∧ smallB d.data.toList = true ∧ greatB n.data.toList = true ∧ 1 ≤ m) := by
  unfold ownOk at h
  simp only [Bool.and_eq_true] at h
  obtain ⟨⟨-, hn⟩, hs⟩ := h
  have hbad := (namesOk_iff _ _).1 hn
  unfold shapeOk at hs
  by_cases k1 : t.kind = 1 ∨ t.kind = 2 ∨ t.kind = 3
  · rw [if_pos k1] at hs
    simp only [Bool.and_eq_true, decide_eq_true_eq] at hs
    obtain ⟨e1, e2, e3, e4⟩ := no_more hs.1.1
    exact .inl ⟨t.kind, k1, ty_ext rfl e1 e2 e3 e4 (List.length_eq_zero_iff.1 hs.2) (List.length_eq_zero_iff.1 hs.1.2)⟩
  rw [if_neg k1] at hs
  by_cases k4 : t.kind = 4
  · rw [if_pos k4] at hs
    simp only [Bool.and_eq_true, decide_eq_true_eq] at hs
    obtain ⟨e1, e2, e3, e4⟩ := no_more hs.1.1
    obtain ⟨s, es⟩ := List.length_eq_one_iff.1 hs.1.2
    exact .inr (.inl ⟨s, ty_ext k4 e1 e2 e3 e4 (List.length_eq_zero_iff.1 hs.2) es⟩)
  rw [if_neg k4] at hs
  by_cases k5 : t.kind = 5
  · rw [if_pos k5] at hs
    simp only [Bool.and_eq_true, decide_eq_true_eq] at hs
    obtain ⟨e1, e2, e3, e4⟩ := no_more hs.1
    refine .inr (.inr (.inl ⟨t.names, t.subs, ty_ext k5 e1 e2 e3 e4 rfl rfl, hs.2, fun i hi => ?_⟩))
    have := hbad i hi
    unfold badName at this
    rw [k5] at this
    simp only [Bool.or_eq_false_iff, Bool.and_eq_false_iff, Bool.not_eq_false'] at this
    rcases this.1.1 with a | a
    · simp at a
    · exact a
  rw [if_neg k5] at hs
  by_cases k6 : t.kind = 6
  · rw [if_pos k6] at hs
    simp only [Bool.and_eq_true, decide_eq_true_eq] at hs
    obtain ⟨e1, e2, e3, e4⟩ := no_more hs.1.1
    refine .inr (.inr (.inr (.inl ⟨t.names, t.subs, ty_ext k6 e1 e2 e3 e4 rfl rfl, hs.1.2, fun i hi => ?_⟩)))
    have := hbad i hi
    unfold badName at this
    rw [k6] at this
    simp only [Bool.or_eq_false_iff, Bool.and_eq_false_iff, Bool.not_eq_false'] at this
    rcases this.1.2 with a | a
    · simp at a
    · exact a
  rw [if_neg k6] at hs
  by_cases k7 : t.kind = 7
  · rw [if_pos k7] at hs
    simp only [Bool.and_eq_true, decide_eq_true_eq] at hs
    obtain ⟨e1, e2, e3, e4⟩ := no_more hs.1.1
    exact .inr (.inr (.inr (.inr (.inl ⟨t.subs, ty_ext k7 e1 e2 e3 e4 (List.length_eq_zero_iff.1 hs.2) rfl, hs.1.2⟩))))
  rw [if_neg k7] at hs
  by_cases k8 : t.kind = 8
  · rw [if_pos k8] at hs
    unfold emptyB at hs
    simp only [Bool.and_eq_true, Bool.or_eq_true, decide_eq_true_eq, beq_iff_eq] at hs
    obtain ⟨⟨⟨⟨⟨a, b⟩, c⟩, e⟩, f⟩, g⟩ := hs
    exact .inr (.inr (.inr (.inr (.inr (.inl ⟨t.mod, t.name, ty_ext k8 (empty_bytes c) e rfl rfl (List.length_eq_zero_iff.1 b) (List.length_eq_zero_iff.1 a), f, g.imp id empty_bytes⟩)))))
  rw [if_neg k8] at hs
  by_cases k9 : t.kind = 9
  · rw [if_pos k9] at hs
    simp only [Bool.and_eq_true, decide_eq_true_eq] at hs
    obtain ⟨⟨⟨⟨⟨⟨a, b⟩, c⟩, e⟩, f⟩, g⟩, -⟩ := hs
    exact .inr (.inr (.inr (.inr (.inr (.inr ⟨t.pkg, t.major, t.mod, t.name, ty_ext k9 rfl rfl rfl rfl (List.length_eq_zero_iff.1 b) (List.length_eq_zero_iff.1 a), c, e, f, g⟩)))))
  rw [if_neg k9] at hs
  cases hs

/-- Which kind begins so: a word, and what stands behind it. -/
def tag (w r : List UInt8) : Int :=
  if w = [73, 110, 116] then 1 else if w = [84, 101, 120, 116] then 2 else if w = [66, 111, 111, 108] then 3 else if w = [76, 105, 115, 116] then 4
  else if w = [] then (if r.head? = some 123 then 5 else if r.head? = some 91 then 6 else if r.head? = some 40 then 7 else 9) else 8
theorem tag_name {l r : List UInt8} (h : l ≠ []) (hw : l ∉ words) : tag l r = 8 := by
  have h1 : l ≠ [73, 110, 116] := fun e => hw (by rw [e]; decide)
  have h2 : l ≠ [84, 101, 120, 116] := fun e => hw (by rw [e]; decide)
  have h3 : l ≠ [66, 111, 111, 108] := fun e => hw (by rw [e]; decide)
  have h4 : l ≠ [76, 105, 115, 116] := fun e => hw (by rw [e]; decide)
  unfold tag
  rw [if_neg h1, if_neg h2, if_neg h3, if_neg h4, if_neg h]
theorem split (t : Ty) (h : ownOk t = true) : ∃ w r, textT t = w ++ r ∧ Word w ∧ ∀ x, Stop x → Halt (r ++ x) ∧ tag w (r ++ x) = t.kind := by
  rcases forms t h with ⟨k, hk, rfl⟩ | ⟨s, rfl⟩ | ⟨ns, ss, rfl, -, -⟩ | ⟨ns, ss, rfl, -, -⟩ | ⟨ss, rfl, -⟩ | ⟨d, n, rfl, hn, hd⟩ | ⟨p, m, d, n, rfl, hp, hd, hn, hm⟩
  · rcases hk with rfl | rfl | rfl
    · exact ⟨[73, 110, 116], [], rfl, by unfold Word; decide, fun x hx => ⟨by simpa using hx.halt, rfl⟩⟩
    · exact ⟨[84, 101, 120, 116], [], rfl, by unfold Word; decide, fun x hx => ⟨by simpa using hx.halt, rfl⟩⟩
    · exact ⟨[66, 111, 111, 108], [], rfl, by unfold Word; decide, fun x hx => ⟨by simpa using hx.halt, rfl⟩⟩
  · exact ⟨[76, 105, 115, 116], [40] ++ textT s ++ [41], by simp [textT, kindText, textsT], by unfold Word; decide, fun x hx => ⟨halt_cons (by decide), rfl⟩⟩
  · exact ⟨[], _, (List.nil_append _).symm, by unfold Word; decide, fun x hx => by simp only [textT, kindText]; exact ⟨halt_cons (by decide), rfl⟩⟩
  · exact ⟨[], _, (List.nil_append _).symm, by unfold Word; decide, fun x hx => by simp only [textT, kindText]; exact ⟨halt_cons (by decide), rfl⟩⟩
  · exact ⟨[], _, (List.nil_append _).symm, by unfold Word; decide, fun x hx => by simp only [textT, kindText]; exact ⟨halt_cons (by decide), rfl⟩⟩
  · rcases hd with hd | rfl
    · have hne := spell_ne (small_spell hd)
      have hz : d.size ≠ 0 := fun e => hne (List.length_eq_zero_iff.1 (by rw [len_size]; exact e))
      exact ⟨d.data.toList, [46] ++ n.data.toList, by simp [textT, kindText, hz], small_word hd, fun x hx => ⟨halt_cons (by decide), tag_name hne (small_not_word hd)⟩⟩
    · exact ⟨n.data.toList, [], by simp [textT, kindText, empty_is], great_word hn, fun x hx => ⟨by simpa using hx.halt, tag_name (spell_ne (great_spell hn)) (great_not_word hn)⟩⟩
  · exact ⟨[], _, (List.nil_append _).symm, by unfold Word; decide, fun x hx => by simp only [textT, kindText]; exact ⟨halt_cons (by decide), rfl⟩⟩

/-- A type's text begins with no sign that closes. -/
theorem text_opens (t : Ty) (h : ownOk t = true) (z : UInt8) (hz : z = 41 ∨ z = 125 ∨ z = 93) : ∃ c r, textT t = c :: r ∧ c ≠ z := by
  have key : ∀ (l r : List UInt8), l ≠ [] → Word l → ∃ c s, l ++ r = c :: s ∧ c ≠ z := by
    intro l r hl hw
    cases l with
    | nil => exact absurd rfl hl
    | cons c l => exact ⟨c, l ++ r, rfl, fun e => by
        have := hw c (by simp)
        rw [e] at this
        rcases hz with rfl | rfl | rfl <;> revert this <;> decide⟩
  rcases forms t h with ⟨k, hk, rfl⟩ | ⟨s, rfl⟩ | ⟨ns, ss, rfl, -, -⟩ | ⟨ns, ss, rfl, -, -⟩ | ⟨ss, rfl, -⟩ | ⟨d, n, rfl, hn, hd⟩ | ⟨p, m, d, n, rfl, hp, hd, hn, hm⟩
  · rcases hk with rfl | rfl | rfl <;> exact ⟨_, _, rfl, by rcases hz with rfl | rfl | rfl <;> decide⟩
  · exact ⟨76, _, rfl, by rcases hz with rfl | rfl | rfl <;> decide⟩
  · exact ⟨123, _, rfl, by rcases hz with rfl | rfl | rfl <;> decide⟩
  · exact ⟨91, _, rfl, by rcases hz with rfl | rfl | rfl <;> decide⟩
  · exact ⟨40, _, rfl, by rcases hz with rfl | rfl | rfl <;> decide⟩
  · rcases hd with hd | rfl
    · have hne := spell_ne (small_spell hd)
      have hz : d.size ≠ 0 := fun e => hne (List.length_eq_zero_iff.1 (by rw [len_size]; exact e))
      obtain ⟨c, s, e, hc⟩ := key d.data.toList ([46] ++ n.data.toList) hne (small_word hd)
      exact ⟨c, s, by rw [← e]; simp [textT, kindText, hz], hc⟩
    · obtain ⟨c, s, e, hc⟩ := key n.data.toList [] (spell_ne (great_spell hn)) (great_word hn)
      exact ⟨c, s, by rw [← e]; simp [textT, kindText, empty_is], hc⟩
  · exact ⟨60, _, rfl, by rcases hz with rfl | rfl | rfl <;> decide⟩

theorem row_zip (ns : List ByteArray) (ss : List Ty) (h : ss.length = ns.length) : rowOf (textsT ss) ns ss.length = joinC ((ns.zip ss).map (partT true)) := by
  rw [row_join]
  congr 1
  apply List.ext_getElem
  · simp [h]
  · intro i h1 h2
    have hi : i < ss.length := by simpa using h1
    have hn : i < ns.length := by omega
    have e1 := textsT_at ss i ss[i] (List.getElem?_eq_getElem hi)
    have e2 : nameAt ns i = ns[i] := by unfold nameAt; rw [List.getD_eq_getElem?_getD, List.getElem?_eq_getElem hn]; rfl
    simp only [List.getElem_map, List.getElem_range, List.getElem_zip, itemAt, partT, if_true]
    rw [if_pos (by omega), e1, e2]
theorem row_plain (ss : List Ty) (m : Nat) (h : m ≤ ss.length) : rowOf (textsT ss) [] m = joinC (((ss.take m).map fun t => ((⟨#[]⟩ : ByteArray), t)).map (partT false)) := by
  rw [row_join]
  congr 1
  apply List.ext_getElem
  · simp; omega
  · intro i h1 h2
    have hi : i < m := by simpa using h1
    have e1 := textsT_at ss i ss[i] (List.getElem?_eq_getElem (by omega))
    simp only [List.getElem_map, List.getElem_range, List.getElem_take, itemAt, partT]
    rw [e1]
    simp

theorem told_all (N : Nat) : ∀ t : Ty, many t ≤ N → allOk t = true → Told t := by
  induction N with
  | zero => intro t h; have := many_pos t; omega
  | succ N ih =>
    intro t hN hok q x y hq hx hy h
    have ho : ownOk t = true ∧ allOkL t.subs = true := by rw [allOk_eq] at hok; simpa using hok
    have ho' : ownOk q = true ∧ allOkL q.subs = true := by rw [allOk_eq] at hq; simpa using hq
    have IH : ∀ s, s ∈ t.subs → Told s := fun s hs => ih s (by have := manyL_mem t.subs s hs; have hm : many t = 1 + manyL t.subs := by cases t; rfl
                                                               omega) ((allOkL_mem _).1 ho.2 s hs)
    have AQ : ∀ s, s ∈ q.subs → allOk s = true := (allOkL_mem _).1 ho'.2
    have AT : ∀ s, s ∈ t.subs → allOk s = true := (allOkL_mem _).1 ho.2
    have OW : ∀ s, allOk s = true → ownOk s = true := fun s hs => by rw [allOk_eq] at hs; simp only [Bool.and_eq_true] at hs; exact hs.1
    have hkind : t.kind = q.kind := by
      obtain ⟨w, r, e, hw, hr⟩ := split t ho.1
      obtain ⟨w', r', e', hw', hr'⟩ := split q ho'.1
      rw [e, e', List.append_assoc, List.append_assoc] at h
      obtain ⟨a, b⟩ := munch hw hw' (hr x hx).1 (hr' y hy).1 h
      rw [← (hr x hx).2, ← (hr' y hy).2, a, b]
    rcases forms t ho.1 with ⟨k, hk, rfl⟩ | ⟨s, rfl⟩ | ⟨ns, ss, rfl, hl, hn⟩ | ⟨ns, ss, rfl, hl, hn⟩ | ⟨ss, rfl, hl⟩ | ⟨d, n, rfl, hn, hd⟩ | ⟨p, m, d, n, rfl, hp, hd, hn, hm⟩ <;>
    rcases forms q ho'.1 with ⟨k', hk', rfl⟩ | ⟨s', rfl⟩ | ⟨ns', ss', rfl, hl', hn'⟩ | ⟨ns', ss', rfl, hl', hn'⟩ | ⟨ss', rfl, hl'⟩ | ⟨d', n', rfl, hn', hd'⟩ | ⟨p', m', d', n', rfl, hp', hd', hn', hm'⟩ <;>
    simp only [Ty.kind] at hkind <;> first
      | (exfalso; omega)
      | skip
    · subst hkind
      rcases hk with rfl | rfl | rfl <;> exact ⟨rfl, List.append_cancel_left h⟩
    · have h2 : textT s ++ (41 :: x) = textT s' ++ (41 :: y) := by simpa [textT, kindText, textsT] using h
      obtain ⟨e, e2⟩ := IH s (by simp [Ty.subs]) s' _ _ (AQ s' (by simp [Ty.subs])) (stop_cons (by simp)) (stop_cons (by simp)) h2
      exact ⟨by rw [e], by simpa using e2⟩
    · have h2 : joinC ((ns.zip ss).map (partT true)) ++ 125 :: x = joinC ((ns'.zip ss').map (partT true)) ++ 125 :: y := by
        rw [← row_zip ns ss hl, ← row_zip ns' ss' hl']
        simpa [textT, kindText, textsT_len] using h
      have W : ∀ (ns : List ByteArray) (ss : List Ty), (∀ i, i < ns.length → smallB (nameAt ns i).data.toList = true) → ∀ p ∈ ns.zip ss, smallB p.1.data.toList = true := by
        intro ns ss hn p hp
        obtain ⟨i, hi⟩ := List.getElem?_of_mem (List.of_mem_zip hp).1
        have := hn i (List.getElem?_eq_some_iff.1 hi).1
        unfold nameAt at this
        rw [List.getD_eq_getElem?_getD, hi] at this
        exact this
      have O : ∀ p : ByteArray × Ty, smallB p.1.data.toList = true → ∃ c r, partT true p = c :: r ∧ c ≠ 125 := by
        intro p hp
        have hne := spell_ne (small_spell hp)
        have hw := small_word hp
        unfold partT
        cases hl : p.1.data.toList with
        | nil => exact absurd hl hne
        | cons c l => exact ⟨c, l ++ 58 :: 32 :: textT p.2, by simp, fun e => by have := hw c (by rw [hl]; simp); rw [e] at this; revert this; decide⟩
      obtain ⟨a, b, c⟩ := join_inj true 125 (by simp) (ns.zip ss) (ns'.zip ss') x y (fun p hp => IH p.2 (List.of_mem_zip hp).2) (fun p hp => AQ p.2 (List.of_mem_zip hp).2) (fun p hp => small_word (W ns ss hn p hp)) (fun p hp => small_word (W ns' ss' hn' p hp)) (fun p hp => O p (W ns ss hn p hp)) (fun p hp => O p (W ns' ss' hn' p hp)) h2
      have b := b rfl
      rw [List.map_snd_zip (by omega), List.map_snd_zip (by omega)] at a
      rw [List.map_fst_zip (by omega), List.map_fst_zip (by omega)] at b
      exact ⟨by rw [a, b], c⟩
    · have h2 : joinC ((ns.zip ss).map (partT true)) ++ 93 :: x = joinC ((ns'.zip ss').map (partT true)) ++ 93 :: y := by
        rw [← row_zip ns ss hl, ← row_zip ns' ss' hl']
        simpa [textT, kindText, textsT_len] using h
      have W : ∀ (ns : List ByteArray) (ss : List Ty), (∀ i, i < ns.length → greatB (nameAt ns i).data.toList = true) → ∀ p ∈ ns.zip ss, greatB p.1.data.toList = true := by
        intro ns ss hn p hp
        obtain ⟨i, hi⟩ := List.getElem?_of_mem (List.of_mem_zip hp).1
        have := hn i (List.getElem?_eq_some_iff.1 hi).1
        unfold nameAt at this
        rw [List.getD_eq_getElem?_getD, hi] at this
        exact this
      have O : ∀ p : ByteArray × Ty, greatB p.1.data.toList = true → ∃ c r, partT true p = c :: r ∧ c ≠ 93 := by
        intro p hp
        have hne := spell_ne (great_spell hp)
        have hw := great_word hp
        unfold partT
        cases hl : p.1.data.toList with
        | nil => exact absurd hl hne
        | cons c l => exact ⟨c, l ++ 58 :: 32 :: textT p.2, by simp, fun e => by have := hw c (by rw [hl]; simp); rw [e] at this; revert this; decide⟩
      obtain ⟨a, b, c⟩ := join_inj true 93 (by simp) (ns.zip ss) (ns'.zip ss') x y (fun p hp => IH p.2 (List.of_mem_zip hp).2) (fun p hp => AQ p.2 (List.of_mem_zip hp).2) (fun p hp => great_word (W ns ss hn p hp)) (fun p hp => great_word (W ns' ss' hn' p hp)) (fun p hp => O p (W ns ss hn p hp)) (fun p hp => O p (W ns' ss' hn' p hp)) h2
      have b := b rfl
      rw [List.map_snd_zip (by omega), List.map_snd_zip (by omega)] at a
      rw [List.map_fst_zip (by omega), List.map_fst_zip (by omega)] at b
      exact ⟨by rw [a, b], c⟩
    · obtain ⟨m, hm⟩ : ∃ m, ss.length = m + 1 := ⟨ss.length - 1, by omega⟩
      obtain ⟨m', hm'⟩ : ∃ m, ss'.length = m + 1 := ⟨ss'.length - 1, by omega⟩
      obtain ⟨r, hr⟩ : ∃ r, ss[m]? = some r := ⟨_, List.getElem?_eq_getElem (by omega)⟩
      obtain ⟨r', hr'⟩ : ∃ r, ss'[m']? = some r := ⟨_, List.getElem?_eq_getElem (by omega)⟩
      have e1 : textT (.mk 7 ⟨#[]⟩ 0 ⟨#[]⟩ ⟨#[]⟩ [] ss) = [40] ++ rowOf (textsT ss) [] m ++ [41, 32, 45, 62, 32] ++ textT r := by
        show [40] ++ rowOf (textsT ss) [] ((textsT ss).length - 1) ++ [41, 32, 45, 62, 32] ++ (textsT ss).getD ((textsT ss).length - 1) [] = _
        rw [textsT_len, hm, Nat.add_sub_cancel, textsT_at _ m r hr]
      have e2 : textT (.mk 7 ⟨#[]⟩ 0 ⟨#[]⟩ ⟨#[]⟩ [] ss') = [40] ++ rowOf (textsT ss') [] m' ++ [41, 32, 45, 62, 32] ++ textT r' := by
        show [40] ++ rowOf (textsT ss') [] ((textsT ss').length - 1) ++ [41, 32, 45, 62, 32] ++ (textsT ss').getD ((textsT ss').length - 1) [] = _
        rw [textsT_len, hm', Nat.add_sub_cancel, textsT_at _ m' r' hr']
      rw [e1, e2, row_plain ss m (by omega), row_plain ss' m' (by omega)] at h
      have h2 : joinC (((ss.take m).map fun t => ((⟨#[]⟩ : ByteArray), t)).map (partT false)) ++ 41 :: ([32, 45, 62, 32] ++ textT r ++ x) = joinC (((ss'.take m').map fun t => ((⟨#[]⟩ : ByteArray), t)).map (partT false)) ++ 41 :: ([32, 45, 62, 32] ++ textT r' ++ y) := by
        simpa using h
      have MT : ∀ (ss : List Ty) (m : Nat) (p : ByteArray × Ty), p ∈ (ss.take m).map (fun t => ((⟨#[]⟩ : ByteArray), t)) → p.1 = ⟨#[]⟩ ∧ p.2 ∈ ss := by
        intro ss m p hp
        obtain ⟨t, ht, rfl⟩ := List.mem_map.1 hp
        exact ⟨rfl, List.mem_of_mem_take ht⟩
      have WD : ∀ (ss : List Ty) (m : Nat) (p : ByteArray × Ty), p ∈ (ss.take m).map (fun t => ((⟨#[]⟩ : ByteArray), t)) → Word p.1.data.toList := by
        intro ss m p hp c hc
        rw [(MT ss m p hp).1] at hc
        simp at hc
      have O : ∀ p : ByteArray × Ty, allOk p.2 = true → ∃ c r, partT false p = c :: r ∧ c ≠ 41 := by
        intro p hp
        obtain ⟨c, r, e, hc⟩ := text_opens p.2 (OW _ hp) 41 (by simp)
        exact ⟨c, r, by simpa [partT] using e, hc⟩
      obtain ⟨a, -, c⟩ := join_inj false 41 (by simp) _ _ _ _ (fun p hp => IH p.2 (MT ss m p hp).2) (fun p hp => AQ p.2 (MT ss' m' p hp).2) (WD ss m) (WD ss' m') (fun p hp => O p (AT p.2 (MT ss m p hp).2)) (fun p hp => O p (AQ p.2 (MT ss' m' p hp).2)) h2
      have h3 : textT r ++ x = textT r' ++ y := by simpa using c
      obtain ⟨e3, e4⟩ := IH r (List.mem_of_getElem? hr) r' _ _ (AQ r' (List.mem_of_getElem? hr')) hx hy h3
      have a' : ss.take m = ss'.take m' := by simpa [Function.comp_def] using a
      have f1 : ss = ss.take m ++ [r] := by
        conv => lhs; rw [← List.take_of_length_le (Nat.le_of_eq hm)]
        rw [List.take_add_one, hr]; rfl
      have f2 : ss' = ss'.take m' ++ [r'] := by
        conv => lhs; rw [← List.take_of_length_le (Nat.le_of_eq hm')]
        rw [List.take_add_one, hr']; rfl
      exact ⟨by rw [f1, f2, a', e3], e4⟩
    · rcases hd with hd | rfl <;> rcases hd' with hd' | rfl
      · have hz : d.size ≠ 0 := fun e => spell_ne (small_spell hd) (List.length_eq_zero_iff.1 (by rw [len_size]; exact e))
        have hz' : d'.size ≠ 0 := fun e => spell_ne (small_spell hd') (List.length_eq_zero_iff.1 (by rw [len_size]; exact e))
        have h2 : d.data.toList ++ (46 :: (n.data.toList ++ x)) = d'.data.toList ++ (46 :: (n'.data.toList ++ y)) := by simpa [textT, kindText, hz, hz'] using h
        obtain ⟨a, b⟩ := munch (small_word hd) (small_word hd') (halt_cons (by decide)) (halt_cons (by decide)) h2
        simp only [List.cons.injEq, true_and] at b
        obtain ⟨c, e⟩ := munch (great_word hn) (great_word hn') hx.halt hy.halt b
        exact ⟨by rw [bytes_list.1 a, bytes_list.1 c], e⟩
      · have hz : d.size ≠ 0 := fun e => spell_ne (small_spell hd) (List.length_eq_zero_iff.1 (by rw [len_size]; exact e))
        have h2 : d.data.toList ++ (46 :: (n.data.toList ++ x)) = n'.data.toList ++ y := by simpa [textT, kindText, hz, empty_is] using h
        obtain ⟨a, -⟩ := munch (small_word hd) (great_word hn') (halt_cons (by decide)) hy.halt h2
        rw [a] at hd
        have := small_not_great hd
        rw [hn'] at this; cases this
      · have hz' : d'.size ≠ 0 := fun e => spell_ne (small_spell hd') (List.length_eq_zero_iff.1 (by rw [len_size]; exact e))
        have h2 : n.data.toList ++ x = d'.data.toList ++ (46 :: (n'.data.toList ++ y)) := by simpa [textT, kindText, hz', empty_is] using h
        obtain ⟨a, -⟩ := munch (great_word hn) (small_word hd') hx.halt (halt_cons (by decide)) h2
        rw [← a] at hd'
        have := small_not_great hd'
        rw [hn] at this; cases this
      · have h2 : n.data.toList ++ x = n'.data.toList ++ y := by simpa [textT, kindText, empty_is] using h
        obtain ⟨a, b⟩ := munch (great_word hn) (great_word hn') hx.halt hy.halt h2
        exact ⟨by rw [bytes_list.1 a], b⟩
    · have h2 : p.data.toList ++ (32 :: ((dec m).data.toList ++ (32 :: (d.data.toList ++ (32 :: (n.data.toList ++ (62 :: x))))))) = p'.data.toList ++ (32 :: ((dec m').data.toList ++ (32 :: (d'.data.toList ++ (32 :: (n'.data.toList ++ (62 :: y))))))) := by
        simpa [textT, kindText] using h
      obtain ⟨a1, b1⟩ := munch (small_word hp) (small_word hp') (halt_cons (by decide)) (halt_cons (by decide)) h2
      simp only [List.cons.injEq, true_and] at b1
      obtain ⟨a2, b2⟩ := munch (dec_word m) (dec_word m') (halt_cons (by decide)) (halt_cons (by decide)) b1
      simp only [List.cons.injEq, true_and] at b2
      obtain ⟨a3, b3⟩ := munch (small_word hd) (small_word hd') (halt_cons (by decide)) (halt_cons (by decide)) b2
      simp only [List.cons.injEq, true_and] at b3
      obtain ⟨a4, b4⟩ := munch (great_word hn) (great_word hn') (halt_cons (by decide)) (halt_cons (by decide)) b3
      simp only [List.cons.injEq, true_and] at b4
      exact ⟨by rw [bytes_list.1 a1, dec_inj (by omega) (by omega) a2, bytes_list.1 a3, bytes_list.1 a4], b4⟩

/-- Types that may be, and have one text, are one type. -/
theorem text_inj {a b : Ty} (ha : allOk a = true) (hb : allOk b = true) (h : textT a = textT b) : a = b :=
  (told_all _ a (Nat.le_refl _) ha b [] [] hb (fun c r e => by simp at e) (fun c r e => by simp at e) (by rw [h])).1

end Go.Proofs.YtpfoclpgcbjjoaaGreatDoor.M

/- Plain mathematics for layer 6: what tokens a text has, told a piece at a time. -/
namespace Go.Proofs.YtpfoclpgcbjjoaaGreatDoor.M
open Go

abbrev Tk := Nat × List UInt8
/-- A text has these tokens. -/
inductive Lexes : List UInt8 → List Tk → Prop
  | nil : Lexes [] []
  | blank {c : UInt8} {r : List UInt8} {ts : List Tk} : blankC (c.toNat : Int) = true → Lexes r ts → Lexes (c :: r) ts
  | word {k : Nat} {w r : List UInt8} {ts : List Tk} : ((k = 1 ∧ lowC (bt w 0) = true) ∨ (k = 2 ∧ upC (bt w 0) = true)) → w ≠ [] → Word w → Halt r → Lexes r ts → Lexes (w ++ r) ((k, w) :: ts)
  | num {w r : List UInt8} {ts : List Tk} : w ≠ [] → (∀ c ∈ w, digC (c.toNat : Int) = true) → Halt r → Lexes r ts → Lexes (w ++ r) ((3, w) :: ts)
  | two {a b : UInt8} {r : List UInt8} {ts : List Tk} : twoC (a.toNat : Int) (b.toNat : Int) = true → Lexes r ts → Lexes (a :: b :: r) ((4, [a, b]) :: ts)
  | sign {c : UInt8} {r : List UInt8} {ts : List Tk} : signC (c.toNat : Int) = true → twoC (c.toNat : Int) (bt r 0) = false → Lexes r ts → Lexes (c :: r) ((4, [c]) :: ts)

theorem bt_app0 {w r : List UInt8} (h : w ≠ []) : bt (w ++ r) 0 = bt w 0 := by
  cases w with
  | nil => exact absurd rfl h
  | cons c w => rfl
theorem stop_word (g : Int → Bool) (w r : List UInt8) (hne : w ≠ []) (hw : ∀ c ∈ w, g (c.toNat : Int) = true) (hr : ∀ c s, r = c :: s → g (c.toNat : Int) = false) : stop g (w ++ r) 1 = w.length := by
  refine stop_eq g (w ++ r) 1 w.length (List.length_pos_iff.2 hne) (by simp) (fun j h1 h2 => ?_) ?_
  · have e : bt (w ++ r) j = (w[j].toNat : Int) := by
      unfold bt
      rw [List.getD_eq_getElem?_getD, List.getElem?_append_left h2, List.getElem?_eq_getElem h2]; rfl
    rw [e]; exact hw _ (List.getElem_mem h2)
  · cases r with
    | nil => left; simp
    | cons c s =>
      right
      have e : bt (w ++ c :: s) w.length = (c.toNat : Int) := by
        unfold bt
        rw [List.getD_eq_getElem?_getD, List.getElem?_append_right (Nat.le_refl _)]; simp
      rw [e]; exact hr c s rfl

theorem item_word {k : Nat} {w r : List UInt8} (hk : (k = 1 ∧ lowC (bt w 0) = true) ∨ (k = 2 ∧ upC (bt w 0) = true)) (hne : w ≠ []) (hw : Word w) (hr : Halt r) : item (w ++ r) 0 = (k, w.length) := by
  have hs := stop_word anyC w r hne hw hr
  unfold item
  rw [bt_app0 hne, show 0 + 1 = 1 from rfl, hs]
  generalize bt w 0 = x at hk
  generalize bt (w ++ r) 1 = y
  rcases hk with ⟨rfl, h⟩ | ⟨rfl, h⟩
  · have h' := h
    unfold lowC at h'
    simp only [Bool.and_eq_true, decide_eq_true_eq] at h'
    rw [if_neg (by unfold blankC; simp; omega), if_neg (by omega), if_pos h]
  · have h' := h
    unfold upC at h'
    simp only [Bool.and_eq_true, decide_eq_true_eq] at h'
    rw [if_neg (by unfold blankC; simp; omega), if_neg (by omega), if_neg (by unfold lowC; simp; omega), if_pos h]
theorem halt_dig {r : List UInt8} (hr : Halt r) : ∀ c s, r = c :: s → digC (c.toNat : Int) = false := fun c s e => by
  have h := hr c s e
  unfold alnum anyC at h
  simp only [Bool.or_eq_false_iff] at h
  exact h.2
theorem item_num {w r : List UInt8} (hne : w ≠ []) (hw : ∀ c ∈ w, digC (c.toNat : Int) = true) (hr : Halt r) : item (w ++ r) 0 = (3, w.length) := by
  have hs := stop_word digC w r hne hw (halt_dig hr)
  unfold item
  rw [bt_app0 hne, show 0 + 1 = 1 from rfl, hs]
  have h : digC (bt w 0) = true := by
    cases w with
    | nil => exact absurd rfl hne
    | cons c w => exact hw c (by simp)
  generalize bt w 0 = x at h
  generalize bt (w ++ r) 1 = y
  have h' := h
  unfold digC at h'
  simp only [Bool.and_eq_true, decide_eq_true_eq] at h'
  rw [if_neg (by unfold blankC; simp; omega), if_neg (by omega), if_neg (by unfold lowC; simp; omega), if_neg (by unfold upC; simp; omega), if_pos h]
theorem item_blank {c : UInt8} {r : List UInt8} (h : blankC (c.toNat : Int) = true) : item ([c] ++ r) 0 = (0, [c].length) := by
  unfold item
  rw [if_pos (by exact h)]; rfl
theorem sign_range {n : Int} (h : signC n = true) : blankC n = false ∧ n ≠ 35 ∧ lowC n = false ∧ upC n = false ∧ digC n = false := by
  unfold signC signs at h
  have hm : n ∈ ([123, 125, 40, 41, 91, 93, 60, 62, 44, 58, 46, 61] : List Int) := by simpa using h
  have key : ∀ n ∈ ([123, 125, 40, 41, 91, 93, 60, 62, 44, 58, 46, 61] : List Int), blankC n = false ∧ n ≠ 35 ∧ lowC n = false ∧ upC n = false ∧ digC n = false := by decide
  exact key n hm
theorem two_range {a b : Int} (h : twoC a b = true) : blankC a = false ∧ a ≠ 35 ∧ lowC a = false ∧ upC a = false ∧ digC a = false := by
  have : a = 45 ∨ a = 46 := by
    unfold twoC at h
    simp only [Bool.or_eq_true, Bool.and_eq_true, beq_iff_eq] at h
    rcases h with h | h
    · exact .inl h.1
    · exact .inr h.1
  rcases this with rfl | rfl <;> decide
theorem item_two {a b : UInt8} {r : List UInt8} (h : twoC (a.toNat : Int) (b.toNat : Int) = true) : item ([a, b] ++ r) 0 = (4, [a, b].length) := by
  obtain ⟨h1, h2, h3, h4, h5⟩ := two_range h
  unfold item
  have e0 : bt ([a, b] ++ r) 0 = (a.toNat : Int) := rfl
  have e1 : bt ([a, b] ++ r) (0 + 1) = (b.toNat : Int) := rfl
  rw [e0, e1, if_neg (by rw [h1]; decide), if_neg h2, if_neg (by rw [h3]; decide), if_neg (by rw [h4]; decide), if_neg (by rw [h5]; decide), if_pos h]; rfl
theorem item_sign {c : UInt8} {r : List UInt8} (h : signC (c.toNat : Int) = true) (h2 : twoC (c.toNat : Int) (bt r 0) = false) : item ([c] ++ r) 0 = (4, [c].length) := by
  obtain ⟨h1, h3, h4, h5, h6⟩ := sign_range h
  unfold item
  have e0 : bt ([c] ++ r) 0 = (c.toNat : Int) := rfl
  have e1 : bt ([c] ++ r) (0 + 1) = bt r 0 := rfl
  rw [e0, e1, if_neg (by rw [h1]; decide), if_neg h3, if_neg (by rw [h4]; decide), if_neg (by rw [h5]; decide), if_neg (by rw [h6]; decide), if_neg (by rw [h2]; decide), if_pos h]; rfl

/-- A piece of a text, where it lies. -/
theorem fin_piece {s : ByteArray} {i k : Nat} {w r : List UInt8} (e : s.data.toList.drop i = w ++ r) (hne : w ≠ []) (hit : item (w ++ r) 0 = (k, w.length)) :
    i < s.size ∧ item s.data.toList i = (k, i + w.length) ∧ (s.extract i (i + w.length)).data.toList = w ∧ s.data.toList.drop (i + w.length) = r ∧ i + w.length ≤ s.size := by
  have hw : 0 < w.length := List.length_pos_iff.2 hne
  have hl := congrArg List.length e
  rw [List.length_drop, List.length_append, len_size] at hl
  refine ⟨by omega, by rw [item_drop, e, hit], ?_, by rw [← List.drop_drop, e]; simp, by omega⟩
  simp only [ByteArray.data_extract, Array.toList_extract, List.extract]
  rw [e, show i + w.length - i = w.length by omega]; simp
theorem lexes_fin {l : List UInt8} {ts : List Tk} (h : Lexes l ts) : ∀ (s : ByteArray) (i : Nat) (acc : List Tok), s.data.toList.drop i = l → i ≤ s.size →
    ∃ T : List Tok, fin s i acc = (acc ++ T, -1) ∧ T.map (fun t => (t.kind, t.text.data.toList)) = ts := by
  induction h with
  | nil =>
    intro s i acc e hi
    have hl := congrArg List.length e
    rw [List.length_drop, len_size] at hl
    exact ⟨[], by rw [fin_end s i acc (by simp at hl; omega)]; simp, rfl⟩
  | @blank c r ts hc _ ih =>
    intro s i acc e hi
    obtain ⟨h1, h2, -, h4, h5⟩ := fin_piece (w := [c]) e (by simp) (item_blank hc)
    rw [fin_skip acc h1 h2]
    exact ih s _ acc h4 h5
  | @word k w r ts hk hne hw hr _ ih =>
    intro s i acc e hi
    obtain ⟨h1, h2, h3, h4, h5⟩ := fin_piece e hne (item_word hk hne hw hr)
    obtain ⟨T, hT, hm⟩ := ih s _ (acc ++ [⟨k, i, s.extract i (i + w.length)⟩]) h4 h5
    refine ⟨⟨k, i, s.extract i (i + w.length)⟩ :: T, ?_, by rw [List.map_cons, hm, h3]⟩
    rw [fin_tok acc h1 h2 (by rcases hk with h | h <;> omega) (by rcases hk with h | h <;> omega), hT]; simp
  | @num w r ts hne hw hr _ ih =>
    intro s i acc e hi
    obtain ⟨h1, h2, h3, h4, h5⟩ := fin_piece e hne (item_num hne hw hr)
    obtain ⟨T, hT, hm⟩ := ih s _ (acc ++ [⟨3, i, s.extract i (i + w.length)⟩]) h4 h5
    refine ⟨⟨3, i, s.extract i (i + w.length)⟩ :: T, ?_, by rw [List.map_cons, hm, h3]⟩
    rw [fin_tok acc h1 h2 (by omega) (by omega), hT]; simp
  | @two a b r ts hc _ ih =>
    intro s i acc e hi
    obtain ⟨h1, h2, h3, h4, h5⟩ := fin_piece (w := [a, b]) e (by simp) (item_two hc)
    obtain ⟨T, hT, hm⟩ := ih s _ (acc ++ [⟨4, i, s.extract i (i + [a, b].length)⟩]) h4 h5
    refine ⟨⟨4, i, s.extract i (i + [a, b].length)⟩ :: T, ?_, by rw [List.map_cons, hm, h3]⟩
    rw [fin_tok acc h1 h2 (by omega) (by omega), hT]; simp
  | @sign c r ts hc ht _ ih =>
    intro s i acc e hi
    obtain ⟨h1, h2, h3, h4, h5⟩ := fin_piece (w := [c]) e (by simp) (item_sign hc ht)
    obtain ⟨T, hT, hm⟩ := ih s _ (acc ++ [⟨4, i, s.extract i (i + [c].length)⟩]) h4 h5
    refine ⟨⟨4, i, s.extract i (i + [c].length)⟩ :: T, ?_, by rw [List.map_cons, hm, h3]⟩
    rw [fin_tok acc h1 h2 (by omega) (by omega), hT]; simp

/-- The pieces of which texts are made. -/
theorem lex_small {s : ByteArray} {r : List UInt8} {ts : List Tk} (h : smallB s.data.toList = true) (hr : Halt r) (hl : Lexes r ts) : Lexes (s.data.toList ++ r) ((1, s.data.toList) :: ts) :=
  .word (.inl ⟨rfl, ((spell_iff _ _ _).1 (small_spell h)).2.2.1⟩) (spell_ne (small_spell h)) (small_word h) hr hl
theorem lex_great {s : ByteArray} {r : List UInt8} {ts : List Tk} (h : greatB s.data.toList = true) (hr : Halt r) (hl : Lexes r ts) : Lexes (s.data.toList ++ r) ((2, s.data.toList) :: ts) :=
  .word (.inr ⟨rfl, ((spell_iff _ _ _).1 (great_spell h)).2.2.1⟩) (spell_ne (great_spell h)) (great_word h) hr hl
theorem lex_low {w r : List UInt8} {ts : List Tk} (h : lowC (bt w 0) = true) (hw : Word w) (hr : Halt r) (hl : Lexes r ts) : Lexes (w ++ r) ((1, w) :: ts) :=
  .word (.inl ⟨rfl, h⟩) (fun e => by subst e; revert h; decide) hw hr hl
theorem lex_up {w r : List UInt8} {ts : List Tk} (h : upC (bt w 0) = true) (hw : Word w) (hr : Halt r) (hl : Lexes r ts) : Lexes (w ++ r) ((2, w) :: ts) :=
  .word (.inr ⟨rfl, h⟩) (fun e => by subst e; revert h; decide) hw hr hl
theorem dec_ne (m : Int) : (dec m).data.toList ≠ [] := by
  have e : (dec m).data.toList = Lib.decDigits m.toNat := by simp [dec]
  rw [e]
  by_cases h : m.toNat < 10
  · rw [ddJ_small h]; simp
  · rw [ddJ_big (by omega)]; simp
theorem lex_dec {m : Int} {r : List UInt8} {ts : List Tk} (hr : Halt r) (hl : Lexes r ts) : Lexes ((dec m).data.toList ++ r) ((3, (dec m).data.toList) :: ts) :=
  .num (dec_ne m) (fun c hc => by
    have hc' : c ∈ Lib.decDigits m.toNat := by simpa [dec] using hc
    have := ddJ_mem _ m.toNat (Nat.lt_succ_self _) c hc'
    unfold digC
    have h1 : (48 : Int) ≤ (c.toNat : Int) := by omega
    have h2 : (c.toNat : Int) ≤ 57 := by omega
    simp [h1, h2]) hr hl
theorem lex_sign {c : UInt8} {r : List UInt8} {ts : List Tk} (h : c = 123 ∨ c = 125 ∨ c = 40 ∨ c = 41 ∨ c = 91 ∨ c = 93 ∨ c = 60 ∨ c = 62 ∨ c = 44 ∨ c = 58 ∨ c = 61) (hl : Lexes r ts) : Lexes (c :: r) ((4, [c]) :: ts) := by
  refine .sign ?_ ?_ hl
  · rcases h with rfl | rfl | rfl | rfl | rfl | rfl | rfl | rfl | rfl | rfl | rfl <;> decide
  · unfold twoC
    rcases h with rfl | rfl | rfl | rfl | rfl | rfl | rfl | rfl | rfl | rfl | rfl <;> simp
theorem lex_space {r : List UInt8} {ts : List Tk} (hl : Lexes r ts) : Lexes (32 :: r) ts := .blank (by decide) hl
theorem lex_line {r : List UInt8} {ts : List Tk} (hl : Lexes r ts) : Lexes (10 :: r) ts := .blank (by decide) hl
theorem lex_arrow {r : List UInt8} {ts : List Tk} (hl : Lexes r ts) : Lexes (45 :: 62 :: r) ((4, [45, 62]) :: ts) := .two (by decide) hl

end Go.Proofs.YtpfoclpgcbjjoaaGreatDoor.M
