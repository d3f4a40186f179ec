/-
  Plain mathematics for layer 4: types that may be, and are unlike, have unlike texts: the induction.
-/
import Derived.Test.YtnnppdlhmcobcaaDoorTyJ
namespace Go.Proofs.YtnnppdlhmcobcaaDoor.M
open Go

theorem empty_bytes {s : ByteArray} (h : s.size = 0) : s = ⟨#[]⟩ := by
  apply bytes_list.1
  exact List.length_eq_zero_iff.1 (by rw [len_size]; exact h)
theorem empty_is : (⟨#[]⟩ : ByteArray) = ByteArray.empty := rfl
theorem no_more {t : Ty} (h : noMore t = true) : t.pkg = ⟨#[]⟩ ∧ t.major = 0 ∧ t.mod = ⟨#[]⟩ ∧ t.name = ⟨#[]⟩ := by
  unfold noMore emptyB at h
  simp only [Bool.and_eq_true, decide_eq_true_eq, beq_iff_eq] at h
  exact ⟨empty_bytes h.1.1.1, h.1.1.2, empty_bytes h.1.2, empty_bytes h.2⟩

/-- The shapes of types whose own fields may be. -/
theorem forms (t : Ty) (h : ownOk t = true) :
    (∃ k, (k = 1 ∨ k = 2 ∨ k = 3) ∧ t = .mk k ⟨#[]⟩ 0 ⟨#[]⟩ ⟨#[]⟩ [] []) ∨ (∃ s, t = .mk 4 ⟨#[]⟩ 0 ⟨#[]⟩ ⟨#[]⟩ [] [s]) ∨
    (∃ ns ss, t = .mk 5 ⟨#[]⟩ 0 ⟨#[]⟩ ⟨#[]⟩ ns ss ∧ ss.length = ns.length ∧ ∀ i, i < ns.length → smallB (nameAt ns i).data.toList = true) ∨
    (∃ ns ss, t = .mk 6 ⟨#[]⟩ 0 ⟨#[]⟩ ⟨#[]⟩ ns ss ∧ ss.length = ns.length ∧ ∀ i, i < ns.length → greatB (nameAt ns i).data.toList = true) ∨
    (∃ ss, t = .mk 7 ⟨#[]⟩ 0 ⟨#[]⟩ ⟨#[]⟩ [] ss ∧ 0 < ss.length) ∨
    (∃ d n, t = .mk 8 ⟨#[]⟩ 0 d n [] [] ∧ greatB n.data.toList = true ∧ (smallB d.data.toList = true ∨ d = ⟨#[]⟩)) ∨
    (∃ p m d n, t = .mk 9 p m d n [] [] ∧ smallB p.data.toList = true ∧ smallB d.data.toList = true ∧ greatB n.data.toList = true ∧ 1 ≤ m) := by
  unfold ownOk at h
  simp only [Bool.and_eq_true] at h
  obtain ⟨⟨-, hn⟩, hs⟩ := h
  have hbad := (namesOk_iff _ _).1 hn
  unfold shapeOk at hs
  by_cases k1 : t.kind = 1 ∨ t.kind = 2 ∨ t.kind = 3
  · rw [if_pos k1] at hs
    simp only [Bool.and_eq_true, decide_eq_true_eq] at hs
    obtain ⟨e1, e2, e3, e4⟩ := no_more hs.1.1
    exact .inl ⟨t.kind, k1, ty_ext rfl e1 e2 e3 e4 (List.length_eq_zero_iff.1 hs.2) (List.length_eq_zero_iff.1 hs.1.2)⟩
  rw [if_neg k1] at hs
  by_cases k4 : t.kind = 4
  · rw [if_pos k4] at hs
    simp only [Bool.and_eq_true, decide_eq_true_eq] at hs
    obtain ⟨e1, e2, e3, e4⟩ := no_more hs.1.1
    obtain ⟨s, es⟩ := List.length_eq_one_iff.1 hs.1.2
    exact .inr (.inl ⟨s, ty_ext k4 e1 e2 e3 e4 (List.length_eq_zero_iff.1 hs.2) es⟩)
  rw [if_neg k4] at hs
  by_cases k5 : t.kind = 5
  · rw [if_pos k5] at hs
    simp only [Bool.and_eq_true, decide_eq_true_eq] at hs
    obtain ⟨e1, e2, e3, e4⟩ := no_more hs.1
    refine .inr (.inr (.inl ⟨t.names, t.subs, ty_ext k5 e1 e2 e3 e4 rfl rfl, hs.2, fun i hi => ?_⟩))
    have := hbad i hi
    unfold badName at this
    rw [k5] at this
    simp only [Bool.or_eq_false_iff, Bool.and_eq_false_iff, Bool.not_eq_false'] at this
    rcases this.1.1 with a | a
    · simp at a
    · exact a
  rw [if_neg k5] at hs
  by_cases k6 : t.kind = 6
  · rw [if_pos k6] at hs
    simp only [Bool.and_eq_true, decide_eq_true_eq] at hs
    obtain ⟨e1, e2, e3, e4⟩ := no_more hs.1.1
    refine .inr (.inr (.inr (.inl ⟨t.names, t.subs, ty_ext k6 e1 e2 e3 e4 rfl rfl, hs.1.2, fun i hi => ?_⟩)))
    have := hbad i hi
    unfold badName at this
    rw [k6] at this
    simp only [Bool.or_eq_false_iff, Bool.and_eq_false_iff, Bool.not_eq_false'] at this
    rcases this.1.2 with a | a
    · simp at a
    · exact a
  rw [if_neg k6] at hs
  by_cases k7 : t.kind = 7
  · rw [if_pos k7] at hs
    simp only [Bool.and_eq_true, decide_eq_true_eq] at hs
    obtain ⟨e1, e2, e3, e4⟩ := no_more hs.1.1
    exact .inr (.inr (.inr (.inr (.inl ⟨t.subs, ty_ext k7 e1 e2 e3 e4 (List.length_eq_zero_iff.1 hs.2) rfl, hs.1.2⟩))))
  rw [if_neg k7] at hs
  by_cases k8 : t.kind = 8
  · rw [if_pos k8] at hs
    unfold emptyB at hs
    simp only [Bool.and_eq_true, Bool.or_eq_true, decide_eq_true_eq, beq_iff_eq] at hs
    obtain ⟨⟨⟨⟨⟨a, b⟩, c⟩, e⟩, f⟩, g⟩ := hs
    exact .inr (.inr (.inr (.inr (.inr (.inl ⟨t.mod, t.name, ty_ext k8 (empty_bytes c) e rfl rfl (List.length_eq_zero_iff.1 b) (List.length_eq_zero_iff.1 a), f, g.imp id empty_bytes⟩)))))
  rw [if_neg k8] at hs
  by_cases k9 : t.kind = 9
  · rw [if_pos k9] at hs
    simp only [Bool.and_eq_true, decide_eq_true_eq] at hs
    obtain ⟨⟨⟨⟨⟨⟨a, b⟩, c⟩, e⟩, f⟩, g⟩, -⟩ := hs
    exact .inr (.inr (.inr (.inr (.inr (.inr ⟨t.pkg, t.major, t.mod, t.name, ty_ext k9 rfl rfl rfl rfl (List.length_eq_zero_iff.1 b) (List.length_eq_zero_iff.1 a), c, e, f, g⟩)))))
  rw [if_neg k9] at hs
  cases hs

/-- Which kind begins so: a word, and what stands behind it. -/
def tag (w r : List UInt8) : Int :=
  if w = [73, 110, 116] then 1 else if w = [84, 101, 120, 116] then 2 else if w = [66, 111, 111, 108] then 3 else if w = [76, 105, 115, 116] then 4
  else if w = [] then (if r.head? = some 123 then 5 else if r.head? = some 91 then 6 else if r.head? = some 40 then 7 else 9) else 8
theorem tag_name {l r : List UInt8} (h : l ≠ []) (hw : l ∉ words) : tag l r = 8 := by
  have h1 : l ≠ [73, 110, 116] := fun e => hw (by rw [e]; decide)
  have h2 : l ≠ [84, 101, 120, 116] := fun e => hw (by rw [e]; decide)
  have h3 : l ≠ [66, 111, 111, 108] := fun e => hw (by rw [e]; decide)
  have h4 : l ≠ [76, 105, 115, 116] := fun e => hw (by rw [e]; decide)
  unfold tag
  rw [if_neg h1, if_neg h2, if_neg h3, if_neg h4, if_neg h]
theorem split (t : Ty) (h : ownOk t = true) : ∃ w r, textT t = w ++ r ∧ Word w ∧ ∀ x, Stop x → Halt (r ++ x) ∧ tag w (r ++ x) = t.kind := by
  rcases forms t h with ⟨k, hk, rfl⟩ | ⟨s, rfl⟩ | ⟨ns, ss, rfl, -, -⟩ | ⟨ns, ss, rfl, -, -⟩ | ⟨ss, rfl, -⟩ | ⟨d, n, rfl, hn, hd⟩ | ⟨p, m, d, n, rfl, hp, hd, hn, hm⟩
  · rcases hk with rfl | rfl | rfl
    · exact ⟨[73, 110, 116], [], rfl, by unfold Word; decide, fun x hx => ⟨by simpa using hx.halt, rfl⟩⟩
    · exact ⟨[84, 101, 120, 116], [], rfl, by unfold Word; decide, fun x hx => ⟨by simpa using hx.halt, rfl⟩⟩
    · exact ⟨[66, 111, 111, 108], [], rfl, by unfold Word; decide, fun x hx => ⟨by simpa using hx.halt, rfl⟩⟩
  · exact ⟨[76, 105, 115, 116], [40] ++ textT s ++ [41], by simp [textT, kindText, textsT], by unfold Word; decide, fun x hx => ⟨halt_cons (by decide), rfl⟩⟩
  · exact ⟨[], _, (List.nil_append _).symm, by unfold Word; decide, fun x hx => by simp only [textT, kindText]; exact ⟨halt_cons (by decide), rfl⟩⟩
  · exact ⟨[], _, (List.nil_append _).symm, by unfold Word; decide, fun x hx => by simp only [textT, kindText]; exact ⟨halt_cons (by decide), rfl⟩⟩
  · exact ⟨[], _, (List.nil_append _).symm, by unfold Word; decide, fun x hx => by simp only [textT, kindText]; exact ⟨halt_cons (by decide), rfl⟩⟩
  · rcases hd with hd | rfl
    · have hne := spell_ne (small_spell hd)
      have hz : d.size ≠ 0 := fun e => hne (List.length_eq_zero_iff.1 (by rw [len_size]; exact e))
      exact ⟨d.data.toList, [46] ++ n.data.toList, by simp [textT, kindText, hz], small_word hd, fun x hx => ⟨halt_cons (by decide), tag_name hne (small_not_word hd)⟩⟩
    · exact ⟨n.data.toList, [], by simp [textT, kindText, empty_is], great_word hn, fun x hx => ⟨by simpa using hx.halt, tag_name (spell_ne (great_spell hn)) (great_not_word hn)⟩⟩
  · exact ⟨[], _, (List.nil_append _).symm, by unfold Word; decide, fun x hx => by simp only [textT, kindText]; exact ⟨halt_cons (by decide), rfl⟩⟩

/-- A type's text begins with no sign that closes. -/
theorem text_opens (t : Ty) (h : ownOk t = true) (z : UInt8) (hz : z = 41 ∨ z = 125 ∨ z = 93) : ∃ c r, textT t = c :: r ∧ c ≠ z := by
  have key : ∀ (l r : List UInt8), l ≠ [] → Word l → ∃ c s, l ++ r = c :: s ∧ c ≠ z := by
    intro l r hl hw
    cases l with
    | nil => exact absurd rfl hl
    | cons c l => exact ⟨c, l ++ r, rfl, fun e => by
        have := hw c (by simp)
        rw [e] at this
        rcases hz with rfl | rfl | rfl <;> revert this <;> decide⟩
  rcases forms t h with ⟨k, hk, rfl⟩ | ⟨s, rfl⟩ | ⟨ns, ss, rfl, -, -⟩ | ⟨ns, ss, rfl, -, -⟩ | ⟨ss, rfl, -⟩ | ⟨d, n, rfl, hn, hd⟩ | ⟨p, m, d, n, rfl, hp, hd, hn, hm⟩
  · rcases hk with rfl | rfl | rfl <;> exact ⟨_, _, rfl, by rcases hz with rfl | rfl | rfl <;> decide⟩
  · exact ⟨76, _, rfl, by rcases hz with rfl | rfl | rfl <;> decide⟩
  · exact ⟨123, _, rfl, by rcases hz with rfl | rfl | rfl <;> decide⟩
  · exact ⟨91, _, rfl, by rcases hz with rfl | rfl | rfl <;> decide⟩
  · exact ⟨40, _, rfl, by rcases hz with rfl | rfl | rfl <;> decide⟩
  · rcases hd with hd | rfl
    · have hne := spell_ne (small_spell hd)
      have hz : d.size ≠ 0 := fun e => hne (List.length_eq_zero_iff.1 (by rw [len_size]; exact e))
      obtain ⟨c, s, e, hc⟩ := key d.data.toList ([46] ++ n.data.toList) hne (small_word hd)
      exact ⟨c, s, by rw [← e]; simp [textT, kindText, hz], hc⟩
    · obtain ⟨c, s, e, hc⟩ := key n.data.toList [] (spell_ne (great_spell hn)) (great_word hn)
      exact ⟨c, s, by rw [← e]; simp [textT, kindText, empty_is], hc⟩
  · exact ⟨60, _, rfl, by rcases hz with rfl | rfl | rfl <;> decide⟩

theorem row_zip (ns : List ByteArray) (ss : List Ty) (h : ss.length = ns.length) : rowOf (textsT ss) ns ss.length = joinC ((ns.zip ss).map (partT true)) := by
  rw [row_join]
  congr 1
  apply List.ext_getElem
  · simp [h]
  · intro i h1 h2
    have hi : i < ss.length := by simpa using h1
    have hn : i < ns.length := by omega
    have e1 := textsT_at ss i ss[i] (List.getElem?_eq_getElem hi)
    have e2 : nameAt ns i = ns[i] := by unfold nameAt; rw [List.getD_eq_getElem?_getD, List.getElem?_eq_getElem hn]; rfl
    simp only [List.getElem_map, List.getElem_range, List.getElem_zip, itemAt, partT, if_true]
    rw [if_pos (by omega), e1, e2]
theorem row_plain (ss : List Ty) (m : Nat) (h : m ≤ ss.length) : rowOf (textsT ss) [] m = joinC (((ss.take m).map fun t => ((⟨#[]⟩ : ByteArray), t)).map (partT false)) := by
  rw [row_join]
  congr 1
  apply List.ext_getElem
  · simp; omega
  · intro i h1 h2
    have hi : i < m := by simpa using h1
    have e1 := textsT_at ss i ss[i] (List.getElem?_eq_getElem (by omega))
    simp only [List.getElem_map, List.getElem_range, List.getElem_take, itemAt, partT]
    rw [e1]
    simp

theorem told_all (N : Nat) : ∀ t : Ty, many t ≤ N → allOk t = true → Told t := by
  induction N with
  | zero => intro t h; have := many_pos t; omega
  | succ N ih =>
    intro t hN hok q x y hq hx hy h
    have ho : ownOk t = true ∧ allOkL t.subs = true := by rw [allOk_eq] at hok; simpa using hok
    have ho' : ownOk q = true ∧ allOkL q.subs = true := by rw [allOk_eq] at hq; simpa using hq
    have IH : ∀ s, s ∈ t.subs → Told s := fun s hs => ih s (by have := manyL_mem t.subs s hs; have hm : many t = 1 + manyL t.subs := by cases t; rfl
                                                               omega) ((allOkL_mem _).1 ho.2 s hs)
    have AQ : ∀ s, s ∈ q.subs → allOk s = true := (allOkL_mem _).1 ho'.2
    have AT : ∀ s, s ∈ t.subs → allOk s = true := (allOkL_mem _).1 ho.2
    have OW : ∀ s, allOk s = true → ownOk s = true := fun s hs => by rw [allOk_eq] at hs; simp only [Bool.and_eq_true] at hs; exact hs.1
    have hkind : t.kind = q.kind := by
      obtain ⟨w, r, e, hw, hr⟩ := split t ho.1
      obtain ⟨w', r', e', hw', hr'⟩ := split q ho'.1
      rw [e, e', List.append_assoc, List.append_assoc] at h
      obtain ⟨a, b⟩ := munch hw hw' (hr x hx).1 (hr' y hy).1 h
      rw [← (hr x hx).2, ← (hr' y hy).2, a, b]
    rcases forms t ho.1 with ⟨k, hk, rfl⟩ | ⟨s, rfl⟩ | ⟨ns, ss, rfl, hl, hn⟩ | ⟨ns, ss, rfl, hl, hn⟩ | ⟨ss, rfl, hl⟩ | ⟨d, n, rfl, hn, hd⟩ | ⟨p, m, d, n, rfl, hp, hd, hn, hm⟩ <;>
    rcases forms q ho'.1 with ⟨k', hk', rfl⟩ | ⟨s', rfl⟩ | ⟨ns', ss', rfl, hl', hn'⟩ | ⟨ns', ss', rfl, hl', hn'⟩ | ⟨ss', rfl, hl'⟩ | ⟨d', n', rfl, hn', hd'⟩ | ⟨p', m', d', n', rfl, hp', hd', hn', hm'⟩ <;>
    simp only [Ty.kind] at hkind <;> first
      | (exfalso; omega)
      | skip
    · subst hkind
      rcases hk with rfl | rfl | rfl <;> exact ⟨rfl, List.append_cancel_left h⟩
    · have h2 : textT s ++ (41 :: x) = textT s' ++ (41 :: y) := by simpa [textT, kindText, textsT] using h
      obtain ⟨e, e2⟩ := IH s (by simp [Ty.subs]) s' _ _ (AQ s' (by simp [Ty.subs])) (stop_cons (by simp)) (stop_cons (by simp)) h2
      exact ⟨by rw [e], by simpa using e2⟩
    · have h2 : joinC ((ns.zip ss).map (partT true)) ++ 125 :: x = joinC ((ns'.zip ss').map (partT true)) ++ 125 :: y := by
        rw [← row_zip ns ss hl, ← row_zip ns' ss' hl']
        simpa [textT, kindText, textsT_len] using h
      have W : ∀ (ns : List ByteArray) (ss : List Ty), (∀ i, i < ns.length → smallB (nameAt ns i).data.toList = true) → ∀ p ∈ ns.zip ss, smallB p.1.data.toList = true := by
        intro ns ss hn p hp
        obtain ⟨i, hi⟩ := List.getElem?_of_mem (List.of_mem_zip hp).1
        have := hn i (List.getElem?_eq_some_iff.1 hi).1
        unfold nameAt at this
        rw [List.getD_eq_getElem?_getD, hi] at this
        exact this
      have O : ∀ p : ByteArray × Ty, smallB p.1.data.toList = true → ∃ c r, partT true p = c :: r ∧ c ≠ 125 := by
        intro p hp
        have hne := spell_ne (small_spell hp)
        have hw := small_word hp
        unfold partT
        cases hl : p.1.data.toList with
        | nil => exact absurd hl hne
        | cons c l => exact ⟨c, l ++ 58 :: 32 :: textT p.2, by simp, fun e => by have := hw c (by rw [hl]; simp); rw [e] at this; revert this; decide⟩
      obtain ⟨a, b, c⟩ := join_inj true 125 (by simp) (ns.zip ss) (ns'.zip ss') x y (fun p hp => IH p.2 (List.of_mem_zip hp).2) (fun p hp => AQ p.2 (List.of_mem_zip hp).2) (fun p hp => small_word (W ns ss hn p hp)) (fun p hp => small_word (W ns' ss' hn' p hp)) (fun p hp => O p (W ns ss hn p hp)) (fun p hp => O p (W ns' ss' hn' p hp)) h2
      have b := b rfl
      rw [List.map_snd_zip (by omega), List.map_snd_zip (by omega)] at a
      rw [List.map_fst_zip (by omega), List.map_fst_zip (by omega)] at b
      exact ⟨by rw [a, b], c⟩
    · have h2 : joinC ((ns.zip ss).map (partT true)) ++ 93 :: x = joinC ((ns'.zip ss').map (partT true)) ++ 93 :: y := by
        rw [← row_zip ns ss hl, ← row_zip ns' ss' hl']
        simpa [textT, kindText, textsT_len] using h
      have W : ∀ (ns : List ByteArray) (ss : List Ty), (∀ i, i < ns.length → greatB (nameAt ns i).data.toList = true) → ∀ p ∈ ns.zip ss, greatB p.1.data.toList = true := by
        intro ns ss hn p hp
        obtain ⟨i, hi⟩ := List.getElem?_of_mem (List.of_mem_zip hp).1
        have := hn i (List.getElem?_eq_some_iff.1 hi).1
        unfold nameAt at this
        rw [List.getD_eq_getElem?_getD, hi] at this
        exact this
      have O : ∀ p : ByteArray × Ty, greatB p.1.data.toList = true → ∃ c r, partT true p = c :: r ∧ c ≠ 93 := by
        intro p hp
        have hne := spell_ne (great_spell hp)
        have hw := great_word hp
        unfold partT
        cases hl : p.1.data.toList with
        | nil => exact absurd hl hne
        | cons c l => exact ⟨c, l ++ 58 :: 32 :: textT p.2, by simp, fun e => by have := hw c (by rw [hl]; simp); rw [e] at this; revert this; decide⟩
      obtain ⟨a, b, c⟩ := join_inj true 93 (by simp) (ns.zip ss) (ns'.zip ss') x y (fun p hp => IH p.2 (List.of_mem_zip hp).2) (fun p hp => AQ p.2 (List.of_mem_zip hp).2) (fun p hp => great_word (W ns ss hn p hp)) (fun p hp => great_word (W ns' ss' hn' p hp)) (fun p hp => O p (W ns ss hn p hp)) (fun p hp => O p (W ns' ss' hn' p hp)) h2
      have b := b rfl
      rw [List.map_snd_zip (by omega), List.map_snd_zip (by omega)] at a
      rw [List.map_fst_zip (by omega), List.map_fst_zip (by omega)] at b
      exact ⟨by rw [a, b], c⟩
    · obtain ⟨m, hm⟩ : ∃ m, ss.length = m + 1 := ⟨ss.length - 1, by omega⟩
      obtain ⟨m', hm'⟩ : ∃ m, ss'.length = m + 1 := ⟨ss'.length - 1, by omega⟩
      obtain ⟨r, hr⟩ : ∃ r, ss[m]? = some r := ⟨_, List.getElem?_eq_getElem (by omega)⟩
      obtain ⟨r', hr'⟩ : ∃ r, ss'[m']? = some r := ⟨_, List.getElem?_eq_getElem (by omega)⟩
      have e1 : textT (.mk 7 ⟨#[]⟩ 0 ⟨#[]⟩ ⟨#[]⟩ [] ss) = [40] ++ rowOf (textsT ss) [] m ++ [41, 32, 45, 62, 32] ++ textT r := by
        show [40] ++ rowOf (textsT ss) [] ((textsT ss).length - 1) ++ [41, 32, 45, 62, 32] ++ (textsT ss).getD ((textsT ss).length - 1) [] = _
        rw [textsT_len, hm, Nat.add_sub_cancel, textsT_at _ m r hr]
      have e2 : textT (.mk 7 ⟨#[]⟩ 0 ⟨#[]⟩ ⟨#[]⟩ [] ss') = [40] ++ rowOf (textsT ss') [] m' ++ [41, 32, 45, 62, 32] ++ textT r' := by
        show [40] ++ rowOf (textsT ss') [] ((textsT ss').length - 1) ++ [41, 32, 45, 62, 32] ++ (textsT ss').getD ((textsT ss').length - 1) [] = _
        rw [textsT_len, hm', Nat.add_sub_cancel, textsT_at _ m' r' hr']
      rw [e1, e2, row_plain ss m (by omega), row_plain ss' m' (by omega)] at h
      have h2 : joinC (((ss.take m).map fun t => ((⟨#[]⟩ : ByteArray), t)).map (partT false)) ++ 41 :: ([32, 45, 62, 32] ++ textT r ++ x) = joinC (((ss'.take m').map fun t => ((⟨#[]⟩ : ByteArray), t)).map (partT false)) ++ 41 :: ([32, 45, 62, 32] ++ textT r' ++ y) := by
        simpa using h
      have MT : ∀ (ss : List Ty) (m : Nat) (p : ByteArray × Ty), p ∈ (ss.take m).map (fun t => ((⟨#[]⟩ : ByteArray), t)) → p.1 = ⟨#[]⟩ ∧ p.2 ∈ ss := by
        intro ss m p hp
        obtain ⟨t, ht, rfl⟩ := List.mem_map.1 hp
        exact ⟨rfl, List.mem_of_mem_take ht⟩
      have WD : ∀ (ss : List Ty) (m : Nat) (p : ByteArray × Ty), p ∈ (ss.take m).map (fun t => ((⟨#[]⟩ : ByteArray), t)) → Word p.1.data.toList := by
        intro ss m p hp c hc
        rw [(MT ss m p hp).1] at hc
        simp at hc
      have O : ∀ p : ByteArray × Ty, allOk p.2 = true → ∃ c r, partT false p = c :: r ∧ c ≠ 41 := by
        intro p hp
        obtain ⟨c, r, e, hc⟩ := text_opens p.2 (OW _ hp) 41 (by simp)
        exact ⟨c, r, by simpa [partT] using e, hc⟩
      obtain ⟨a, -, c⟩ := join_inj false 41 (by simp) _ _ _ _ (fun p hp => IH p.2 (MT ss m p hp).2) (fun p hp => AQ p.2 (MT ss' m' p hp).2) (WD ss m) (WD ss' m') (fun p hp => O p (AT p.2 (MT ss m p hp).2)) (fun p hp => O p (AQ p.2 (MT ss' m' p hp).2)) h2
      have h3 : textT r ++ x = textT r' ++ y := by simpa using c
      obtain ⟨e3, e4⟩ := IH r (List.mem_of_getElem? hr) r' _ _ (AQ r' (List.mem_of_getElem? hr')) hx hy h3
      have a' : ss.take m = ss'.take m' := by simpa [Function.comp_def] using a
      have f1 : ss = ss.take m ++ [r] := by
        conv => lhs; rw [← List.take_of_length_le (Nat.le_of_eq hm)]
        rw [List.take_add_one, hr]; rfl
      have f2 : ss' = ss'.take m' ++ [r'] := by
        conv => lhs; rw [← List.take_of_length_le (Nat.le_of_eq hm')]
        rw [List.take_add_one, hr']; rfl
      exact ⟨by rw [f1, f2, a', e3], e4⟩
    · rcases hd with hd | rfl <;> rcases hd' with hd' | rfl
      · have hz : d.size ≠ 0 := fun e => spell_ne (small_spell hd) (List.length_eq_zero_iff.1 (by rw [len_size]; exact e))
        have hz' : d'.size ≠ 0 := fun e => spell_ne (small_spell hd') (List.length_eq_zero_iff.1 (by rw [len_size]; exact e))
        have h2 : d.data.toList ++ (46 :: (n.data.toList ++ x)) = d'.data.toList ++ (46 :: (n'.data.toList ++ y)) := by simpa [textT, kindText, hz, hz'] using h
        obtain ⟨a, b⟩ := munch (small_word hd) (small_word hd') (halt_cons (by decide)) (halt_cons (by decide)) h2
        simp only [List.cons.injEq, true_and] at b
        obtain ⟨c, e⟩ := munch (great_word hn) (great_word hn') hx.halt hy.halt b
        exact ⟨by rw [bytes_list.1 a, bytes_list.1 c], e⟩
      · have hz : d.size ≠ 0 := fun e => spell_ne (small_spell hd) (List.length_eq_zero_iff.1 (by rw [len_size]; exact e))
        have h2 : d.data.toList ++ (46 :: (n.data.toList ++ x)) = n'.data.toList ++ y := by simpa [textT, kindText, hz, empty_is] using h
        obtain ⟨a, -⟩ := munch (small_word hd) (great_word hn') (halt_cons (by decide)) hy.halt h2
        rw [a] at hd
        have := small_not_great hd
        rw [hn'] at this; cases this
      · have hz' : d'.size ≠ 0 := fun e => spell_ne (small_spell hd') (List.length_eq_zero_iff.1 (by rw [len_size]; exact e))
        have h2 : n.data.toList ++ x = d'.data.toList ++ (46 :: (n'.data.toList ++ y)) := by simpa [textT, kindText, hz', empty_is] using h
        obtain ⟨a, -⟩ := munch (great_word hn) (small_word hd') hx.halt (halt_cons (by decide)) h2
        rw [← a] at hd'
        have := small_not_great hd'
        rw [hn] at this; cases this
      · have h2 : n.data.toList ++ x = n'.data.toList ++ y := by simpa [textT, kindText, empty_is] using h
        obtain ⟨a, b⟩ := munch (great_word hn) (great_word hn') hx.halt hy.halt h2
        exact ⟨by rw [bytes_list.1 a], b⟩
    · have h2 : p.data.toList ++ (32 :: ((dec m).data.toList ++ (32 :: (d.data.toList ++ (32 :: (n.data.toList ++ (62 :: x))))))) = p'.data.toList ++ (32 :: ((dec m').data.toList ++ (32 :: (d'.data.toList ++ (32 :: (n'.data.toList ++ (62 :: y))))))) := by
        simpa [textT, kindText] using h
      obtain ⟨a1, b1⟩ := munch (small_word hp) (small_word hp') (halt_cons (by decide)) (halt_cons (by decide)) h2
      simp only [List.cons.injEq, true_and] at b1
      obtain ⟨a2, b2⟩ := munch (dec_word m) (dec_word m') (halt_cons (by decide)) (halt_cons (by decide)) b1
      simp only [List.cons.injEq, true_and] at b2
      obtain ⟨a3, b3⟩ := munch (small_word hd) (small_word hd') (halt_cons (by decide)) (halt_cons (by decide)) b2
      simp only [List.cons.injEq, true_and] at b3
      obtain ⟨a4, b4⟩ := munch (great_word hn) (great_word hn') (halt_cons (by decide)) (halt_cons (by decide)) b3
      simp only [List.cons.injEq, true_and] at b4
      exact ⟨by rw [bytes_list.1 a1, dec_inj (by omega) (by omega) a2, bytes_list.1 a3, bytes_list.1 a4], b4⟩

/-- Types that may be, and have one text, are one type. -/
theorem text_inj {a b : Ty} (ha : allOk a = true) (hb : allOk b = true) (h : textT a = textT b) : a = b :=
  (told_all _ a (Nat.le_refl _) ha b [] [] hb (fun c r e => by simp at e) (fun c r e => by simp at e) (by rw [h])).1

end Go.Proofs.YtnnppdlhmcobcaaDoor.M
