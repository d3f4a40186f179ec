/-
  Several texts in one: Plain mathematics for layer 4: types that may be, and are unlike, have unlike texts: the induction. · Plain mathematics for layer 6: what tokens a text has, told a piece at a time. · Walks of package kind: are a type's own fields those of its kind? · Plain mathematics for layer 6: the text of a type that may be is read, token by token, as that type.
-/
import Derived.Test.YtapjhmfbmkckaaaGreatDoorJ09
import Derived.Test.YtapjhmfbmkckaaaGreatDoorJ05
import Derived.Test.YtapjhmfbmkckaaaGreatDoorJ08
import Derived.Test.YtapjhmfbmkckaaaGreatDoorJ00
import Derived.Deep.QuietTactic
import Derived.BigQuiet
import Derived.Deep.DeepCutAuto
import Derived.Deep.CutBlock
import Derived.Test.YtapjhmfbmkckaaaGreatDoorJ04
import Derived.Test.YtapjhmfbmkckaaaGreatDoorJ03
/- Plain mathematics for layer 4: types that may be, and are unlike, have unlike texts: the induction. -/
namespace Go.Proofs.YtapjhmfbmkckaaaGreatDoor.M
open Go

theorem empty_bytes {s : ByteArray} (h : s.size = 0) : s = ⟨#[]⟩ := by
  apply bytes_list.1
  exact List.length_eq_zero_iff.1 (by rw [len_size]; exact h)
theorem empty_is : (⟨#[]⟩ : ByteArray) = ByteArray.empty := rfl
theorem no_more {t : Ty} (h : noMore t = true) : t.pkg = ⟨#[]⟩ ∧ t.major = 0 ∧ t.mod = ⟨#[]⟩ ∧ t.name = ⟨#[]⟩ := by
  unfold noMore emptyB at h
  simp only [Bool.and_eq_true, decide_eq_true_eq, beq_iff_eq] at h
  exact ⟨empty_bytes h.1.1.1, h.1.1.2, empty_bytes h.1.2, empty_bytes h.2⟩

/-- The shapes of types whose own fields may be. -/
theorem forms (t : Ty) (h : ownOk t = true) :
    (∃ k, (k = 1 ∨ k = 2 ∨ k = 3) ∧ t = .mk k ⟨#[]⟩ 0 ⟨#[]⟩ ⟨#[]⟩ [] []) ∨ (∃ s, t = .mk 4 ⟨#[]⟩ 0 ⟨#[]⟩ ⟨#[]⟩ [] [s]) ∨
    (∃ ns ss, t = .mk 5 ⟨#[]⟩ 0 ⟨#[]⟩ ⟨#[]⟩ ns ss ∧ ss.length = ns.length ∧ ∀ i, i < ns.length → smallB (nameAt ns i).data.toList = true) ∨
    (∃ ns ss, t = .mk 6 ⟨#[]⟩ 0 ⟨#[]⟩ ⟨#[]⟩ ns ss ∧ ss.length = ns.length ∧ ∀ i, i < ns.length → greatB (nameAt ns i).data.toList = true) ∨
    (∃ ss, t = .mk 7 ⟨#[]⟩ 0 ⟨#[]⟩ ⟨#[]⟩ [] ss ∧ 0 < ss.length) ∨
    (∃ d n, t = .mk 8 ⟨#[]⟩ 0 d n [] [] ∧ greatB n.data.toList = true ∧ (smallB d.data.toList = true ∨ d = ⟨#[]⟩)) ∨
    (∃ p m d n, t = .mk 9 p m d n [] [] ∧ smallB p.data.toList = true ∧ smallB d.data.toList = true ∧ greatB n.data.toList = true ∧ 1 ≤ m) := by
  unfold ownOk at h
  simp only [Bool.and_eq_true] at h
  obtain ⟨⟨-, hn⟩, hs⟩ := h
  have hbad := (namesOk_iff _ _).1 hn
  unfold shapeOk at hs
  by_cases k1 : t.kind = 1 ∨ t.kind = 2 ∨ t.kind = 3
  · rw [if_pos k1] at hs
    simp only [Bool.and_eq_true, decide_eq_true_eq] at hs
    obtain ⟨e1, e2, e3, e4⟩ := no_more hs.1.1
    exact .inl ⟨t.kind, k1, ty_ext rfl e1 e2 e3 e4 (List.length_eq_zero_iff.1 hs.2) (List.length_eq_zero_iff.1 hs.1.2)⟩
  rw [if_neg k1] at hs
  by_cases k4 : t.kind = 4
  · rw [if_pos k4] at hs
    simp only [Bool.and_eq_true, decide_eq_true_eq] at hs
    obtain ⟨e1, e2, e3, e4⟩ := no_more hs.1.1
    obtain ⟨s, es⟩ := List.length_eq_one_iff.1 hs.1.2
    exact .inr (.inl ⟨s, ty_ext k4 e1 e2 e3 e4 (List.length_eq_zero_iff.1 hs.2) es⟩)
  rw [if_neg k4] at hs
  by_cases k5 : t.kind = 5
  · rw [if_pos k5] at hs
    simp only [Bool.and_eq_true, decide_eq_true_eq] at hs
    obtain ⟨e1, e2, e3, e4⟩ := no_more hs.1
    refine .inr (.inr (.inl ⟨t.names, t.subs, ty_ext k5 e1 e2 e3 e4 rfl rfl, hs.2, fun i hi => ?_⟩))
    have := hbad i hi
    unfold badName at this
    rw [k5] at this
    simp only [Bool.or_eq_false_iff, Bool.and_eq_false_iff, Bool.not_eq_false'] at this
    rcases this.1.1 with a | a
    · simp at a
    · exact a
  rw [if_neg k5] at hs
  by_cases k6 : t.kind = 6
  · rw [if_pos k6] at hs
    simp only [Bool.and_eq_true, decide_eq_true_eq] at hs
    obtain ⟨e1, e2, e3, e4⟩ := no_more hs.1.1
    refine .inr (.inr (.inr (.inl ⟨t.names, t.subs, ty_ext k6 e1 e2 e3 e4 rfl rfl, hs.1.2, fun i hi => ?_⟩)))
    have := hbad i hi
    unfold badName at this
    rw [k6] at this
    simp only [Bool.or_eq_false_iff, Bool.and_eq_false_iff, Bool.not_eq_false'] at this
    rcases this.1.2 with a | a
    · simp at a
    · exact a
  rw [if_neg k6] at hs
  by_cases k7 : t.kind = 7
  · rw [if_pos k7] at hs
    simp only [Bool.and_eq_true, decide_eq_true_eq] at hs
    obtain ⟨e1, e2, e3, e4⟩ := no_more hs.1.1
    exact .inr (.inr (.inr (.inr (.inl ⟨t.subs, ty_ext k7 e1 e2 e3 e4 (List.length_eq_zero_iff.1 hs.2) rfl, hs.1.2⟩))))
  rw [if_neg k7] at hs
  by_cases k8 : t.kind = 8
  · rw [if_pos k8] at hs
    unfold emptyB at hs
    simp only [Bool.and_eq_true, Bool.or_eq_true, decide_eq_true_eq, beq_iff_eq] at hs
    obtain ⟨⟨⟨⟨⟨a, b⟩, c⟩, e⟩, f⟩, g⟩ := hs
    exact .inr (.inr (.inr (.inr (.inr (.inl ⟨t.mod, t.name, ty_ext k8 (empty_bytes c) e rfl rfl (List.length_eq_zero_iff.1 b) (List.length_eq_zero_iff.1 a), f, g.imp id empty_bytes⟩)))))
  rw [if_neg k8] at hs
  by_cases k9 : t.kind = 9
  · rw [if_pos k9] at hs
    simp only [Bool.and_eq_true, decide_eq_true_eq] at hs
    obtain ⟨⟨⟨⟨⟨⟨a, b⟩, c⟩, e⟩, f⟩, g⟩, -⟩ := hs
    exact .inr (.inr (.inr (.inr (.inr (.inr ⟨t.pkg, t.major, t.mod, t.name, ty_ext k9 rfl rfl rfl rfl (List.length_eq_zero_iff.1 b) (List.length_eq_zero_iff.1 a), c, e, f, g⟩)))))
  rw [if_neg k9] at hs
  cases hs

/-- Which kind begins so: a word, and what stands behind it. -/
def tag (w r : List UInt8) : Int :=
  if w = [73, 110, 116] then 1 else if w = [84, 101, 120, 116] then 2 else if w = [66, 111, 111, 108] then 3 else if w = [76, 105, 115, 116] then 4
  else if w = [] then (if r.head? = some 123 then 5 else if r.head? = some 91 then 6 else if r.head? = some 40 then 7 else 9) else 8
theorem tag_name {l r : List UInt8} (h : l ≠ []) (hw : l ∉ words) : tag l r = 8 := by
  have h1 : l ≠ [73, 110, 116] := fun e => hw (by rw [e]; decide)
  have h2 : l ≠ [84, 101, 120, 116] := fun e => hw (by rw [e]; decide)
  have h3 : l ≠ [66, 111, 111, 108] := fun e => hw (by rw [e]; decide)
  have h4 : l ≠ [76, 105, 115, 116] := fun e => hw (by rw [e]; decide)
  unfold tag
  rw [if_neg h1, if_neg h2, if_neg h3, if_neg h4, if_neg h]
theorem split (t : Ty) (h : ownOk t = true) : ∃ w r, textT t = w ++ r ∧ Word w ∧ ∀ x, Stop x → Halt (r ++ x) ∧ tag w (r ++ x) = t.kind := by
  rcases forms t h with ⟨k, hk, rfl⟩ | ⟨s, rfl⟩ | ⟨ns, ss, rfl, -, -⟩ | ⟨ns, ss, rfl, -, -⟩ | ⟨ss, rfl, -⟩ | ⟨d, n, rfl, hn, hd⟩ | ⟨p, m, d, n, rfl, hp, hd, hn, hm⟩
  · rcases hk with rfl | rfl | rfl
    · exact ⟨[73, 110, 116], [], rfl, by unfold Word; decide, fun x hx => ⟨by simpa using hx.halt, rfl⟩⟩
    · exact ⟨[84, 101, 120, 116], [], rfl, by unfold Word; decide, fun x hx => ⟨by simpa using hx.halt, rfl⟩⟩
    · exact ⟨[66, 111, 111, 108], [], rfl, by unfold Word; decide, fun x hx => ⟨by simpa using hx.halt, rfl⟩⟩
  · exact ⟨[76, 105, 115, 116], [40] ++ textT s ++ [41], by simp [textT, kindText, textsT], by unfold Word; decide, fun x hx => ⟨halt_cons (by decide), rfl⟩⟩
  · exact ⟨[], _, (List.nil_append _).symm, by unfold Word; decide, fun x hx => by simp only [textT, kindText]; exact ⟨halt_cons (by decide), rfl⟩⟩
  · exact ⟨[], _, (List.nil_append _).symm, by unfold Word; decide, fun x hx => by simp only [textT, kindText]; exact ⟨halt_cons (by decide), rfl⟩⟩
  · exact ⟨[], _, (List.nil_append _).symm, by unfold Word; decide, fun x hx => by simp only [textT, kindText]; exact ⟨halt_cons (by decide), rfl⟩⟩
  · rcases hd with hd | rfl
    · have hne := spell_ne (small_spell hd)
      have hz : d.size ≠ 0 := fun e => hne (List.length_eq_zero_iff.1 (by rw [len_size]; exact e))
      exact ⟨d.data.toList, [46] ++ n.data.toList, by simp [textT, kindText, hz], small_word hd, fun x hx => ⟨halt_cons (by decide), tag_name hne (small_not_word hd)⟩⟩
    · exact ⟨n.data.toList, [], by simp [textT, kindText, empty_is], great_word hn, fun x hx => ⟨by simpa using hx.halt, tag_name (spell_ne (great_spell hn)) (great_not_word hn)⟩⟩
  · exact ⟨[], _, (List.nil_append _).symm, by unfold Word; decide, fun x hx => by simp only [textT, kindText]; exact ⟨halt_cons (by decide), rfl⟩⟩

/-- A type's text begins with no sign that closes. -/
theorem text_opens (t : Ty) (h : ownOk t = true) (z : UInt8) (hz : z = 41 ∨ z = 125 ∨ z = 93) : ∃ c r, textT t = c :: r ∧ c ≠ z := by
  have key : ∀ (l r : List UInt8), l ≠ [] → Word l → ∃ c s, l ++ r = c :: s ∧ c ≠ z := by
    intro l r hl hw
    cases l with
    | nil => exact absurd rfl hl
    | cons c l => exact ⟨c, l ++ r, rfl, fun e => by
        have := hw c (by simp)
        rw [e] at this
        rcases hz with rfl | rfl | rfl <;> revert this <;> decide⟩
  rcases forms t h with ⟨k, hk, rfl⟩ | ⟨s, rfl⟩ | ⟨ns, ss, rfl, -, -⟩ | ⟨ns, ss, rfl, -, -⟩ | ⟨ss, rfl, -⟩ | ⟨d, n, rfl, hn, hd⟩ | ⟨p, m, d, n, rfl, hp, hd, hn, hm⟩
  · rcases hk with rfl | rfl | rfl <;> exact ⟨_, _, rfl, by rcases hz with rfl | rfl | rfl <;> decide⟩
  · exact ⟨76, _, rfl, by rcases hz with rfl | rfl | rfl <;> decide⟩
  · exact ⟨123, _, rfl, by rcases hz with rfl | rfl | rfl <;> decide⟩
  · exact ⟨91, _, rfl, by rcases hz with rfl | rfl | rfl <;> decide⟩
  · exact ⟨40, _, rfl, by rcases hz with rfl | rfl | rfl <;> decide⟩
  · rcases hd with hd | rfl
    · have hne := spell_ne (small_spell hd)
      have hz : d.size ≠ 0 := fun e => hne (List.length_eq_zero_iff.1 (by rw [len_size]; exact e))
      obtain ⟨c, s, e, hc⟩ := key d.data.toList ([46] ++ n.data.toList) hne (small_word hd)
      exact ⟨c, s, by rw [← e]; simp [textT, kindText, hz], hc⟩
    · obtain ⟨c, s, e, hc⟩ := key n.data.toList [] (spell_ne (great_spell hn)) (great_word hn)
      exact ⟨c, s, by rw [← e]; simp [textT, kindText, empty_is], hc⟩
  · exact ⟨60, _, rfl, by rcases hz with rfl | rfl | rfl <;> decide⟩

theorem row_zip (ns : List ByteArray) (ss : List Ty) (h : ss.length = ns.length) : rowOf (textsT ss) ns ss.length = joinC ((ns.zip ss).map (partT true)) := by
  rw [row_join]
  congr 1
  apply List.ext_getElem
  · simp [h]
  · intro i h1 h2
    have hi : i < ss.length := by simpa using h1
    have hn : i < ns.length := by omega
    have e1 := textsT_at ss i ss[i] (List.getElem?_eq_getElem hi)
    have e2 : nameAt ns i = ns[i] := by unfold nameAt; rw [List.getD_eq_getElem?_getD, List.getElem?_eq_getElem hn]; rfl
    simp only [List.getElem_map, List.getElem_range, List.getElem_zip, itemAt, partT, if_true]
    rw [if_pos (by omega), e1, e2]
theorem row_plain (ss : List Ty) (m : Nat) (h : m ≤ ss.length) : rowOf (textsT ss) [] m = joinC (((ss.take m).map fun t => ((⟨#[]⟩ : ByteArray), t)).map (partT false)) := by
  rw [row_join]
  congr 1
  apply List.ext_getElem
  · simp; omega
  · intro i h1 h2
    have hi : i < m := by simpa using h1
    have e1 := textsT_at ss i ss[i] (List.getElem?_eq_getElem (by omega))
    simp only [List.getElem_map, List.getElem_range, List.getElem_take, itemAt, partT]
    rw [e1]
    simp

theorem told_all (N : Nat) : ∀ t : Ty, many t ≤ N → allOk t = true → Told t := by
  induction N with
  | zero => intro t h; have := many_pos t; omega
  | succ N ih =>
    intro t hN hok q x y hq hx hy h
    have ho : ownOk t = true ∧ allOkL t.subs = true := by rw [allOk_eq] at hok; simpa using hok
    have ho' : ownOk q = true ∧ allOkL q.subs = true := by rw [allOk_eq] at hq; simpa using hq
    have IH : ∀ s, s ∈ t.subs → Told s := fun s hs => ih s (by have := manyL_mem t.subs s hs; have hm : many t = 1 + manyL t.subs := by cases t; rfl
                                                               omega) ((allOkL_mem _).1 ho.2 s hs)
    have AQ : ∀ s, s ∈ q.subs → allOk s = true := (allOkL_mem _).1 ho'.2
    have AT : ∀ s, s ∈ t.subs → allOk s = true := (allOkL_mem _).1 ho.2
    have OW : ∀ s, allOk s = true → ownOk s = true := fun s hs => by rw [allOk_eq] at hs; simp only [Bool.and_eq_true] at hs; exact hs.1
    have hkind : t.kind = q.kind := by
      obtain ⟨w, r, e, hw, hr⟩ := split t ho.1
      obtain ⟨w', r', e', hw', hr'⟩ := split q ho'.1
      rw [e, e', List.append_assoc, List.append_assoc] at h
      obtain ⟨a, b⟩ := munch hw hw' (hr x hx).1 (hr' y hy).1 h
      rw [← (hr x hx).2, ← (hr' y hy).2, a, b]
    rcases forms t ho.1 with ⟨k, hk, rfl⟩ | ⟨s, rfl⟩ | ⟨ns, ss, rfl, hl, hn⟩ | ⟨ns, ss, rfl, hl, hn⟩ | ⟨ss, rfl, hl⟩ | ⟨d, n, rfl, hn, hd⟩ | ⟨p, m, d, n, rfl, hp, hd, hn, hm⟩ <;>
    rcases forms q ho'.1 with ⟨k', hk', rfl⟩ | ⟨s', rfl⟩ | ⟨ns', ss', rfl, hl', hn'⟩ | ⟨ns', ss', rfl, hl', hn'⟩ | ⟨ss', rfl, hl'⟩ | ⟨d', n', rfl, hn', hd'⟩ | ⟨p', m', d', n', rfl, hp', hd', hn', hm'⟩ <;>
    simp only [Ty.kind] at hkind <;> first
      | (exfalso; omega)
      | skip
    · subst hkind
      rcases hk with rfl | rfl | rfl <;> exact ⟨rfl, List.append_cancel_left h⟩
    · have h2 : textT s ++ (41 :: x) = textT s' ++ (41 :: y) := by simpa [textT, kindText, textsT] using h
      obtain ⟨e, e2⟩ := IH s (by simp [Ty.subs]) s' _ _ (AQ s' (by simp [Ty.subs])) (stop_cons (by simp)) (stop_cons (by simp)) h2
      exact ⟨by rw [e], by simpa using e2⟩
    · have h2 : joinC ((ns.zip ss).map (partT true)) ++ 125 :: x = joinC ((ns'.zip ss').map (partT true)) ++ 125 :: y := by
        rw [← row_zip ns ss hl, ← row_zip ns' ss' hl']
        simpa [textT, kindText, textsT_len] using h
      have W : ∀ (ns : List ByteArray) (ss : List Ty), (∀ i, i < ns.length → smallB (nameAt ns i).data.toList = true) → ∀ p ∈ ns.zip ss, smallB p.1.data.toList = true := by
        intro ns ss hn p hp
        obtain ⟨i, hi⟩ := List.getElem?_of_mem (List.of_mem_zip hp).1
        have := hn i (List.getElem?_eq_some_iff.1 hi).1
        unfold nameAt at this
        rw [List.getD_eq_getElem?_getD, hi] at this
        exact this
      have O : ∀ p : ByteArray × Ty, smallB p.1.data.toList = true → ∃ c r, partT true p = c :: r ∧ c ≠ 125 := by
        intro p hp
        have hne := spell_ne (small_spell hp)
        have hw := small_word hp
        unfold partT
        cases hl : p.1.data.toList with
        | nil => exact absurd hl hne
        | cons c l => exact ⟨c, l ++ 58 :: 32 :: textT p.2, by simp, fun e => by have := hw c (by rw [hl]; simp); rw [e] at this; revert this; decide⟩
      obtain ⟨a, b, c⟩ := join_inj true 125 (by simp) (ns.zip ss) (ns'.zip ss') x y (fun p hp => IH p.2 (List.of_mem_zip hp).2) (fun p hp => AQ p.2 (List.of_mem_zip hp).2) (fun p hp => small_word (W ns ss hn p hp)) (fun p hp => small_word (W ns' ss' hn' p hp)) (fun p hp => O p (W ns ss hn p hp)) (fun p hp => O p (W ns' ss' hn' p hp)) h2
      have b := b rfl
      rw [List.map_snd_zip (by omega), List.map_snd_zip (by omega)] at a
      rw [List.map_fst_zip (by omega), List.map_fst_zip (by omega)] at b
      exact ⟨by rw [a, b], c⟩
    · have h2 : joinC ((ns.zip ss).map (partT true)) ++ 93 :: x = joinC ((ns'.zip ss').map (partT true)) ++ 93 :: y := by
        rw [← row_zip ns ss hl, ← row_zip ns' ss' hl']
        simpa [textT, kindText, textsT_len] using h
      have W : ∀ (ns : List ByteArray) (ss : List Ty), (∀ i, i < ns.length → greatB (nameAt ns i).data.toList = true) → ∀ p ∈ ns.zip ss, greatB p.1.data.toList = true := by
        intro ns ss hn p hp
        obtain ⟨i, hi⟩ := List.getElem?_of_mem (List.of_mem_zip hp).1
        have := hn i (List.getElem?_eq_some_iff.1 hi).1
        unfold nameAt at this
        rw [List.getD_eq_getElem?_getD, hi] at this
        exact this
      have O : ∀ p : ByteArray × Ty, greatB p.1.data.toList = true → ∃ c r, partT true p = c :: r ∧ c ≠ 93 := by
        intro p hp
        have hne := spell_ne (great_spell hp)
        have hw := great_word hp
        unfold partT
        cases hl : p.1.data.toList with
        | nil => exact absurd hl hne
        | cons c l => exact ⟨c, l ++ 58 :: 32 :: textT p.2, by simp, fun e => by have := hw c (by rw [hl]; simp); rw [e] at this; revert this; decide⟩
      obtain ⟨a, b, c⟩ := join_inj true 93 (by simp) (ns.zip ss) (ns'.zip ss') x y (fun p hp => IH p.2 (List.of_mem_zip hp).2) (fun p hp => AQ p.2 (List.of_mem_zip hp).2) (fun p hp => great_word (W ns ss hn p hp)) (fun p hp => great_word (W ns' ss' hn' p hp)) (fun p hp => O p (W ns ss hn p hp)) (fun p hp => O p (W ns' ss' hn' p hp)) h2
      have b := b rfl
      rw [List.map_snd_zip (by omega), List.map_snd_zip (by omega)] at a
      rw [List.map_fst_zip (by omega), List.map_fst_zip (by omega)] at b
      exact ⟨by rw [a, b], c⟩
    · obtain ⟨m, hm⟩ : ∃ m, ss.length = m + 1 := ⟨ss.length - 1, by omega⟩
      obtain ⟨m', hm'⟩ : ∃ m, ss'.length = m + 1 := ⟨ss'.length - 1, by omega⟩
      obtain ⟨r, hr⟩ : ∃ r, ss[m]? = some r := ⟨_, List.getElem?_eq_getElem (by omega)⟩
      obtain ⟨r', hr'⟩ : ∃ r, ss'[m']? = some r := ⟨_, List.getElem?_eq_getElem (by omega)⟩
      have e1 : textT (.mk 7 ⟨#[]⟩ 0 ⟨#[]⟩ ⟨#[]⟩ [] ss) = [40] ++ rowOf (textsT ss) [] m ++ [41, 32, 45, 62, 32] ++ textT r := by
        show [40] ++ rowOf (textsT ss) [] ((textsT ss).length - 1) ++ [41, 32, 45, 62, 32] ++ (textsT ss).getD ((textsT ss).length - 1) [] = _
        rw [textsT_len, hm, Nat.add_sub_cancel, textsT_at _ m r hr]
      have e2 : textT (.mk 7 ⟨#[]⟩ 0 ⟨#[]⟩ ⟨#[]⟩ [] ss') = [40] ++ rowOf (textsT ss') [] m' ++ [41, 32, 45, 62, 32] ++ textT r' := by
        show [40] ++ rowOf (textsT ss') [] ((textsT ss').length - 1) ++ [41, 32, 45, 62, 32] ++ (textsT ss').getD ((textsT ss').length - 1) [] = _
        rw [textsT_len, hm', Nat.add_sub_cancel, textsT_at _ m' r' hr']
      rw [e1, e2, row_plain ss m (by omega), row_plain ss' m' (by omega)] at h
      have h2 : joinC (((ss.take m).map fun t => ((⟨#[]⟩ : ByteArray), t)).map (partT false)) ++ 41 :: ([32, 45, 62, 32] ++ textT r ++ x) = joinC (((ss'.take m').map fun t => ((⟨#[]⟩ : ByteArray), t)).map (partT false)) ++ 41 :: ([32, 45, 62, 32] ++ textT r' ++ y) := by
        simpa using h
      have MT : ∀ (ss : List Ty) (m : Nat) (p : ByteArray × Ty), p ∈ (ss.take m).map (fun t => ((⟨#[]⟩ : ByteArray), t)) → p.1 = ⟨#[]⟩ ∧ p.2 ∈ ss := by
        intro ss m p hp
        obtain ⟨t, ht, rfl⟩ := List.mem_map.1 hp
        exact ⟨rfl, List.mem_of_mem_take ht⟩
      have WD : ∀ (ss : List Ty) (m : Nat) (p : ByteArray × Ty), p ∈ (ss.take m).map (fun t => ((⟨#[]⟩ : ByteArray), t)) → Word p.1.data.toList := by
        intro ss m p hp c hc
        rw [(MT ss m p hp).1] at hc
        simp at hc
      have O : ∀ p : ByteArray × Ty, allOk p.2 = true → ∃ c r, partT false p = c :: r ∧ c ≠ 41 := by
        intro p hp
        obtain ⟨c, r, e, hc⟩ := text_opens p.2 (OW _ hp) 41 (by simp)
        exact ⟨c, r, by simpa [partT] using e, hc⟩
      obtain ⟨a, -, c⟩ := join_inj false 41 (by simp) _ _ _ _ (fun p hp => IH p.2 (MT ss m p hp).2) (fun p hp => AQ p.2 (MT ss' m' p hp).2) (WD ss m) (WD ss' m') (fun p hp => O p (AT p.2 (MT ss m p hp).2)) (fun p hp => O p (AQ p.2 (MT ss' m' p hp).2)) h2
      have h3 : textT r ++ x = textT r' ++ y := by simpa using c
      obtain ⟨e3, e4⟩ := IH r (List.mem_of_getElem? hr) r' _ _ (AQ r' (List.mem_of_getElem? hr')) hx hy h3
      have a' : ss.take m = ss'.take m' := by simpa [Function.comp_def] using a
      have f1 : ss = ss.take m ++ [r] := by
        conv => lhs; rw [← List.take_of_length_le (Nat.le_of_eq hm)]
        rw [List.take_add_one, hr]; rfl
      have f2 : ss' = ss'.take m' ++ [r'] := by
        conv => lhs; rw [← List.take_of_length_le (Nat.le_of_eq hm')]
        rw [List.take_add_one, hr']; rfl
      exact ⟨by rw [f1, f2, a', e3], e4⟩
    · rcases hd with hd | rfl <;> rcases hd' with hd' | rfl
      · have hz : d.size ≠ 0 := fun e => spell_ne (small_spell hd) (List.length_eq_zero_iff.1 (by rw [len_size]; exact e))
        have hz' : d'.size ≠ 0 := fun e => spell_ne (small_spell hd') (List.length_eq_zero_iff.1 (by rw [len_size]; exact e))
        have h2 : d.data.toList ++ (46 :: (n.data.toList ++ x)) = d'.data.toList ++ (46 :: (n'.data.toList ++ y)) := by simpa [textT, kindText, hz, hz'] using h
        obtain ⟨a, b⟩ := munch (small_word hd) (small_word hd') (halt_cons (by decide)) (halt_cons (by decide)) h2
        simp only [List.cons.injEq, true_and] at b
        obtain ⟨c, e⟩ := munch (great_word hn) (great_word hn') hx.halt hy.halt b
        exact ⟨by rw [bytes_list.1 a, bytes_list.1 c], e⟩
      · have hz : d.size ≠ 0 := fun e => spell_ne (small_spell hd) (List.length_eq_zero_iff.1 (by rw [len_size]; exact e))
        have h2 : d.data.toList ++ (46 :: (n.data.toList ++ x)) = n'.data.toList ++ y := by simpa [textT, kindText, hz, empty_is] using h
        obtain ⟨a, -⟩ := munch (small_word hd) (great_word hn') (halt_cons (by decide)) hy.halt h2
        rw [a] at hd
        have := small_not_great hd
        rw [hn'] at this; cases this
      · have hz' : d'.size ≠ 0 := fun e => spell_ne (small_spell hd') (List.length_eq_zero_iff.1 (by rw [len_size]; exact e))
        have h2 : n.data.toList ++ x = d'.data.toList ++ (46 :: (n'.data.toList ++ y)) := by simpa [textT, kindText, hz', empty_is] using h
        obtain ⟨a, -⟩ := munch (great_word hn) (small_word hd') hx.halt (halt_cons (by decide)) h2
        rw [← a] at hd'
        have := small_not_great hd'
        rw [hn] at this; cases this
      · have h2 : n.data.toList ++ x = n'.data.toList ++ y := by simpa [textT, kindText, empty_is] using h
        obtain ⟨a, b⟩ := munch (great_word hn) (great_word hn') hx.halt hy.halt h2
        exact ⟨by rw [bytes_list.1 a], b⟩
    · have h2 : p.data.toList ++ (32 :: ((dec m).data.toList ++ (32 :: (d.data.toList ++ (32 :: (n.data.toList ++ (62 :: x))))))) = p'.data.toList ++ (32 :: ((dec m').data.toList ++ (32 :: (d'.data.toList ++ (32 :: (n'.data.toList ++ (62 :: y))))))) := by
        simpa [textT, kindText] using h
      obtain ⟨a1, b1⟩ := munch (small_word hp) (small_word hp') (halt_cons (by decide)) (halt_cons (by decide)) h2
      simp only [List.cons.injEq, true_and] at b1
      obtain ⟨a2, b2⟩ := munch (dec_word m) (dec_word m') (halt_cons (by decide)) (halt_cons (by decide)) b1
      simp only [List.cons.injEq, true_and] at b2
      obtain ⟨a3, b3⟩ := munch (small_word hd) (small_word hd') (halt_cons (by decide)) (halt_cons (by decide)) b2
      simp only [List.cons.injEq, true_and] at b3
      obtain ⟨a4, b4⟩ := munch (great_word hn) (great_word hn') (halt_cons (by decide)) (halt_cons (by decide)) b3
      simp only [List.cons.injEq, true_and] at b4
      exact ⟨by rw [bytes_list.1 a1, dec_inj (by omega) (by omega) a2, bytes_list.1 a3, bytes_list.1 a4], b4⟩

/-- Types that may be, and have one text, are one type. -/
theorem text_inj {a b : Ty} (ha : allOk a = true) (hb : allOk b = true) (h : textT a = textT b) : a = b :=
  (told_all _ a (Nat.le_refl _) ha b [] [] hb (fun c r e => by simp at e) (fun c r e => by simp at e) (by rw [h])).1

end Go.Proofs.YtapjhmfbmkckaaaGreatDoor.M

/- Plain mathematics for layer 6: what tokens a text has, told a piece at a time. -/
namespace Go.Proofs.YtapjhmfbmkckaaaGreatDoor.M
open Go

abbrev Tk := Nat × List UInt8
/-- A text has these tokens. -/
inductive Lexes : List UInt8 → List Tk → Prop
  | nil : Lexes [] []
  | blank {c : UInt8} {r : List UInt8} {ts : List Tk} : blankC (c.toNat : Int) = true → Lexes r ts → Lexes (c :: r) ts
  | word {k : Nat} {w r : List UInt8} {ts : List Tk} : ((k = 1 ∧ lowC (bt w 0) = true) ∨ (k = 2 ∧ upC (bt w 0) = true)) → w ≠ [] → Word w → Halt r → Lexes r ts → Lexes (w ++ r) ((k, w) :: ts)
  | num {w r : List UInt8} {ts : List Tk} : w ≠ [] → (∀ c ∈ w, digC (c.toNat : Int) = true) → Halt r → Lexes r ts → Lexes (w ++ r) ((3, w) :: ts)
  | two {a b : UInt8} {r : List UInt8} {ts : List Tk} : twoC (a.toNat : Int) (b.toNat : Int) = true → Lexes r ts → Lexes (a :: b :: r) ((4, [a, b]) :: ts)
  | sign {c : UInt8} {r : List UInt8} {ts : List Tk} : signC (c.toNat : Int) = true → twoC (c.toNat : Int) (bt r 0) = false → Lexes r ts → Lexes (c :: r) ((4, [c]) :: ts)

theorem bt_app0 {w r : List UInt8} (h : w ≠ []) : bt (w ++ r) 0 = bt w 0 := by
  cases w with
  | nil => exact absurd rfl h
  | cons c w => rfl
theorem stop_word (g : Int → Bool) (w r : List UInt8) (hne : w ≠ []) (hw : ∀ c ∈ w, g (c.toNat : Int) = true) (hr : ∀ c s, r = c :: s → g (c.toNat : Int) = false) : stop g (w ++ r) 1 = w.length := by
  refine stop_eq g (w ++ r) 1 w.length (List.length_pos_iff.2 hne) (by simp) (fun j h1 h2 => ?_) ?_
  · have e : bt (w ++ r) j = (w[j].toNat : Int) := by
      unfold bt
      rw [List.getD_eq_getElem?_getD, List.getElem?_append_left h2, List.getElem?_eq_getElem h2]; rfl
    rw [e]; exact hw _ (List.getElem_mem h2)
  · cases r with
    | nil => left; simp
    | cons c s =>
      right
      have e : bt (w ++ c :: s) w.length = (c.toNat : Int) := by
        unfold bt
        rw [List.getD_eq_getElem?_getD, List.getElem?_append_right (Nat.le_refl _)]; simp
      rw [e]; exact hr c s rfl

theorem item_word {k : Nat} {w r : List UInt8} (hk : (k = 1 ∧ lowC (bt w 0) = true) ∨ (k = 2 ∧ upC (bt w 0) = true)) (hne : w ≠ []) (hw : Word w) (hr : Halt r) : item (w ++ r) 0 = (k, w.length) := by
  have hs := stop_word anyC w r hne hw hr
  unfold item
  rw [bt_app0 hne, show 0 + 1 = 1 from rfl, hs]
  generalize bt w 0 = x at hk
  generalize bt (w ++ r) 1 = y
  rcases hk with ⟨rfl, h⟩ | ⟨rfl, h⟩
  · have h' := h
    unfold lowC at h'
    simp only [Bool.and_eq_true, decide_eq_true_eq] at h'
    rw [if_neg (by unfold blankC; simp; omega), if_neg (by omega), if_pos h]
  · have h' := h
    unfold upC at h'
    simp only [Bool.and_eq_true, decide_eq_true_eq] at h'
    rw [if_neg (by unfold blankC; simp; omega), if_neg (by omega), if_neg (by unfold lowC; simp; omega), if_pos h]
theorem halt_dig {r : List UInt8} (hr : Halt r) : ∀ c s, r = c :: s → digC (c.toNat : Int) = false := fun c s e => by
  have h := hr c s e
  unfold alnum anyC at h
  simp only [Bool.or_eq_false_iff] at h
  exact h.2
theorem item_num {w r : List UInt8} (hne : w ≠ []) (hw : ∀ c ∈ w, digC (c.toNat : Int) = true) (hr : Halt r) : item (w ++ r) 0 = (3, w.length) := by
  have hs := stop_word digC w r hne hw (halt_dig hr)
  unfold item
  rw [bt_app0 hne, show 0 + 1 = 1 from rfl, hs]
  have h : digC (bt w 0) = true := by
    cases w with
    | nil => exact absurd rfl hne
    | cons c w => exact hw c (by simp)
  generalize bt w 0 = x at h
  generalize bt (w ++ r) 1 = y
  have h' := h
  unfold digC at h'
  simp only [Bool.and_eq_true, decide_eq_true_eq] at h'
  rw [if_neg (by unfold blankC; simp; omega), if_neg (by omega), if_neg (by unfold lowC; simp; omega), if_neg (by unfold upC; simp; omega), if_pos h]
theorem item_blank {c : UInt8} {r : List UInt8} (h : blankC (c.toNat : Int) = true) : item ([c] ++ r) 0 = (0, [c].length) := by
  unfold item
  rw [if_pos (by exact h)]; rfl
theorem sign_range {n : Int} (h : signC n = true) : blankC n = false ∧ n ≠ 35 ∧ lowC n = false ∧ upC n = false ∧ digC n = false := by
  unfold signC signs at h
  have hm : n ∈ ([123, 125, 40, 41, 91, 93, 60, 62, 44, 58, 46, 61] : List Int) := by simpa using h
  have key : ∀ n ∈ ([123, 125, 40, 41, 91, 93, 60, 62, 44, 58, 46, 61] : List Int), blankC n = false ∧ n ≠ 35 ∧ lowC n = false ∧ upC n = false ∧ digC n = false := by decide
  exact key n hm
theorem two_range {a b : Int} (h : twoC a b = true) : blankC a = false ∧ a ≠ 35 ∧ lowC a = false ∧ upC a = false ∧ digC a = false := by
  have : a = 45 ∨ a = 46 := by
    unfold twoC at h
    simp only [Bool.or_eq_true, Bool.and_eq_true, beq_iff_eq] at h
    rcases h with h | h
    · exact .inl h.1
    · exact .inr h.1
  rcases this with rfl | rfl <;> decide
theorem item_two {a b : UInt8} {r : List UInt8} (h : twoC (a.toNat : Int) (b.toNat : Int) = true) : item ([a, b] ++ r) 0 = (4, [a, b].length) := by
  obtain ⟨h1, h2, h3, h4, h5⟩ := two_range h
  unfold item
  have e0 : bt ([a, b] ++ r) 0 = (a.toNat : Int) := rfl
  have e1 : bt ([a, b] ++ r) (0 + 1) = (b.toNat : Int) := rfl
  rw [e0, e1, if_neg (by rw [h1]; decide), if_neg h2, if_neg (by rw [h3]; decide), if_neg (by rw [h4]; decide), if_neg (by rw [h5]; decide), if_pos h]; rfl
theorem item_sign {c : UInt8} {r : List UInt8} (h : signC (c.toNat : Int) = true) (h2 : twoC (c.toNat : Int) (bt r 0) = false) : item ([c] ++ r) 0 = (4, [c].length) := by
  obtain ⟨h1, h3, h4, h5, h6⟩ := sign_range h
  unfold item
  have e0 : bt ([c] ++ r) 0 = (c.toNat : Int) := rfl
  have e1 : bt ([c] ++ r) (0 + 1) = bt r 0 := rfl
  rw [e0, e1, if_neg (by rw [h1]; decide), if_neg h3, if_neg (by rw [h4]; decide), if_neg (by rw [h5]; decide), if_neg (by rw [h6]; decide), if_neg (by rw [h2]; decide), if_pos h]; rfl

/-- A piece of a text, where it lies. -/
theorem fin_piece {s : ByteArray} {i k : Nat} {w r : List UInt8} (e : s.data.toList.drop i = w ++ r) (hne : w ≠ []) (hit : item (w ++ r) 0 = (k, w.length)) :
    i < s.size ∧ item s.data.toList i = (k, i + w.length) ∧ (s.extract i (i + w.length)).data.toList = w ∧ s.data.toList.drop (i + w.length) = r ∧ i + w.length ≤ s.size := by
  have hw : 0 < w.length := List.length_pos_iff.2 hne
  have hl := congrArg List.length e
  rw [List.length_drop, List.length_append, len_size] at hl
  refine ⟨by omega, by rw [item_drop, e, hit], ?_, by rw [← List.drop_drop, e]; simp, by omega⟩
  simp only [ByteArray.data_extract, Array.toList_extract, List.extract]
  rw [e, show i + w.length - i = w.length by omega]; simp
theorem lexes_fin {l : List UInt8} {ts : List Tk} (h : Lexes l ts) : ∀ (s : ByteArray) (i : Nat) (acc : List Tok), s.data.toList.drop i = l → i ≤ s.size →
    ∃ T : List Tok, fin s i acc = (acc ++ T, -1) ∧ T.map (fun t => (t.kind, t.text.data.toList)) = ts := by
  induction h with
  | nil =>
    intro s i acc e hi
    have hl := congrArg List.length e
    rw [List.length_drop, len_size] at hl
    exact ⟨[], by rw [fin_end s i acc (by simp at hl; omega)]; simp, rfl⟩
  | @blank c r ts hc _ ih =>
    intro s i acc e hi
    obtain ⟨h1, h2, -, h4, h5⟩ := fin_piece (w := [c]) e (by simp) (item_blank hc)
    rw [fin_skip acc h1 h2]
    exact ih s _ acc h4 h5
  | @word k w r ts hk hne hw hr _ ih =>
    intro s i acc e hi
    obtain ⟨h1, h2, h3, h4, h5⟩ := fin_piece e hne (item_word hk hne hw hr)
    obtain ⟨T, hT, hm⟩ := ih s _ (acc ++ [⟨k, i, s.extract i (i + w.length)⟩]) h4 h5
    refine ⟨⟨k, i, s.extract i (i + w.length)⟩ :: T, ?_, by rw [List.map_cons, hm, h3]⟩
    rw [fin_tok acc h1 h2 (by rcases hk with h | h <;> omega) (by rcases hk with h | h <;> omega), hT]; simp
  | @num w r ts hne hw hr _ ih =>
    intro s i acc e hi
    obtain ⟨h1, h2, h3, h4, h5⟩ := fin_piece e hne (item_num hne hw hr)
    obtain ⟨T, hT, hm⟩ := ih s _ (acc ++ [⟨3, i, s.extract i (i + w.length)⟩]) h4 h5
    refine ⟨⟨3, i, s.extract i (i + w.length)⟩ :: T, ?_, by rw [List.map_cons, hm, h3]⟩
    rw [fin_tok acc h1 h2 (by omega) (by omega), hT]; simp
  | @two a b r ts hc _ ih =>
    intro s i acc e hi
    obtain ⟨h1, h2, h3, h4, h5⟩ := fin_piece (w := [a, b]) e (by simp) (item_two hc)
    obtain ⟨T, hT, hm⟩ := ih s _ (acc ++ [⟨4, i, s.extract i (i + [a, b].length)⟩]) h4 h5
    refine ⟨⟨4, i, s.extract i (i + [a, b].length)⟩ :: T, ?_, by rw [List.map_cons, hm, h3]⟩
    rw [fin_tok acc h1 h2 (by omega) (by omega), hT]; simp
  | @sign c r ts hc ht _ ih =>
    intro s i acc e hi
    obtain ⟨h1, h2, h3, h4, h5⟩ := fin_piece (w := [c]) e (by simp) (item_sign hc ht)
    obtain ⟨T, hT, hm⟩ := ih s _ (acc ++ [⟨4, i, s.extract i (i + [c].length)⟩]) h4 h5
    refine ⟨⟨4, i, s.extract i (i + [c].length)⟩ :: T, ?_, by rw [List.map_cons, hm, h3]⟩
    rw [fin_tok acc h1 h2 (by omega) (by omega), hT]; simp

/-- The pieces of which texts are made. -/
theorem lex_small {s : ByteArray} {r : List UInt8} {ts : List Tk} (h : smallB s.data.toList = true) (hr : Halt r) (hl : Lexes r ts) : Lexes (s.data.toList ++ r) ((1, s.data.toList) :: ts) :=
  .word (.inl ⟨rfl, ((spell_iff _ _ _).1 (small_spell h)).2.2.1⟩) (spell_ne (small_spell h)) (small_word h) hr hl
theorem lex_great {s : ByteArray} {r : List UInt8} {ts : List Tk} (h : greatB s.data.toList = true) (hr : Halt r) (hl : Lexes r ts) : Lexes (s.data.toList ++ r) ((2, s.data.toList) :: ts) :=
  .word (.inr ⟨rfl, ((spell_iff _ _ _).1 (great_spell h)).2.2.1⟩) (spell_ne (great_spell h)) (great_word h) hr hl
theorem lex_low {w r : List UInt8} {ts : List Tk} (h : lowC (bt w 0) = true) (hw : Word w) (hr : Halt r) (hl : Lexes r ts) : Lexes (w ++ r) ((1, w) :: ts) :=
  .word (.inl ⟨rfl, h⟩) (fun e => by subst e; revert h; decide) hw hr hl
theorem lex_up {w r : List UInt8} {ts : List Tk} (h : upC (bt w 0) = true) (hw : Word w) (hr : Halt r) (hl : Lexes r ts) : Lexes (w ++ r) ((2, w) :: ts) :=
  .word (.inr ⟨rfl, h⟩) (fun e => by subst e; revert h; decide) hw hr hl
theorem dec_ne (m : Int) : (dec m).data.toList ≠ [] := by
  have e : (dec m).data.toList = Lib.decDigits m.toNat := by simp [dec]
  rw [e]
  by_cases h : m.toNat < 10
  · rw [ddJ_small h]; simp
  · rw [ddJ_big (by omega)]; simp
theorem lex_dec {m : Int} {r : List UInt8} {ts : List Tk} (hr : Halt r) (hl : Lexes r ts) : Lexes ((dec m).data.toList ++ r) ((3, (dec m).data.toList) :: ts) :=
  .num (dec_ne m) (fun c hc => by
    have hc' : c ∈ Lib.decDigits m.toNat := by simpa [dec] using hc
    have := ddJ_mem _ m.toNat (Nat.lt_succ_self _) c hc'
    unfold digC
    have h1 : (48 : Int) ≤ (c.toNat : Int) := by omega
    have h2 : (c.toNat : Int) ≤ 57 := by omega
    simp [h1, h2]) hr hl
theorem lex_sign {c : UInt8} {r : List UInt8} {ts : List Tk} (h : c = 123 ∨ c = 125 ∨ c = 40 ∨ c = 41 ∨ c = 91 ∨ c = 93 ∨ c = 60 ∨ c = 62 ∨ c = 44 ∨ c = 58 ∨ c = 61) (hl : Lexes r ts) : Lexes (c :: r) ((4, [c]) :: ts) := by
  refine .sign ?_ ?_ hl
  · rcases h with rfl | rfl | rfl | rfl | rfl | rfl | rfl | rfl | rfl | rfl | rfl <;> decide
  · unfold twoC
    rcases h with rfl | rfl | rfl | rfl | rfl | rfl | rfl | rfl | rfl | rfl | rfl <;> simp
theorem lex_space {r : List UInt8} {ts : List Tk} (hl : Lexes r ts) : Lexes (32 :: r) ts := .blank (by decide) hl
theorem lex_line {r : List UInt8} {ts : List Tk} (hl : Lexes r ts) : Lexes (10 :: r) ts := .blank (by decide) hl
theorem lex_arrow {r : List UInt8} {ts : List Tk} (hl : Lexes r ts) : Lexes (45 :: 62 :: r) ((4, [45, 62]) :: ts) := .two (by decide) hl

end Go.Proofs.YtapjhmfbmkckaaaGreatDoor.M

/- Walks of package kind: are a type's own fields those of its kind? -/
namespace Go.Proofs.YtapjhmfbmkckaaaGreatDoor
open Go.RowKit
open M

/-- What a Local's, an Open's own fields must be. -/
def localOk (t : Ty) : Bool := emptyB t.pkg && (t.major == 0) && (emptyB t.mod || smallB t.mod.data.toList) && greatB t.name.data.toList
def openOk (t : Ty) : Bool := smallB t.pkg.data.toList && decide (1 ≤ t.major) && decide (t.major ≤ 999999999) && smallB t.mod.data.toList && greatB t.name.data.toList
/-- Is the name at that place at fault, of names of that sort? -/
def badFor (f : List UInt8 → Bool) (names : List ByteArray) (i : Nat) : Bool := !f (nameAt names i).data.toList || (decide (0 < i) && leS (nameAt names i) (nameAt names (i - 1)))
def risingB (f : List UInt8 → Bool) (names : List ByteArray) : Bool := (List.range names.length).all fun i => !badFor f names i
theorem rising_iff (f : List UInt8 → Bool) (names : List ByteArray) : risingB f names = true ↔ ∀ i, i < names.length → badFor f names i = false := by
  unfold risingB
  simp [List.all_eq_true]
theorem rising_no {f : List UInt8 → Bool} {names : List ByteArray} {i : Nat} (hi : i < names.length) (h : badFor f names i = true) : risingB f names = false := by
  rw [Bool.eq_false_iff, ne_eq, rising_iff]
  intro a
  have := a i hi
  rw [h] at this; cases this
theorem leL : ∀ x y : List UInt8, (Op.bytesLess x y || x == y) = !Op.bytesLess y x
  | [], [] => rfl
  | [], b :: y => by simp [Op.bytesLess]
  | a :: x, [] => by simp [Op.bytesLess]
  | a :: x, b :: y => by
    have ih := leL x y
    simp only [Op.bytesLess, List.cons_beq_cons]
    rcases Nat.lt_trichotomy a.toNat b.toNat with h | h | h
    · have h1 : a < b := h
      have h2 : ¬ b < a := by intro (c : b.toNat < a.toNat); omega
      have h3 : (b == a) = false := by simp; intro e; subst e; exact absurd h (Nat.lt_irrefl _)
      simp [h1, h2, h3]
    · have e : a = b := UInt8.toNat_inj.1 h
      subst e
      have h1 : ¬ a < a := by intro (c : a.toNat < a.toNat); omega
      simp [h1, ih]
    · have h1 : b < a := h
      have h2 : ¬ a < b := by intro (c : a.toNat < b.toNat); omega
      have h3 : (a == b) = false := by simp; intro e; subst e; exact absurd h (Nat.lt_irrefl _)
      simp [h1, h2, h3]
theorem leS_eq (a b : ByteArray) : leS a b = !Op.bytesLess b.toList a.toList := leL _ _
theorem names_small (names : List ByteArray) : namesOk 5 names = risingB smallB names := by
  have e : (fun i => !badName 5 names i) = (fun i => !badFor smallB names i) := by funext i; simp [badName, badFor]
  unfold namesOk risingB; rw [e]
theorem names_great (names : List ByteArray) : namesOk 6 names = risingB greatB names := by
  have e : (fun i => !badName 6 names i) = (fun i => !badFor greatB names i) := by funext i; simp [badName, badFor]
  unfold namesOk risingB; rw [e]
theorem names_none (k : Int) {names : List ByteArray} (h : names.length = 0) : namesOk k names = true := by
  unfold namesOk; rw [h]; rfl
/-- What the package asks of a type's own fields. -/
def formT (t : Ty) : Bool :=
  if t.kind = 1 ∨ t.kind = 2 ∨ t.kind = 3 then decide (t.subs.length = 0) && decide (t.names.length = 0) && noMore t
  else if t.kind = 4 then decide (t.subs.length = 1) && decide (t.names.length = 0) && noMore t
  else if t.kind = 5 then decide (t.subs.length ≤ 20) && decide (t.names.length = t.subs.length) && risingB smallB t.names && noMore t
  else if t.kind = 6 then decide (1 ≤ t.subs.length) && decide (t.subs.length ≤ 20) && decide (t.names.length = t.subs.length) && risingB greatB t.names && noMore t
  else if t.kind = 7 then decide (1 ≤ t.subs.length) && decide (t.subs.length ≤ 20) && decide (t.names.length = 0) && noMore t
  else if t.kind = 8 then decide (t.subs.length = 0) && decide (t.names.length = 0) && localOk t
  else if t.kind = 9 then decide (t.subs.length = 0) && decide (t.names.length = 0) && openOk t
  else false
def formW (t : Ty) (n q : Nat) : Bool :=
  if t.kind = 1 ∨ t.kind = 2 ∨ t.kind = 3 then decide (n = 0) && decide (q = 0) && noMore t
  else if t.kind = 4 then decide (n = 1) && decide (q = 0) && noMore t
  else if t.kind = 5 then decide (n ≤ 20) && decide (q = n) && risingB smallB t.names && noMore t
  else if t.kind = 6 then decide (1 ≤ n) && decide (n ≤ 20) && decide (q = n) && risingB greatB t.names && noMore t
  else if t.kind = 7 then decide (1 ≤ n) && decide (n ≤ 20) && decide (q = 0) && noMore t
  else if t.kind = 8 then decide (n = 0) && decide (q = 0) && localOk t
  else if t.kind = 9 then decide (n = 0) && decide (q = 0) && openOk t
  else false
theorem formT_w (t : Ty) : formT t = formW t t.subs.length t.names.length := rfl
theorem formT_own (t : Ty) : formT t = ownOk t := by
  unfold formT ownOk shapeOk localOk openOk
  by_cases h : t.kind = 1 ∨ t.kind = 2 ∨ t.kind = 3
  · simp only [if_pos h]
    by_cases h0 : t.names.length = 0
    · rw [names_none _ h0, Bool.eq_iff_iff]; simp [h0] <;> (constructor <;> (intro a; simp_all))
    · rw [Bool.eq_iff_iff]; simp [h0]
  simp only [if_neg h]
  by_cases h4 : t.kind = 4
  · simp only [if_pos h4]
    by_cases h0 : t.names.length = 0
    · rw [names_none _ h0, Bool.eq_iff_iff]; simp [h0] <;> (constructor <;> (intro a; simp_all))
    · rw [Bool.eq_iff_iff]; simp [h0]
  simp only [if_neg h4]
  by_cases h5 : t.kind = 5
  · simp only [if_pos h5]
    rw [h5, names_small]
    rw [Bool.eq_iff_iff]; simp only [Bool.and_eq_true, decide_eq_true_eq]
    constructor
    · rintro ⟨⟨⟨a, b⟩, c⟩, d⟩; exact ⟨⟨a, c⟩, d, b.symm⟩
    · rintro ⟨⟨a, c⟩, d, b⟩; exact ⟨⟨⟨a, b.symm⟩, c⟩, d⟩
  simp only [if_neg h5]
  by_cases h6 : t.kind = 6
  · simp only [if_pos h6]
    rw [h6, names_great]
    rw [Bool.eq_iff_iff]; simp only [Bool.and_eq_true, decide_eq_true_eq]
    constructor
    · rintro ⟨⟨⟨⟨e, a⟩, b⟩, c⟩, d⟩; exact ⟨⟨a, c⟩, ⟨d, b.symm⟩, by omega⟩
    · rintro ⟨⟨a, c⟩, ⟨d, b⟩, e⟩; exact ⟨⟨⟨⟨by omega, a⟩, b.symm⟩, c⟩, d⟩
  simp only [if_neg h6]
  by_cases h7 : t.kind = 7
  · simp only [if_pos h7]
    by_cases h0 : t.names.length = 0
    · rw [names_none _ h0, Bool.eq_iff_iff]; simp only [Bool.and_eq_true, decide_eq_true_eq]
      constructor
      · rintro ⟨⟨⟨e, a⟩, b⟩, d⟩; exact ⟨⟨a, trivial⟩, ⟨d, by omega⟩, h0⟩
      · rintro ⟨⟨a, c⟩, ⟨d, b⟩, e⟩; exact ⟨⟨⟨by omega, a⟩, h0⟩, d⟩
    · rw [Bool.eq_iff_iff]; simp [h0]
  simp only [if_neg h7]
  by_cases h8 : t.kind = 8
  · simp only [if_pos h8]
    by_cases h0 : t.names.length = 0
    · rw [names_none _ h0, Bool.eq_iff_iff]; simp only [Bool.and_eq_true, Bool.or_eq_true, decide_eq_true_eq]
      constructor
      · rintro ⟨⟨a, b⟩, ⟨⟨c, d⟩, e⟩, f⟩; exact ⟨⟨by omega, trivial⟩, ⟨⟨⟨⟨a, h0⟩, c⟩, d⟩, f⟩, e.symm⟩
      · rintro ⟨-, ⟨⟨⟨⟨a, b⟩, c⟩, d⟩, f⟩, e⟩; exact ⟨⟨a, h0⟩, ⟨⟨c, d⟩, e.symm⟩, f⟩
    · rw [Bool.eq_iff_iff]; simp [h0]
  simp only [if_neg h8]
  by_cases h9 : t.kind = 9
  · simp only [if_pos h9]
    by_cases h0 : t.names.length = 0
    · rw [names_none _ h0, Bool.eq_iff_iff]; simp only [Bool.and_eq_true, decide_eq_true_eq]
      constructor
      · rintro ⟨⟨a, b⟩, ⟨⟨⟨c, d⟩, e⟩, f⟩, g⟩; exact ⟨⟨by omega, trivial⟩, ⟨⟨⟨⟨⟨⟨a, h0⟩, c⟩, f⟩, g⟩, d⟩, e⟩⟩
      · rintro ⟨-, ⟨⟨⟨⟨⟨a, b⟩, c⟩, f⟩, g⟩, d⟩, e⟩; exact ⟨⟨a, h0⟩, ⟨⟨⟨c, d⟩, e⟩, f⟩, g⟩
    · rw [Bool.eq_iff_iff]; simp [h0]
  · simp only [if_neg h9]; simp

theorem nameAt_of0 {l : List ByteArray} {i : Nat} {s : ByteArray} (h : l[i]? = some s) : nameAt l i = s := by
  unfold nameAt; rw [List.getD_eq_getElem?_getD, h]; rfl

set_option maxRecDepth 100000 in
set_option maxHeartbeats 4000000 in
theorem unnamed_any (t : Ty) (v : Value) (w : World) (hv : TyV w v t) :
    Calls Tryz.prog 168 #[v] w fun e w' => e = .returned (.bool (noMore t)) ∧ Below w.heap.size w w' := by
  obtain ⟨l, rfl, hT⟩ := hv
  obtain ⟨An, cn, As, cs, rfl, zp, zm, za, hzn, hz, hN, -⟩ := hT.parts
  clear hT hN
  by_cases e1 : t.pkg.size = 0
  · obtain ⟨x1, y1⟩ := empty_facts _ e1
    rcases hid_or (t.major == 0) with e2 | e2
    · have d2 := e2.out
      have R : noMore t = false := by
        unfold noMore emptyB
        simp [d2]
      rw [R]
      clear R
      as_aux_lemma =>
      go_enter Tryz.func168, Tryz.ntmps168
      go_wp2_with fail
      go_ret
      exact ⟨rfl, below_new (Below.refl _ _) _⟩
    · have d2 := e2.out
      by_cases e3 : t.mod.size = 0
      · obtain ⟨x3, y3⟩ := empty_facts _ e3
        by_cases e4 : t.name.size = 0
        · obtain ⟨x4, y4⟩ := empty_facts _ e4
          have R : noMore t = true := by
            unfold noMore emptyB
            simp [e1, d2, e3, e4]
          rw [R]
          clear R
          as_aux_lemma =>
          go_enter Tryz.func168, Tryz.ntmps168
          go_wp2_with fail
          go_ret
          exact ⟨rfl, below_new (Below.refl _ _) _⟩
        · obtain ⟨x4, y4⟩ := full_facts _ e4
          have R : noMore t = false := by
            unfold noMore emptyB
            simp [e4]
          rw [R]
          clear R
          as_aux_lemma =>
          go_enter Tryz.func168, Tryz.ntmps168
          go_wp2_with fail
          go_ret
          exact ⟨rfl, below_new (Below.refl _ _) _⟩
      · obtain ⟨x3, y3⟩ := full_facts _ e3
        have R : noMore t = false := by
          unfold noMore emptyB
          simp [e3]
        rw [R]
        clear R
        as_aux_lemma =>
        go_enter Tryz.func168, Tryz.ntmps168
        go_wp2_with fail
        go_ret
        exact ⟨rfl, below_new (Below.refl _ _) _⟩
  · obtain ⟨x1, y1⟩ := full_facts _ e1
    have R : noMore t = false := by
      unfold noMore emptyB
      simp [e1]
    rw [R]
    clear R
    as_aux_lemma =>
    go_enter Tryz.func168, Tryz.ntmps168
    go_wp2_with fail
    go_ret
    exact ⟨rfl, below_new (Below.refl _ _) _⟩

set_option maxRecDepth 100000 in
set_option maxHeartbeats 4000000 in
theorem mayLocal_any (t : Ty) (v : Value) (w : World) (hv : TyV w v t) :
    Calls Tryz.prog 170 #[v] w fun e w' => e = .returned (.bool (localOk t)) ∧ Below w.heap.size w w' := by
  obtain ⟨l, rfl, hT⟩ := hv
  obtain ⟨An, cn, As, cs, rfl, zp, zm, za, hzn, hz, hN, -⟩ := hT.parts
  clear hT hN
  by_cases e1 : t.pkg.size = 0
  · obtain ⟨x1, y1⟩ := empty_facts _ e1
    rcases hid_or (t.major == 0) with e2 | e2
    · have d2 := e2.out
      have R : Hid (localOk t = false) := Lib.hid (by
        unfold localOk emptyB
        simp [d2])
      rw [R.out]
      clear R
      as_aux_lemma =>
      go_enter Tryz.func170, Tryz.ntmps170
      go_wp2_with fail
      go_ret
      exact ⟨rfl, below_new (Below.refl _ _) _⟩
    · have d2 := e2.out
      by_cases e3 : t.mod.size = 0
      · obtain ⟨x3, y3⟩ := empty_facts _ e3
        rcases hid_or (greatB t.name.data.toList) with g1 | g1
        · skip
          have R : Hid (localOk t = false) := Lib.hid (by
            unfold localOk emptyB
            simp [e1, d2, e3, g1.out])
          rw [R.out]
          clear R
          as_aux_lemma =>
          go_enter Tryz.func170, Tryz.ntmps170
          go_wp2_with fail
          refine (great_any _ _ za).mono ?_; rintro e w2 ⟨rfl, rfl⟩; rw [g1.out]
          go_wp2_with fail
          go_ret
          exact ⟨rfl, below_new (Below.refl _ _) _⟩
        · skip
          have R : Hid (localOk t = true) := Lib.hid (by
            unfold localOk emptyB
            simp [e1, d2, e3, g1.out])
          rw [R.out]
          clear R
          as_aux_lemma =>
          go_enter Tryz.func170, Tryz.ntmps170
          go_wp2_with fail
          refine (great_any _ _ za).mono ?_; rintro e w2 ⟨rfl, rfl⟩; rw [g1.out]
          go_wp2_with fail
          go_ret
          exact ⟨rfl, below_new (Below.refl _ _) _⟩
      · obtain ⟨x3, y3⟩ := full_facts _ e3
        rcases hid_or (smallB t.mod.data.toList) with s1 | s1
        · skip
          have R : Hid (localOk t = false) := Lib.hid (by
            unfold localOk emptyB
            simp [e3, s1.out])
          rw [R.out]
          clear R
          as_aux_lemma =>
          go_enter Tryz.func170, Tryz.ntmps170
          go_wp2_with fail
          refine (small_any _ _ zm).mono ?_; rintro e w1 ⟨rfl, rfl⟩; rw [s1.out]
          go_wp2_with fail
          go_ret
          exact ⟨rfl, below_new (Below.refl _ _) _⟩
        · skip
          rcases hid_or (greatB t.name.data.toList) with g1 | g1
          · skip
            have R : Hid (localOk t = false) := Lib.hid (by
              unfold localOk emptyB
              simp [e1, d2, e3, s1.out, g1.out])
            rw [R.out]
            clear R
            as_aux_lemma =>
            go_enter Tryz.func170, Tryz.ntmps170
            go_wp2_with fail
            refine (small_any _ _ zm).mono ?_; rintro e w1 ⟨rfl, rfl⟩; rw [s1.out]
            go_wp2_with fail
            refine (great_any _ _ za).mono ?_; rintro e w2 ⟨rfl, rfl⟩; rw [g1.out]
            go_wp2_with fail
            go_ret
            exact ⟨rfl, below_new (Below.refl _ _) _⟩
          · skip
            have R : Hid (localOk t = true) := Lib.hid (by
              unfold localOk emptyB
              simp [e1, d2, e3, s1.out, g1.out])
            rw [R.out]
            clear R
            as_aux_lemma =>
            go_enter Tryz.func170, Tryz.ntmps170
            go_wp2_with fail
            refine (small_any _ _ zm).mono ?_; rintro e w1 ⟨rfl, rfl⟩; rw [s1.out]
            go_wp2_with fail
            refine (great_any _ _ za).mono ?_; rintro e w2 ⟨rfl, rfl⟩; rw [g1.out]
            go_wp2_with fail
            go_ret
            exact ⟨rfl, below_new (Below.refl _ _) _⟩
  · obtain ⟨x1, y1⟩ := full_facts _ e1
    have R : Hid (localOk t = false) := Lib.hid (by
      unfold localOk emptyB
      simp [e1])
    rw [R.out]
    clear R
    as_aux_lemma =>
    go_enter Tryz.func170, Tryz.ntmps170
    go_wp2_with fail
    go_ret
    exact ⟨rfl, below_new (Below.refl _ _) _⟩

set_option maxRecDepth 100000 in
set_option maxHeartbeats 4000000 in
theorem mayOpen_any (t : Ty) (v : Value) (w : World) (hv : TyV w v t) :
    Calls Tryz.prog 171 #[v] w fun e w' => e = .returned (.bool (openOk t)) ∧ Below w.heap.size w w' := by
  obtain ⟨l, rfl, hT⟩ := hv
  obtain ⟨An, cn, As, cs, rfl, zp, zm, za, hzn, hz, hN, -⟩ := hT.parts
  clear hT hN
  rcases hid_or (smallB t.pkg.data.toList) with s1 | s1
  · skip
    have R : Hid (openOk t = false) := Lib.hid (by
      unfold openOk
      simp [s1.out])
    rw [R.out]
    clear R
    as_aux_lemma =>
    go_enter Tryz.func171, Tryz.ntmps171
    go_wp2_with fail
    refine (small_any _ _ zp).mono ?_; rintro e w1 ⟨rfl, rfl⟩; rw [s1.out]
    go_wp2_with fail
    go_ret
    exact ⟨rfl, below_new (Below.refl _ _) _⟩
  · by_cases l1 : 1 ≤ t.major
    · by_cases l2 : t.major ≤ 999999999
      · rcases hid_or (smallB t.mod.data.toList) with s2 | s2
        · skip
          have R : Hid (openOk t = false) := Lib.hid (by
            unfold openOk
            simp [s2.out])
          rw [R.out]
          clear R
          as_aux_lemma =>
          go_enter Tryz.func171, Tryz.ntmps171
          go_wp2_with fail
          refine (small_any _ _ zp).mono ?_; rintro e w1 ⟨rfl, rfl⟩; rw [s1.out]
          go_wp2_with fail
          refine (small_any _ _ zm).mono ?_; rintro e w2 ⟨rfl, rfl⟩; rw [s2.out]
          go_wp2_with fail
          go_ret
          exact ⟨rfl, below_new (Below.refl _ _) _⟩
        · rcases hid_or (greatB t.name.data.toList) with g1 | g1
          · skip
            have R : Hid (openOk t = false) := Lib.hid (by
              unfold openOk
              simp [g1.out])
            rw [R.out]
            clear R
            as_aux_lemma =>
            go_enter Tryz.func171, Tryz.ntmps171
            go_wp2_with fail
            refine (small_any _ _ zp).mono ?_; rintro e w1 ⟨rfl, rfl⟩; rw [s1.out]
            go_wp2_with fail
            refine (small_any _ _ zm).mono ?_; rintro e w2 ⟨rfl, rfl⟩; rw [s2.out]
            go_wp2_with fail
            refine (great_any _ _ za).mono ?_; rintro e w3 ⟨rfl, rfl⟩; rw [g1.out]
            go_wp2_with fail
            go_ret
            exact ⟨rfl, below_new (Below.refl _ _) _⟩
          · skip
            have R : Hid (openOk t = true) := Lib.hid (by
              unfold openOk
              simp [s1.out, l1, l2, s2.out, g1.out])
            rw [R.out]
            clear R
            as_aux_lemma =>
            go_enter Tryz.func171, Tryz.ntmps171
            go_wp2_with fail
            refine (small_any _ _ zp).mono ?_; rintro e w1 ⟨rfl, rfl⟩; rw [s1.out]
            go_wp2_with fail
            refine (small_any _ _ zm).mono ?_; rintro e w2 ⟨rfl, rfl⟩; rw [s2.out]
            go_wp2_with fail
            refine (great_any _ _ za).mono ?_; rintro e w3 ⟨rfl, rfl⟩; rw [g1.out]
            go_wp2_with fail
            go_ret
            exact ⟨rfl, below_new (Below.refl _ _) _⟩
      · skip
        have R : Hid (openOk t = false) := Lib.hid (by
          unfold openOk
          simp [l2])
        rw [R.out]
        clear R
        as_aux_lemma =>
        go_enter Tryz.func171, Tryz.ntmps171
        go_wp2_with fail
        refine (small_any _ _ zp).mono ?_; rintro e w1 ⟨rfl, rfl⟩; rw [s1.out]
        go_wp2_with fail
        go_ret
        exact ⟨rfl, below_new (Below.refl _ _) _⟩
    · skip
      have R : Hid (openOk t = false) := Lib.hid (by
        unfold openOk
        simp [l1])
      rw [R.out]
      clear R
      as_aux_lemma =>
      go_enter Tryz.func171, Tryz.ntmps171
      go_wp2_with fail
      refine (small_any _ _ zp).mono ?_; rintro e w1 ⟨rfl, rfl⟩; rw [s1.out]
      go_wp2_with fail
      go_ret
      exact ⟨rfl, below_new (Below.refl _ _) _⟩

set_option maxRecDepth 100000 in
set_option maxHeartbeats 4000000 in
theorem rising_small (A : Option Addr) (c n : Nat) (names : List ByteArray) (w : World) (hn : names.length = n) (hz : n ≤ 9223372036854775807) (hN : NamesAt w A names) :
    Calls Tryz.prog 169 #[.slice A n c, .func (.func 77) #[] #[]] w fun e w' => e = .returned (.bool (risingB smallB names)) ∧ w = w' := by
  have HN := Lib.hid hN
  have HQ := Lib.hid hn
  clear hN hn
  go_enter Tryz.func169, Tryz.ntmps169
  go_wp2_with fail
  go_loop [9] (fun i => ∃ k : Nat, k ≤ n ∧ i = .int .i64 k ∧ Hid (∀ j, j < k → badFor smallB names j = false)) (fun i => n - (intOf i).toNat)
  case atStart => exact ⟨0, by omega, rfl, Lib.hid (fun j h => by omega)⟩
  case round =>
    obtain ⟨k, hk, rfl, HP⟩ := hrel
    by_cases hlt : k < n
    · obtain ⟨s, hs⟩ : ∃ s, names[k]? = some s := ⟨_, List.getElem?_eq_getElem (by rw [HQ.out]; exact hlt)⟩
      obtain ⟨g, o, rfl, hgo, hcs, hzs⟩ := HN.out k s hs
      have hna := nameAt_of0 hs
      rcases hid_or (smallB s.data.toList) with h1 | h1
      · have R : Hid (risingB smallB names = false) := Lib.hid (rising_no (i := k) (by rw [HQ.out]; exact hlt) (by unfold badFor; rw [hna, h1.out]; rfl))
        clear hna hs
        go_wp2_with fail
        refine (small_any _ _ hzs).mono ?_; rintro e w1 ⟨rfl, rfl⟩; rw [h1.out]
        go_wp2_with fail
        go_ret
        exact ⟨ret_bool R.out, rfl⟩
      · rcases Nat.eq_zero_or_pos k with hk0 | hk0
        · have hp : ¬ (0 : Int) < k := by omega
          have hb : Hid (badFor smallB names k = false) := Lib.hid (by unfold badFor; rw [hna, h1.out, show decide (0 < k) = false by simp; omega]; rfl)
          clear hna hs hk0
          go_wp2_with fail
          refine (small_any _ _ hzs).mono ?_; rintro e w1 ⟨rfl, rfl⟩; rw [h1.out]
          go_wp2_with fail
          go_round
          case rel => exact ⟨k + 1, by omega, by go_num, Lib.hid (fun j hj => by
            rcases Nat.lt_or_ge j k with a | a
            · exact HP.out j a
            · rw [show j = k by omega]; exact hb.out)⟩
          case measure => simp [intOf]; omega
        · obtain ⟨p, hps⟩ : ∃ p, names[k - 1]? = some p := ⟨_, List.getElem?_eq_getElem (by rw [HQ.out]; omega)⟩
          obtain ⟨g2, o2, eg, hg2, hc2, -⟩ := HN.out (k - 1) p hps
          obtain ⟨rfl, rfl⟩ : g = g2 ∧ o = o2 := by simpa using eg
          have hna2 := nameAt_of0 hps
          have hp : (0 : Int) < k := by omega
          have hp1 : 1 ≤ (k : Int) := by omega
          rcases hid_or (!Op.bytesLess p.toList s.toList) with hL | hL
          · have hl := hL.out
            have hb : Hid (badFor smallB names k = false) := Lib.hid (by unfold badFor; rw [hna, hna2, h1.out, leS_eq, hl]; simp)
            clear hna hna2 eg hg2 hps hk0 hs
            go_wp2_with fail
            refine (small_any _ _ hzs).mono ?_; rintro e w1 ⟨rfl, rfl⟩; rw [h1.out]
            go_wp2_with fail
            go_round
            case rel => exact ⟨k + 1, by omega, by go_num, Lib.hid (fun j hj => by
              rcases Nat.lt_or_ge j k with a | a
              · exact HP.out j a
              · rw [show j = k by omega]; exact hb.out)⟩
            case measure => simp [intOf]; omega
          · have hl := hL.out
            have R : Hid (risingB smallB names = false) := Lib.hid (rising_no (i := k) (by rw [HQ.out]; exact hlt) (by unfold badFor; rw [hna, hna2, h1.out, leS_eq, hl, show decide (0 < k) = true by simp; omega]; rfl))
            clear hna hna2 eg hg2 hps hk0 hs
            go_wp2_with fail
            refine (small_any _ _ hzs).mono ?_; rintro e w1 ⟨rfl, rfl⟩; rw [h1.out]
            go_wp2_with fail
            go_ret
            exact ⟨ret_bool R.out, rfl⟩
    · have R : Hid (risingB smallB names = true) := Lib.hid ((rising_iff _ _).2 (fun i hi => HP.out i (by rw [HQ.out] at hi; omega)))
      go_wp2_with fail
      go_ret
      exact ⟨ret_bool R.out, rfl⟩

set_option maxRecDepth 100000 in
set_option maxHeartbeats 4000000 in
theorem rising_great (A : Option Addr) (c n : Nat) (names : List ByteArray) (w : World) (hn : names.length = n) (hz : n ≤ 9223372036854775807) (hN : NamesAt w A names) :
    Calls Tryz.prog 169 #[.slice A n c, .func (.func 124) #[] #[]] w fun e w' => e = .returned (.bool (risingB greatB names)) ∧ w = w' := by
  have HN := Lib.hid hN
  have HQ := Lib.hid hn
  clear hN hn
  go_enter Tryz.func169, Tryz.ntmps169
  go_wp2_with fail
  go_loop [9] (fun i => ∃ k : Nat, k ≤ n ∧ i = .int .i64 k ∧ Hid (∀ j, j < k → badFor greatB names j = false)) (fun i => n - (intOf i).toNat)
  case atStart => exact ⟨0, by omega, rfl, Lib.hid (fun j h => by omega)⟩
  case round =>
    obtain ⟨k, hk, rfl, HP⟩ := hrel
    by_cases hlt : k < n
    · obtain ⟨s, hs⟩ : ∃ s, names[k]? = some s := ⟨_, List.getElem?_eq_getElem (by rw [HQ.out]; exact hlt)⟩
      obtain ⟨g, o, rfl, hgo, hcs, hzs⟩ := HN.out k s hs
      have hna := nameAt_of0 hs
      rcases hid_or (greatB s.data.toList) with h1 | h1
      · have R : Hid (risingB greatB names = false) := Lib.hid (rising_no (i := k) (by rw [HQ.out]; exact hlt) (by unfold badFor; rw [hna, h1.out]; rfl))
        clear hna hs
        go_wp2_with fail
        refine (great_any _ _ hzs).mono ?_; rintro e w1 ⟨rfl, rfl⟩; rw [h1.out]
        go_wp2_with fail
        go_ret
        exact ⟨ret_bool R.out, rfl⟩
      · rcases Nat.eq_zero_or_pos k with hk0 | hk0
        · have hp : ¬ (0 : Int) < k := by omega
          have hb : Hid (badFor greatB names k = false) := Lib.hid (by unfold badFor; rw [hna, h1.out, show decide (0 < k) = false by simp; omega]; rfl)
          clear hna hs hk0
          go_wp2_with fail
          refine (great_any _ _ hzs).mono ?_; rintro e w1 ⟨rfl, rfl⟩; rw [h1.out]
          go_wp2_with fail
          go_round
          case rel => exact ⟨k + 1, by omega, by go_num, Lib.hid (fun j hj => by
            rcases Nat.lt_or_ge j k with a | a
            · exact HP.out j a
            · rw [show j = k by omega]; exact hb.out)⟩
          case measure => simp [intOf]; omega
        · obtain ⟨p, hps⟩ : ∃ p, names[k - 1]? = some p := ⟨_, List.getElem?_eq_getElem (by rw [HQ.out]; omega)⟩
          obtain ⟨g2, o2, eg, hg2, hc2, -⟩ := HN.out (k - 1) p hps
          obtain ⟨rfl, rfl⟩ : g = g2 ∧ o = o2 := by simpa using eg
          have hna2 := nameAt_of0 hps
          have hp : (0 : Int) < k := by omega
          have hp1 : 1 ≤ (k : Int) := by omega
          rcases hid_or (!Op.bytesLess p.toList s.toList) with hL | hL
          · have hl := hL.out
            have hb : Hid (badFor greatB names k = false) := Lib.hid (by unfold badFor; rw [hna, hna2, h1.out, leS_eq, hl]; simp)
            clear hna hna2 eg hg2 hps hk0 hs
            go_wp2_with fail
            refine (great_any _ _ hzs).mono ?_; rintro e w1 ⟨rfl, rfl⟩; rw [h1.out]
            go_wp2_with fail
            go_round
            case rel => exact ⟨k + 1, by omega, by go_num, Lib.hid (fun j hj => by
              rcases Nat.lt_or_ge j k with a | a
              · exact HP.out j a
              · rw [show j = k by omega]; exact hb.out)⟩
            case measure => simp [intOf]; omega
          · have hl := hL.out
            have R : Hid (risingB greatB names = false) := Lib.hid (rising_no (i := k) (by rw [HQ.out]; exact hlt) (by unfold badFor; rw [hna, hna2, h1.out, leS_eq, hl, show decide (0 < k) = true by simp; omega]; rfl))
            clear hna hna2 eg hg2 hps hk0 hs
            go_wp2_with fail
            refine (great_any _ _ hzs).mono ?_; rintro e w1 ⟨rfl, rfl⟩; rw [h1.out]
            go_wp2_with fail
            go_ret
            exact ⟨ret_bool R.out, rfl⟩
    · have R : Hid (risingB greatB names = true) := Lib.hid ((rising_iff _ _).2 (fun i hi => HP.out i (by rw [HQ.out] at hi; omega)))
      go_wp2_with fail
      go_ret
      exact ⟨ret_bool R.out, rfl⟩

end Go.Proofs.YtapjhmfbmkckaaaGreatDoor

/- Plain mathematics for layer 6: the text of a type that may be is read, token by token, as that type. -/
namespace Go.Proofs.YtapjhmfbmkckaaaGreatDoor.M
open Go

/-- These tokens stand there. -/
def Stands (S : Toks) (i : Nat) (tk : List Tk) : Prop := ∀ j p, tk[j]? = some p → i + j < S.n ∧ S.K (i + j) = (p.1 : Int) ∧ (S.T (i + j)).data.toList = p.2
theorem Stands.head {S : Toks} {i : Nat} {p : Tk} {tk : List Tk} (h : Stands S i (p :: tk)) : i < S.n ∧ S.K i = (p.1 : Int) ∧ (S.T i).data.toList = p.2 := by
  have := h 0 p rfl
  simpa using this
theorem Stands.tail {S : Toks} {i : Nat} {p : Tk} {tk : List Tk} (h : Stands S i (p :: tk)) : Stands S (i + 1) tk := fun j q hq => by
  have := h (j + 1) q (by simpa using hq)
  rwa [show i + (j + 1) = i + 1 + j by omega] at this
theorem Stands.left {S : Toks} {i : Nat} {a b : List Tk} (h : Stands S i (a ++ b)) : Stands S i a := fun j q hq => by
  exact h j q (by rw [List.getElem?_append_left (List.getElem?_eq_some_iff.1 hq).1]; exact hq)
theorem Stands.right {S : Toks} {i : Nat} {a b : List Tk} (h : Stands S i (a ++ b)) : Stands S (i + a.length) b := fun j q hq => by
  have := h (a.length + j) q (by rw [List.getElem?_append_right (by omega), show a.length + j - a.length = j by omega]; exact hq)
  rwa [show i + (a.length + j) = i + a.length + j by omega] at this
theorem sign_of {S : Toks} {i : Nat} {l : List UInt8} (h : i < S.n ∧ S.K i = ((4 : Nat) : Int) ∧ (S.T i).data.toList = l) : S.sign i l = true := by
  unfold Toks.sign; simp [h.1, h.2.1, h.2.2]
theorem sign_not {S : Toks} {i : Nat} {l m : List UInt8} (h : (S.T i).data.toList = m) (hne : m ≠ l) : S.sign i l = false := by
  unfold Toks.sign; rw [h, show (m == l) = false by simpa using hne]; simp
theorem sign_kind {S : Toks} {i : Nat} {l : List UInt8} (h : S.K i ≠ 4) : S.sign i l = false := by
  unfold Toks.sign; rw [show (S.K i == 4) = false by simpa using h]; simp
theorem small_of {S : Toks} {i : Nat} {l : List UInt8} (h : i < S.n ∧ S.K i = ((1 : Nat) : Int) ∧ (S.T i).data.toList = l) (hs : smallB l = true) : S.small i = true := by
  unfold Toks.small; rw [h.2.2, hs]; simp [h.1, h.2.1]
theorem great_of {S : Toks} {i : Nat} {l : List UInt8} (h : i < S.n ∧ S.K i = ((2 : Nat) : Int) ∧ (S.T i).data.toList = l) (hs : greatB l = true) : S.great i = true := by
  unfold Toks.great; rw [h.2.2, hs]; simp [h.1, h.2.1]
theorem begins_small {S : Toks} {i : Nat} (h : S.small i = true) : S.begins i = true := by
  unfold Toks.begins; rw [h]; simp [small_lt h]
theorem begins_great {S : Toks} {i : Nat} (h : S.great i = true) : S.begins i = true := by
  unfold Toks.begins; rw [h]; simp [great_lt h]
theorem begins_sign {S : Toks} {i : Nat} {l : List UInt8} (h : i < S.n ∧ S.K i = ((4 : Nat) : Int) ∧ (S.T i).data.toList = l) (hl : l = [123] ∨ l = [91] ∨ l = [40] ∨ l = [60]) : S.begins i = true := by
  unfold Toks.begins
  rw [h.2.2, h.2.1]
  rcases hl with rfl | rfl | rfl | rfl <;> simp [h.1]
theorem begins_base {S : Toks} {i : Nat} {l : List UInt8} (h : i < S.n ∧ S.K i = ((2 : Nat) : Int) ∧ (S.T i).data.toList = l) (hl : 0 < baseT l) : S.begins i = true := by
  unfold Toks.begins
  rw [h.2.2, h.2.1]
  simp [h.1, hl]
theorem base_great {l : List UInt8} (h : greatB l = true) : baseT l = 0 := by
  have hw := great_not_word h
  have h1 : l ≠ [73, 110, 116] := fun e => hw (by rw [e]; decide)
  have h2 : l ≠ [84, 101, 120, 116] := fun e => hw (by rw [e]; decide)
  have h3 : l ≠ [66, 111, 111, 108] := fun e => hw (by rw [e]; decide)
  have h4 : l ≠ [76, 105, 115, 116] := fun e => hw (by rw [e]; decide)
  unfold baseT
  rw [if_neg h1, if_neg h2, if_neg h3, if_neg h4]

theorem deep_pos (t : Ty) : 1 ≤ deep t := by cases t; simp [deep]
theorem deepL_le {t : Ty} : ∀ {l : List Ty}, t ∈ l → deep t ≤ deepL l
  | [], h => by cases h
  | a :: r, h => by
    rcases List.mem_cons.1 h with rfl | h
    · unfold deepL; omega
    · have := deepL_le h; unfold deepL; omega
theorem deepL_append : ∀ (a b : List Ty), deepL (a ++ b) = max (deepL a) (deepL b)
  | [], b => by simp [deepL]
  | t :: r, b => by simp only [List.cons_append, deepL, deepL_append r b]; omega

/-- A type's tokens: its text has them, they are read as it. -/
structure Shows (t : Ty) (tk : List Tk) : Prop where
  head : ∃ p r, tk = p :: r ∧ p.2 ≠ [41]
  lex : ∀ r ts, Halt r → Lexes r ts → Lexes (textT t ++ r) (tk ++ ts)
  read : ∀ (S : Toks) (f d i c : Nat), Stands S i tk → d + deep t ≤ 33 → c + many t ≤ 500 → 2 * (S.n - i) + 1 ≤ f → pT S f d i c = .ok t (i + tk.length) (c + many t)

/-- Is it a name of a field, of a case? -/
def nmOk (k : Int) (s : ByteArray) : Bool := if k = 5 then smallB s.data.toList else greatB s.data.toList
def nmTk (k : Int) (s : ByteArray) : Tk := (if k = 5 then 1 else 2, s.data.toList)
theorem name_of {S : Toks} {k : Int} {i : Nat} {s : ByteArray} (h : i < S.n ∧ S.K i = ((nmTk k s).1 : Int) ∧ (S.T i).data.toList = (nmTk k s).2) (hk : nmOk k s = true) : S.nameOk k i = true := by
  unfold Toks.nameOk
  unfold nmTk at h
  unfold nmOk at hk
  by_cases e : k = 5
  · rw [if_pos e] at hk ⊢
    rw [if_pos e] at h
    exact small_of h hk
  · rw [if_neg e] at hk ⊢
    rw [if_neg e] at h
    exact great_of h hk
theorem lex_name {k : Int} {s : ByteArray} {r : List UInt8} {ts : List Tk} (h : nmOk k s = true) (hr : Halt r) (hl : Lexes r ts) : Lexes (s.data.toList ++ r) (nmTk k s :: ts) := by
  unfold nmTk
  unfold nmOk at h
  by_cases e : k = 5
  · rw [if_pos e] at h ⊢; exact lex_small h hr hl
  · rw [if_neg e] at h ⊢; exact lex_great h hr hl
theorem nmTk_sign (k : Int) (s : ByteArray) : (((nmTk k s).1 : Nat) : Int) ≠ 4 := by
  unfold nmTk
  by_cases e : k = 5
  · rw [if_pos e]; simp
  · rw [if_neg e]; simp
theorem twice_not {P Q : List FdT} {p : FdT} (h : ((P ++ p :: Q).map (·.1)).Nodup) : twice p.1 (insN P) = false := by
  rw [twice_ins, List.any_eq_false]
  intro x hx e
  have e' : x.1 = p.1 := bytes_list.1 (by simpa using e)
  rw [List.map_append, List.map_cons, List.nodup_append] at h
  exact h.2.2 x.1 (List.mem_map_of_mem hx) p.1 (by simp) e'

set_option maxRecDepth 4000 in
theorem parts_show (k : Int) (z : UInt8) (hz : z = 125 ∨ z = 93) : ∀ (Q : List FdT), Q ≠ [] → (∀ p ∈ Q, nmOk k p.1 = true ∧ ∃ tk, Shows p.2 tk) →
    ∃ tk p0 tl, tk = nmTk k p0 :: tl ∧ (∀ r ts, Lexes r ts → Lexes (joinC (Q.map (partT true)) ++ z :: r) (tk ++ ts)) ∧
      ∀ (S : Toks) (f d i c : Nat) (P : List FdT), Stands S i tk → P.length + Q.length ≤ 20 → ((P ++ Q).map (·.1)).Nodup → d + 1 + deepL (Q.map (·.2)) ≤ 33 → c + manyL (Q.map (·.2)) ≤ 500 → 2 * (S.n - i) + 2 ≤ f →
        pParts S k [z] f d i c (insN P) (insS P) = .ok (.mk k ⟨#[]⟩ 0 ⟨#[]⟩ ⟨#[]⟩ (insN (P ++ Q)) (insS (P ++ Q))) (i + tk.length) (c + manyL (Q.map (·.2)))
  | [], h, _ => absurd rfl h
  | [p], _, h => by
    obtain ⟨hn, tk, hs⟩ := h p (by simp)
    refine ⟨nmTk k p.1 :: (4, [58]) :: (tk ++ [(4, [z])]), p.1, _, rfl, fun r ts hl => ?_, fun S f d i c P hS h20 hd hdeep hmany hf => ?_⟩
    · have l1 := hs.lex (z :: r) ((4, [z]) :: ts) (halt_cons (by rcases hz with rfl | rfl <;> decide)) (lex_sign (by rcases hz with rfl | rfl <;> simp) hl)
      have l2 := lex_name hn (halt_cons (by decide)) (lex_sign (c := 58) (by simp) (lex_space l1))
      simpa [joinC, tlC, partT] using l2
    · simp only [List.length_cons, List.length_nil] at h20
      simp only [List.map_cons, List.map_nil, deepL, manyL] at hdeep hmany
      have s0 := hS.head
      have s1 := hS.tail.head
      have sT := hS.tail.tail.left
      have sZ := (hS.tail.tail.right (a := tk)).head
      have eT : S.T i = p.1 := bytes_list.1 s0.2.2
      obtain ⟨f, rfl⟩ : ∃ g, f = g + 1 := ⟨f - 1, by omega⟩
      have hr := hs.read S f (d + 1) (i + 1 + 1) c sT (by omega) (by omega) (by omega)
      unfold pParts
      rw [if_neg (by rw [name_of s0 hn]; decide), if_neg (by rw [insN_len]; omega), eT, if_neg (by rw [twice_not hd]; decide), if_neg (by rw [sign_of s1]; decide), hr]
      dsimp only
      rw [if_pos (sign_of sZ), ← insN_snoc P p, ← insS_snoc P p]
      simp only [List.map_cons, List.map_nil, manyL, List.length_cons, List.length_append, List.length_nil, Res.ok.injEq, true_and]
      omega
  | p :: q :: Q, _, h => by
    obtain ⟨hn, tk, hs⟩ := h p (by simp)
    obtain ⟨tk', p0, tl', e', lex', read'⟩ := parts_show k z hz (q :: Q) (by simp) (fun x hx => h x (by simp [List.mem_cons.1 hx]))
    refine ⟨nmTk k p.1 :: (4, [58]) :: (tk ++ (4, [44]) :: tk'), p.1, _, rfl, fun r ts hl => ?_, fun S f d i c P hS h20 hd hdeep hmany hf => ?_⟩
    · have l0 := lex' r ts hl
      have l1 := hs.lex (44 :: 32 :: (joinC ((q :: Q).map (partT true)) ++ z :: r)) ((4, [44]) :: (tk' ++ ts)) (halt_cons (by decide)) (lex_sign (by simp) (lex_space l0))
      have l2 := lex_name hn (halt_cons (by decide)) (lex_sign (c := 58) (by simp) (lex_space l1))
      simpa [joinC, tlC, partT] using l2
    · simp only [List.length_cons] at h20
      rw [List.map_cons] at hdeep hmany
      simp only [deepL, manyL] at hdeep hmany
      have s0 := hS.head
      have s1 := hS.tail.head
      have sT := hS.tail.tail.left
      have sZ := (hS.tail.tail.right (a := tk)).head
      have sR := (hS.tail.tail.right (a := tk)).tail
      have eT : S.T i = p.1 := bytes_list.1 s0.2.2
      obtain ⟨f, rfl⟩ : ∃ g, f = g + 1 := ⟨f - 1, by omega⟩
      have hr := hs.read S f (d + 1) (i + 1 + 1) c sT (by omega) (by omega) (by omega)
      have hlt := sZ.1
      have hq := read' S f d (i + 1 + 1 + tk.length + 1) (c + many p.2) (P ++ [p]) sR (by simp; omega) (by simpa using hd) (by omega) (by omega) (by omega)
      unfold pParts
      rw [if_neg (by rw [name_of s0 hn]; decide), if_neg (by rw [insN_len]; omega), eT, if_neg (by rw [twice_not hd]; decide), if_neg (by rw [sign_of s1]; decide), hr]
      dsimp only
      rw [if_neg (by rw [sign_not sZ.2.2 (by rcases hz with rfl | rfl <;> decide)]; decide), if_neg (by rw [sign_of sZ]; decide), ← insN_snoc P p, ← insS_snoc P p, hq]
      simp only [List.append_assoc, List.cons_append, List.nil_append, List.map_cons, manyL, List.length_cons, List.length_append, Res.ok.injEq, true_and]
      omega

theorem end_lex {r : Ty} {tk : List Tk} (hs : Shows r tk) {x : List UInt8} {ts : List Tk} (hx : Halt x) (hl : Lexes x ts) : Lexes (41 :: 32 :: 45 :: 62 :: 32 :: (textT r ++ x)) ((4, [41]) :: (4, [45, 62]) :: (tk ++ ts)) :=
  lex_sign (by simp) (lex_space (lex_arrow (lex_space (hs.lex x ts hx hl))))
theorem end_read {r : Ty} {tk : List Tk} (hs : Shows r tk) {S : Toks} {f d i c : Nat} {ss : List Ty} (hS : Stands S i ((4, [45, 62]) :: tk)) (h20 : ss.length < 20) (hd : d + 1 + deep r ≤ 33) (hm : c + many r ≤ 500) (hf : 2 * (S.n - i) + 2 ≤ f) :
    pEnd S f d i c ss = .ok (.mk 7 ⟨#[]⟩ 0 ⟨#[]⟩ ⟨#[]⟩ [] (ss ++ [r])) (i + (tk.length + 1)) (c + many r) := by
  have s0 := hS.head
  obtain ⟨f, rfl⟩ : ∃ g, f = g + 1 := ⟨f - 1, by omega⟩
  have hr := hs.read S f (d + 1) (i + 1) c hS.tail (by omega) (by omega) (by omega)
  unfold pEnd
  rw [if_neg (by rw [sign_of s0]; decide), if_neg (by omega), hr]
  simp only [Res.ok.injEq, true_and, and_true]
  omega

theorem subs_show {r : Ty} {tkr : List Tk} (hr : Shows r tkr) : ∀ (L : List Ty), L ≠ [] → (∀ t ∈ L, ∃ tk, Shows t tk) →
    ∃ tk p tl, tk = p :: tl ∧ p.2 ≠ [41] ∧ (∀ x ts, Halt x → Lexes x ts → Lexes (joinC (L.map textT) ++ 41 :: 32 :: 45 :: 62 :: 32 :: (textT r ++ x)) (tk ++ ts)) ∧
      ∀ (S : Toks) (f d i c : Nat) (ss : List Ty), Stands S i tk → ss.length + L.length < 20 → d + 1 + max (deepL L) (deep r) ≤ 33 → c + manyL L + many r ≤ 500 → 2 * (S.n - i) + 2 ≤ f →
        pSubs S f d i c ss = .ok (.mk 7 ⟨#[]⟩ 0 ⟨#[]⟩ ⟨#[]⟩ [] (ss ++ L ++ [r])) (i + tk.length) (c + manyL L + many r)
  | [], h, _ => absurd rfl h
  | [t], _, h => by
    obtain ⟨tk, hs⟩ := h t (by simp)
    obtain ⟨p, tl, e, hp⟩ := hs.head
    refine ⟨tk ++ (4, [41]) :: (4, [45, 62]) :: tkr, p, _, by rw [e]; rfl, hp, fun x ts hx hl => ?_, fun S f d i c ss hS h20 hdeep hmany hf => ?_⟩
    · have l1 := hs.lex _ _ (halt_cons (by decide)) (end_lex hr hx hl)
      simpa [joinC, tlC] using l1
    · simp only [List.length_cons, List.length_nil] at h20
      simp only [deepL, manyL] at hdeep hmany
      have sZ := hS.right.head
      have sR := hS.right.tail
      have hlt := sZ.1
      obtain ⟨f, rfl⟩ : ∃ g, f = g + 1 := ⟨f - 1, by omega⟩
      have hd := hs.read S f (d + 1) i c hS.left (by omega) (by omega) (by omega)
      have he := end_read hr (ss := ss ++ [t]) (f := f) (d := d) (c := c + many t) sR (by simp; omega) (by omega) (by omega) (by omega)
      unfold pSubs
      rw [if_neg (by omega), hd]
      dsimp only
      rw [if_pos (sign_of sZ), he]
      simp only [manyL, List.length_cons, List.length_append, Res.ok.injEq, true_and]
      omega
  | t :: u :: L, _, h => by
    obtain ⟨tk, hs⟩ := h t (by simp)
    obtain ⟨p, tl, e, hp⟩ := hs.head
    obtain ⟨tk', -, -, -, -, lex', read'⟩ := subs_show hr (u :: L) (by simp) (fun x hx => h x (by simp [List.mem_cons.1 hx]))
    refine ⟨tk ++ (4, [44]) :: tk', p, _, by rw [e]; rfl, hp, fun x ts hx hl => ?_, fun S f d i c ss hS h20 hdeep hmany hf => ?_⟩
    · have l0 := lex' x ts hx hl
      have l1 := hs.lex _ _ (halt_cons (by decide)) (lex_sign (c := 44) (by simp) (lex_space l0))
      simpa [joinC, tlC] using l1
    · simp only [List.length_cons] at h20
      rw [manyL] at hmany
      rw [deepL] at hdeep
      have sZ := hS.right.head
      have sR := hS.right.tail
      have hlt := sZ.1
      obtain ⟨f, rfl⟩ : ∃ g, f = g + 1 := ⟨f - 1, by omega⟩
      have hd := hs.read S f (d + 1) i c hS.left (by omega) (by omega) (by omega)
      have hq := read' S f d (i + tk.length + 1) (c + many t) (ss ++ [t]) sR (by simp; omega) (by omega) (by omega) (by omega)
      unfold pSubs
      rw [if_neg (by omega), hd]
      dsimp only
      rw [if_neg (by rw [sign_not sZ.2.2 (by decide)]; decide), if_neg (by rw [sign_of sZ]; decide), hq]
      rw [show manyL (t :: u :: L) = many t + manyL (u :: L) from rfl]
      simp only [List.append_assoc, List.cons_append, List.nil_append, List.length_cons, List.length_append, Res.ok.injEq, true_and]
      omega

/-- Names that rise. -/
theorem own_rise {t : Ty} (h : ownOk t = true) : ∀ i, i + 1 < t.names.length → Op.bytesLess (nameAt t.names i).toList (nameAt t.names (i + 1)).toList = true := by
  intro i hi
  unfold ownOk at h
  simp only [Bool.and_eq_true] at h
  have hb := (namesOk_iff _ _).1 h.1.2 (i + 1) hi
  unfold badName at hb
  simp only [Bool.or_eq_false_iff] at hb
  have h3 := hb.2
  rw [leS_eq] at h3
  simpa using h3
theorem rise_lt {ns : List ByteArray} (h : ∀ i, i + 1 < ns.length → Op.bytesLess (nameAt ns i).toList (nameAt ns (i + 1)).toList = true) : ∀ (k i : Nat), i + k + 1 < ns.length → Op.bytesLess (nameAt ns i).toList (nameAt ns (i + k + 1)).toList = true
  | 0, i, hj => h i hj
  | k + 1, i, hj => bl_trans _ _ _ (rise_lt h k i (by omega)) (h (i + k + 1) (by omega))
theorem nameAt_get {ns : List ByteArray} {i : Nat} (h : i < ns.length) : nameAt ns i = ns[i] := by
  unfold nameAt; rw [List.getD_eq_getElem?_getD, List.getElem?_eq_getElem h]; rfl
theorem rise_pair {ns : List ByteArray} (h : ∀ i, i + 1 < ns.length → Op.bytesLess (nameAt ns i).toList (nameAt ns (i + 1)).toList = true) : ns.Pairwise fun x y => Op.bytesLess x.toList y.toList = true := by
  rw [List.pairwise_iff_getElem]
  intro i j hi hj hij
  have := rise_lt h (j - i - 1) i (by omega)
  rw [show i + (j - i - 1) + 1 = j by omega, nameAt_get hi, nameAt_get hj] at this
  exact this
theorem pair_nodup {ns : List ByteArray} (h : ns.Pairwise fun x y => Op.bytesLess x.toList y.toList = true) : ns.Nodup :=
  h.imp fun {x y} hxy e => by rw [e, bl_irrefl] at hxy; cases hxy
theorem zip_sorted {ns : List ByteArray} {ss : List Ty} (hl : ss.length = ns.length) (h : ns.Pairwise fun x y => Op.bytesLess x.toList y.toList = true) : insN (ns.zip ss) = ns ∧ insS (ns.zip ss) = ss := by
  have e1 : (ns.zip ss).map (·.1) = ns := List.map_fst_zip (by omega)
  have e2 : (ns.zip ss).map (·.2) = ss := List.map_snd_zip (by omega)
  have hs : (ns.zip ss).Pairwise leF := by
    have h' : ((ns.zip ss).map (·.1)).Pairwise fun x y => Op.bytesLess x.toList y.toList = true := by rw [e1]; exact h
    rw [List.pairwise_map] at h'
    refine h'.imp fun {x y} hxy => ?_
    show Op.bytesLess y.1.toList x.1.toList = false
    cases hb : Op.bytesLess y.1.toList x.1.toList with
    | false => rfl
    | true =>
      have := bl_trans _ _ _ hxy hb
      rw [bl_irrefl] at this; cases this
  obtain ⟨a, b⟩ := ins_sorted (List.Perm.refl (ns.zip ss)) hs (by rw [e1]; exact pair_nodup h)
  exact ⟨by rw [← a, e1], by rw [← b, e2]⟩
theorem zip_names {k : Int} {ns : List ByteArray} {ss : List Ty} (hn : ∀ i, i < ns.length → nmOk k (nameAt ns i) = true) : ∀ p ∈ ns.zip ss, nmOk k p.1 = true := by
  intro p hp
  obtain ⟨i, hi⟩ := List.getElem?_of_mem (List.of_mem_zip hp).1
  have hl := (List.getElem?_eq_some_iff.1 hi).1
  have := hn i hl
  rw [nameAt_get hl, (List.getElem?_eq_some_iff.1 hi).2] at this
  exact this

/-- A record, a variant, of names and types. -/
theorem fields_show (k : Int) (a z : UInt8) (haz : (k = 5 ∧ a = 123 ∧ z = 125) ∨ (k = 6 ∧ a = 91 ∧ z = 93)) {ns : List ByteArray} {ss : List Ty} (h20 : ss.length ≤ 20) (hl : ss.length = ns.length) (hne : ns ≠ []) (hn : ∀ i, i < ns.length → nmOk k (nameAt ns i) = true)
    (hrise : ns.Pairwise fun x y => Op.bytesLess x.toList y.toList = true) (hs : ∀ t ∈ ss, ∃ tk, Shows t tk) (htext : textT (.mk k ⟨#[]⟩ 0 ⟨#[]⟩ ⟨#[]⟩ ns ss) = a :: (joinC ((ns.zip ss).map (partT true)) ++ [z])) :
    ∃ tk, Shows (.mk k ⟨#[]⟩ 0 ⟨#[]⟩ ⟨#[]⟩ ns ss) tk := by
  have hz : z = 125 ∨ z = 93 := by rcases haz with h | h <;> simp [h.2.2]
  have ha : a = 123 ∨ a = 91 := by rcases haz with h | h <;> simp [h.2.1]
  have hQ : ns.zip ss ≠ [] := fun e => by
    have h1 := congrArg List.length e
    rw [List.length_zip, List.length_nil] at h1
    have h2 := List.length_pos_iff.2 hne
    omega
  obtain ⟨tk, p0, tl, e, lex, read⟩ := parts_show k z hz (ns.zip ss) hQ (fun p hp => ⟨zip_names hn p hp, hs p.2 (List.of_mem_zip hp).2⟩)
  have e1 : (ns.zip ss).map (·.1) = ns := List.map_fst_zip (by omega)
  have e2 : (ns.zip ss).map (·.2) = ss := List.map_snd_zip (by omega)
  rw [e2] at read
  obtain ⟨z1, z2⟩ := zip_sorted hl hrise
  refine ⟨(4, [a]) :: tk, ⟨(4, [a]), tk, rfl, by rcases ha with rfl | rfl <;> decide⟩, fun r ts _ hx => ?_, fun S f d i c hS hd hm hf => ?_⟩
  · have l1 := lex_sign (c := a) (by rcases ha with rfl | rfl <;> simp) (lex r ts hx)
    rw [htext]
    simpa using l1
  · rw [deep] at hd
    rw [many] at hm
    have s0 := hS.head
    have sN := hS.tail
    rw [e] at sN
    obtain ⟨f, rfl⟩ : ∃ g, f = g + 1 := ⟨f - 1, by omega⟩
    have hlt := s0.1
    have hr := read S f d (i + 1) (c + 1) [] hS.tail (by rw [List.length_zip]; simp; omega) (by rw [List.nil_append, e1]; exact pair_nodup hrise) (by omega) (by omega) (by omega)
    rw [List.nil_append, z1, z2] at hr
    have hr' : pParts S k [z] f d (i + 1) (c + 1) [] [] = _ := hr
    unfold pT
    rw [if_neg (by rw [begins_sign s0 (by rcases ha with rfl | rfl <;> simp)]; decide), if_neg (by omega), if_neg (by rw [s0.2.1]; simp), if_neg (by rw [s0.2.1]; simp), s0.2.2]
    rcases haz with ⟨rfl, rfl, rfl⟩ | ⟨rfl, rfl, rfl⟩
    · rw [if_pos rfl, if_neg (by rw [sign_kind (by rw [sN.head.2.1]; exact nmTk_sign _ _)]; decide), hr', many]
      simp only [List.length_cons, Res.ok.injEq, true_and]
      omega
    · rw [if_neg (by decide), if_pos rfl, hr', many]
      simp only [List.length_cons, Res.ok.injEq, true_and]
      omega

theorem own_twenty {t : Ty} (h : ownOk t = true) : t.subs.length ≤ 20 := by
  unfold ownOk at h
  simp only [Bool.and_eq_true, decide_eq_true_eq] at h
  exact h.1.1
theorem own_major {p d n : ByteArray} {m : Int} (h : ownOk (.mk 9 p m d n [] []) = true) : m ≤ 999999999 := by
  unfold ownOk shapeOk at h
  simp only [Bool.and_eq_true, Ty.kind, Ty.major] at h
  have h2 := h.2
  rw [if_neg (by decide), if_neg (by decide), if_neg (by decide), if_neg (by decide), if_neg (by decide), if_neg (by decide), if_pos trivial] at h2
  simp only [Bool.and_eq_true, decide_eq_true_eq] at h2
  exact of_decide_eq_true h2.2
theorem dec_major {m : Int} (h1 : 1 ≤ m) (h2 : m ≤ 999999999) : majorOk (dec m).data.toList = true ∧ digs (dec m).data.toList 0 = m := by
  have e : (dec m).data.toList = Lib.decDigits m.toNat := by simp [dec]
  rw [e]
  have hd := nd_digs _ m.toNat (Nat.lt_succ_self _)
  refine ⟨(majorOk_iff _).2 ⟨List.length_pos_iff.2 (nd_ne _), nd_len 8 _ (by omega), fun j hj => ?_, nd_head _ m.toNat (Nat.lt_succ_self _) (by omega)⟩, by rw [hd]; omega⟩
  have hm := nd_mem _ m.toNat (Nat.lt_succ_self _) _ (List.getElem_mem hj)
  have eb : bt (Lib.decDigits m.toNat) j = ((Lib.decDigits m.toNat)[j].toNat : Int) := by unfold bt; rw [List.getD_eq_getElem?_getD, List.getElem?_eq_getElem hj]; rfl
  rw [eb]
  unfold digC
  simp only [Bool.and_eq_true, decide_eq_true_eq]
  omega
end Go.Proofs.YtapjhmfbmkckaaaGreatDoor.M
