/-
  Plain mathematics for layer 4: the texts of types.
-/
import Derived.Test.YtnnppdlhmcobcaaDoorTyN
import Derived.Test.YtnnppdlhmcobcaaDoorDig
namespace Go.Proofs.YtnnppdlhmcobcaaDoor.M

/-- The first k texts, commas between, each name ahead of its text, if there are names. -/
def rowOf (L : List (List UInt8)) (ns : List ByteArray) : Nat → List UInt8
  | 0 => []
  | k + 1 => (if 0 < k then rowOf L ns k ++ [44, 32] else rowOf L ns k) ++ (if 0 < ns.length then (nameAt ns k).data.toList ++ [58, 32] else []) ++ L.getD k []
def kindText (k : Int) (p : ByteArray) (m : Int) (d n : ByteArray) (ns : List ByteArray) (L : List (List UInt8)) : List UInt8 :=
  if k = 1 then [73, 110, 116]
  else if k = 2 then [84, 101, 120, 116]
  else if k = 3 then [66, 111, 111, 108]
  else if k = 4 then [76, 105, 115, 116, 40] ++ L.getD 0 [] ++ [41]
  else if k = 5 then [123] ++ rowOf L ns L.length ++ [125]
  else if k = 6 then [91] ++ rowOf L ns L.length ++ [93]
  else if k = 7 then [40] ++ rowOf L [] (L.length - 1) ++ [41, 32, 45, 62, 32] ++ L.getD (L.length - 1) []
  else if k = 9 then [60] ++ p.data.toList ++ [32] ++ (dec m).data.toList ++ [32] ++ d.data.toList ++ [32] ++ n.data.toList ++ [62]
  else if d.size = 0 then n.data.toList
  else d.data.toList ++ [46] ++ n.data.toList
-- a type's text, and those of a list of types
mutual
def textT : Ty → List UInt8
  | .mk k p m d n ns ss => kindText k p m d n ns (textsT ss)
def textsT : List Ty → List (List UInt8)
  | [] => []
  | t :: r => textT t :: textsT r
end
theorem textT_eq (t : Ty) : textT t = kindText t.kind t.pkg t.major t.mod t.name t.names (textsT t.subs) := by cases t; rfl
theorem textsT_len : ∀ l : List Ty, (textsT l).length = l.length
  | [] => rfl
  | t :: r => by simp [textsT, textsT_len r]
theorem textsT_at : ∀ (l : List Ty) (i : Nat) (t : Ty), l[i]? = some t → (textsT l).getD i [] = textT t
  | [], i, t, h => by simp at h
  | a :: r, 0, t, h => by simp at h; subst h; rfl
  | a :: r, i + 1, t, h => by
    have := textsT_at r i t (by simpa using h)
    simpa [textsT] using this

theorem spell_len {f g : Int → Bool} {s : ByteArray} (h : spell f g s.data.toList = true) : s.size ≤ 20 := by
  have := ((spell_iff _ _ _).1 h).2.1
  rwa [len_size] at this
theorem small_len {s : ByteArray} (h : smallB s.data.toList = true) : s.size ≤ 20 := by
  unfold smallB at h
  simp only [Bool.and_eq_true] at h
  exact spell_len h.1
theorem great_len {s : ByteArray} (h : greatB s.data.toList = true) : s.size ≤ 20 := by
  unfold greatB at h
  simp only [Bool.and_eq_true] at h
  exact spell_len h.1
/-- In a type whose own fields may be each name has at most twenty bytes. -/
theorem own_names {t : Ty} (h : ownOk t = true) (i : Nat) (hi : i < t.names.length) : (nameAt t.names i).size ≤ 20 := by
  unfold ownOk at h
  simp only [Bool.and_eq_true] at h
  obtain ⟨⟨-, hn⟩, hs⟩ := h
  have hb := (namesOk_iff _ _).1 hn i hi
  unfold badName at hb
  simp only [Bool.or_eq_false_iff, Bool.and_eq_false_iff, Bool.not_eq_false'] at hb
  obtain ⟨⟨h5, h6⟩, -⟩ := hb
  by_cases k5 : t.kind = 5
  · rcases h5 with h5 | h5
    · rw [k5] at h5; cases h5
    · exact small_len h5
  by_cases k6 : t.kind = 6
  · rcases h6 with h6 | h6
    · rw [k6] at h6; cases h6
    · exact great_len h6
  exfalso
  unfold shapeOk at hs
  simp only [k5, k6, if_false] at hs
  have h0 : t.names.length ≠ 0 := by omega
  (repeat' split at hs) <;> simp_all

/-- A row's length. -/
theorem row_len (l : List Ty) (ns : List ByteArray) (hl : ∀ s, s ∈ l → (textT s).length + 24 ≤ 124 * many s) (hn : ∀ i, i < ns.length → (nameAt ns i).size ≤ 20) :
    ∀ k, k ≤ l.length → (rowOf (textsT l) ns k).length ≤ 124 * manyL (l.take k) := by
  intro k
  induction k with
  | zero => intro _; simp [rowOf]
  | succ k ih =>
    intro hk
    have a := ih (by omega)
    obtain ⟨s, hs⟩ : ∃ s, l[k]? = some s := ⟨_, List.getElem?_eq_getElem (by omega)⟩
    have b := hl s (List.mem_of_getElem? hs)
    have c : (nameAt ns k).size ≤ 20 := by
      rcases Nat.lt_or_ge k ns.length with h | h
      · exact hn k h
      · unfold nameAt; rw [List.getD_eq_getElem?_getD, List.getElem?_eq_none h]; exact Nat.zero_le _
    have d := len_size (nameAt ns k)
    rw [manyL_take l k _ hs]
    unfold rowOf
    rw [textsT_at l k _ hs]
    split <;> split <;> simp only [List.length_append, List.length_cons, List.length_nil, d] <;> omega
theorem getD_len (l : List Ty) (k : Nat) (hk : k < l.length) (hl : ∀ s, s ∈ l → (textT s).length + 24 ≤ 124 * many s) : ((textsT l).getD k []).length + 24 + 124 * manyL (l.take k) ≤ 124 * manyL l := by
  obtain ⟨s, hs⟩ : ∃ s, l[k]? = some s := ⟨_, List.getElem?_eq_getElem hk⟩
  have b := hl s (List.mem_of_getElem? hs)
  have c := manyL_take l k _ hs
  have d := manyL_take_le l (k + 1)
  rw [textsT_at l k _ hs]
  omega
/-- What may be is of a short text. -/
theorem own_len (t : Ty) (ho : ownOk t = true) (hl : ∀ s, s ∈ t.subs → (textT s).length + 24 ≤ 124 * many s) : (textT t).length + 24 ≤ 124 * many t := by
  have hN := own_names ho
  have hm : many t = 1 + manyL t.subs := by cases t; rfl
  have hr := row_len t.subs t.names hl hN
  have hr0 := row_len t.subs [] hl (fun i hi => by simp at hi)
  have htk : manyL (t.subs.take t.subs.length) = manyL t.subs := by rw [List.take_of_length_le (Nat.le_refl _)]
  have hLl := textsT_len t.subs
  have hs : shapeOk t = true := by
    unfold ownOk at ho
    simp only [Bool.and_eq_true] at ho
    exact ho.2
  rw [textT_eq]
  unfold kindText
  rw [hLl]
  by_cases k1 : t.kind = 1
  · simp [k1]; omega
  by_cases k2 : t.kind = 2
  · simp [k2]; omega
  by_cases k3 : t.kind = 3
  · simp [k3]; omega
  rw [if_neg k1, if_neg k2, if_neg k3]
  unfold shapeOk at hs
  rw [if_neg (by omega)] at hs
  by_cases k4 : t.kind = 4
  · rw [if_pos k4] at hs ⊢
    simp only [Bool.and_eq_true, decide_eq_true_eq] at hs
    have := getD_len t.subs 0 (by omega) hl
    simp only [List.length_append, List.length_cons, List.length_nil]
    omega
  rw [if_neg k4] at hs ⊢
  by_cases k5 : t.kind = 5
  · rw [if_pos k5]
    have := hr t.subs.length (Nat.le_refl _)
    simp only [List.length_append, List.length_cons, List.length_nil]
    omega
  rw [if_neg k5] at hs ⊢
  by_cases k6 : t.kind = 6
  · rw [if_pos k6]
    have := hr t.subs.length (Nat.le_refl _)
    simp only [List.length_append, List.length_cons, List.length_nil]
    omega
  rw [if_neg k6] at hs ⊢
  by_cases k7 : t.kind = 7
  · rw [if_pos k7] at hs ⊢
    simp only [Bool.and_eq_true, decide_eq_true_eq] at hs
    have a := hr0 (t.subs.length - 1) (by omega)
    have b := getD_len t.subs (t.subs.length - 1) (by omega) hl
    simp only [List.length_append, List.length_cons, List.length_nil]
    omega
  rw [if_neg k7] at hs ⊢
  by_cases k8 : t.kind = 8
  · rw [if_pos k8] at hs
    simp only [Bool.and_eq_true, Bool.or_eq_true] at hs
    have a := great_len hs.1.2
    have b : t.mod.size ≤ 20 := by
      rcases hs.2 with h | h
      · exact small_len h
      · have : t.mod.size = 0 := by simpa [emptyB] using h
        omega
    have c := len_size t.mod
    have d := len_size t.name
    rw [if_neg (by omega)]
    split <;> simp only [List.length_append, List.length_cons, List.length_nil, c, d] <;> omega
  rw [if_neg k8] at hs
  by_cases k9 : t.kind = 9
  · rw [if_pos k9] at hs ⊢
    simp only [Bool.and_eq_true, decide_eq_true_eq] at hs
    obtain ⟨⟨⟨⟨⟨-, h1⟩, h2⟩, h3⟩, h4⟩, h5⟩ := hs
    have a := small_len h1
    have b := small_len h2
    have c := great_len h3
    have d := dec_size t.major (by omega) (by omega)
    have e1 := len_size t.pkg
    have e2 := len_size t.mod
    have e3 := len_size t.name
    have e4 := len_size (dec t.major)
    simp only [List.length_append, List.length_cons, List.length_nil, e1, e2, e3, e4]
    omega
  · rw [if_neg k9] at hs
    cases hs
mutual
theorem text_len : ∀ t : Ty, allOk t = true → (textT t).length + 24 ≤ 124 * many t
  | .mk k p m d n ns ss, h => by
    rw [allOk_eq] at h
    simp only [Bool.and_eq_true] at h
    exact own_len _ h.1 (texts_len ss h.2)
theorem texts_len : ∀ l : List Ty, allOkL l = true → ∀ s, s ∈ l → (textT s).length + 24 ≤ 124 * many s
  | a :: r, h, s, hs => by
    unfold allOkL at h
    simp only [Bool.and_eq_true] at h
    rcases List.mem_cons.1 hs with e | hs
    · rw [e]; exact text_len a h.1
    · exact texts_len r h.2 s hs
end

end Go.Proofs.YtnnppdlhmcobcaaDoor.M
